import PyProof.Rows.All
import Wide.All
import OpenK.AllK
import Wide.FinOn
import HandS.ForMost
import HandS.Style
import HandS.TupAny
import HandS.Flow
import HandS.Star
import HandS.IsInst
import HandS.Rev
import HandS.Evl
import HandS.More
import HandS.DictComp
import HandS.Wide
import HandS.Walk
import KE.LtSeq
import KE.LtData
import HandS.SortKw
import KE.KSortKey
import KE.SortCalls
import HandS.Exc
import HandS.WordsExc
import HandS.ExcInit
import HandS.ExcField
import HandS.ExcIs
import HandS.ForExc
import KE.KExcIs
import PyProof.ReprRoads
import PyProof.CallFns
import HandS.Ends
import PyProof.AutoSeq1
import HandS.Dict
import PyProof.TupleKey
import PyProof.P3Eq
import HandS.WideBits
import HandS.CallLocal
import HandS.TryMany
import HandS.Zip
import HandS.EndTab
import HandS.Defaults
import PySem.Challenge.RW_hornmill_k44_whole_solutions_grouped
import HandS.ListItems
import KE.KDictZip
import HandS.SetKeys
import HandS.Conv
import HandS.ExcOwn
import PyProof.ReprReads
import PyProof.StrLawsRepr
import PyProof.Rows.RegStrFacts
import PyProof.ReprText
set_option Elab.async false
set_option linter.all false
set_option maxRecDepth 100000
set_option maxHeartbeats 4000000
namespace Hm
open PySem PySem.Spec PyProof.Rows L2 HT

/-! ## rules that the layer lacks -/
section
variable {prog : Program} {w : World} {A : Around} {E : Value → Shared → Prop} {s : Shared}
theorem sliceApplied_back {sl : Addr} {n : Nat} {ti : Tok} {Q : Int × Int × Nat → Shared → Prop} (hs : s.heap.IsSliceOf sl .none .none (.int (-1) ti))
    (h : Q ((n : Int) - 1, -1, n) s) : wpAny (model prog w) A (Builtin.Slice.sliceApplied (.ref sl) (pure (n : Int))) Q E s := by
  obtain ⟨os, hos, hcs, hds⟩ := id hs
  unfold Builtin.Slice.sliceApplied Builtin.Slice.sliceFields
  refine wpAny_bind (wpAny_bind (wpAny_field hos hds (x := .none) rfl (wpAny_bind (wpAny_field hos hds (x := .none) rfl (wpAny_bind (wpAny_field hos hds (x := .int (-1) ti) rfl (wpAny_pure ?_)))))))
  refine wpAny_bind (slicePart_ (.int (-1) ti) ?_)
  show wpAny _ _ (if ((-1 : Int) == 0) = true then _ else _) _ _ s
  rw [if_neg (by decide)]
  refine wpAny_bind (slicePart_ .none (wpAny_bind (slicePart_ .none (wpAny_bind (wpAny_pure ?_)))))
  show wpAny _ _ (pure ((n : Int) - 1, (-1 : Int), Builtin.Slice.slicePlaces ((n : Int) - 1) (-1) (-1))) _ _ s
  have e : Builtin.Slice.slicePlaces ((n : Int) - 1) (-1) (-1) = n := by
    unfold Builtin.Slice.slicePlaces
    rw [if_neg (by decide)]
    by_cases hn : (n : Int) - 1 > -1
    · rw [if_pos hn]
      have : -(-1 : Int) = 1 := by decide
      rw [this, Int.ediv_one]
      omega
    · rw [if_neg hn]
      omega
  rw [e]
  exact wpAny_pure h
theorem fm_congr {α β : Type} {f g : α → Option β} : ∀ l : List α, (∀ x ∈ l, f x = g x) → l.filterMap f = l.filterMap g
  | [], _ => rfl
  | x :: r, h => by
    rw [List.filterMap_cons, List.filterMap_cons, h x List.mem_cons_self, fm_congr r fun y hy => h y (List.mem_cons_of_mem _ hy)]
theorem pick_back (xs : List Value) : ((List.range xs.toArray.size).filterMap fun (k : Nat) => xs.toArray[(((xs.toArray.size : Nat) : Int) - 1 + (k : Int) * -1).toNat]?).toArray = xs.reverse.toArray := by
  apply congrArg List.toArray
  have key : ∀ m : Nat, m ≤ xs.length → ((List.range m).filterMap fun (k : Nat) => xs[xs.length - 1 - k]?) = xs.reverse.take m := by
    intro m
    induction m with
    | zero => intro _; simp
    | succ m ih =>
      intro hm
      rw [List.range_succ, List.filterMap_append, ih (by omega), List.take_add_one]
      congr 1
      have hlt : xs.length - 1 - m < xs.length := by omega
      rw [List.getElem?_reverse (by omega)]
      simp [List.getElem?_eq_getElem hlt]
  have k2 := key xs.length (Nat.le_refl _)
  rw [List.take_of_length_le (by simp)] at k2
  rw [← k2, List.size_toArray]
  refine fm_congr _ fun k hk => ?_
  have hk' : k < xs.length := List.mem_range.mp hk
  have e : (((xs.length : Nat) : Int) - 1 + (k : Int) * -1).toNat = xs.length - 1 - k := by omega
  rw [e]
  simp
theorem getItem_tuple_back {t sl : Addr} {items : List Value} {ti : Tok} {Q : Value → Shared → Prop} (ht : IsTup s.heap t items.toArray) (hs : s.heap.IsSliceOf sl .none .none (.int (-1) ti))
    (h : Q (.ref s.heap.objs.size) { s with heap := s.heap.push { cls := .type "tuple", data := .seq items.reverse.toArray } })
    (hsz : items.length ≤ sizeLine) : wpAny (model prog w) A (getItem (.ref t) (.ref sl)) Q E s := by
  have htake : sizeOk (.seq items.reverse.toArray) := by
    show items.reverse.toArray.size ≤ sizeLine
    rw [List.size_toArray, List.length_reverse]
    exact hsz
  obtain ⟨os, hos, hcs, hds⟩ := id hs
  have hTs : s.TypeIs (.ref sl) "slice" := ⟨os, hos, hcs⟩
  unfold getItem
  try with_reducible refine wpAny_holding ?_
  first | refine wpAny_bind (wpAny_pure ?_) | skip
  refine wpAny_bind (wpAny_sequenceKey ht.typeIs (by decide) ?_)
  refine wpAny_bind (wpAny_callSpecial?_slot (name := Str.ofString "__getitem__") ht.typeIs PyProof.Rows.slot_tuple_getitem
    (wpAny_call_entry PyProof.Rows.slot_tuple_getitem ht.typeIs entry_tuple_getitem ?_ (args_tuple_getitem _ _)))
  show wpAny _ _ (Builtin.Tuple.tupleItemsOf (.ref t) >>= _) _ _ s
  refine wpAny_bind (tupleItemsOf_ ht ?_)
  refine wpAny_bind (wpAny_typeOf hTs ?_)
  rw [if_pos (by decide)]
  refine wpAny_bind (sliceApplied_back hs ?_)
  have hno : ¬ ((((items.toArray.size : Nat) : Int) - 1 == 0 && (-1 : Int) == 1 && items.toArray.size == items.toArray.size) = true) := by
    intro q
    rw [Bool.and_eq_true, Bool.and_eq_true] at q
    exact absurd q.1.2 (by decide)
  show wpAny _ _ (if (((items.toArray.size : Nat) : Int) - 1 == 0 && (-1 : Int) == 1 && items.toArray.size == items.toArray.size) = true then _ else _) _ _ s
  rw [if_neg hno, pick_back]
  first
    | exact wpAny_bind (m := Builtin.Tuple.tupleExact _) (wpAny_newObj_type (wpAny_pure ⟨_, rfl, wpAny_pure h⟩) htake)
    | exact wpAny_bind (m := Builtin.Tuple.tupleExact _) (wpAny_newObj_type (wpAny_bind (wpAny_pure (wpAny_pure ⟨_, rfl, wpAny_pure h⟩))) htake)
    | exact wpAny_bind (wpAny_bind (m := Builtin.Tuple.tupleExact _) (wpAny_newObj_type (wpAny_pure (wpAny_pure ⟨_, rfl, wpAny_pure h⟩)) htake))
    | exact wpAny_bind (wpAny_bind (m := Builtin.Tuple.tupleExact _) (wpAny_newObj_type (wpAny_pure ⟨_, rfl, wpAny_pure h⟩) htake))
end

/-- t[::-1] of a tuple -/
def tRevT (K : PySem.W.Frag) (te : TE) : TE := fun σ H Q => te σ H fun x H1 => ∃ a xs, x = .ref a ∧ SqT K H1 a xs ∧ ∀ p, H1 p = none → Q (.ref p) (upd H1 p (.tup xs.reverse))
section
variable {X : Cx}
theorem pe_revT {e : Expr} {te : TE} {k : Nat} {p1 p2 p3 pos : Pos} (he : PE X e te) : PE X (.Subscript e (.Slice none none (some (.UnaryOp .USub (.Constant (.int 1) k p1) p2)) p3) pos) (tRevT X.K te) := by
  refine ⟨fun pins s σ H Q I h => ?_⟩
  refine Subscript_ (thn (he.run pins s σ H _ I h) fun v s1 ⟨x, H1, I1, r1, q1⟩ => ?_)
  obtain ⟨a, xs, ex, hx, q⟩ := q1
  subst ex
  cases r1
  have hst : PO X (some (.UnaryOp .USub (.Constant (.int 1) k p1) p2)) (tPart (tUn (rU fun i => .int (-i)) (tC (.int 1)))) := po_some (pe_un un_neg pe_int)
  refine wpAny_Slice (thn (po_none.run pins s1 σ H1 (fun o H2 => o = none ∧ H2 = H1) I1 ⟨rfl, rfl⟩) fun vl s2 ⟨l, H2, I2, pl, el, e2⟩ => ?_)
  subst el e2
  refine thn (po_none.run pins s2 σ H2 (fun o H3 => o = none ∧ H3 = H2) I2 ⟨rfl, rfl⟩) fun vu s3 ⟨u, H3, I3, pu, eu, e3⟩ => ?_
  subst eu e3
  refine thn (hst.run pins s3 σ H3 (fun o H4 => o = some (-1) ∧ H4 = H3) I3 ⟨1, rfl, -1, rfl, rfl, rfl⟩) fun vs s4 ⟨o, H4, I4, ps, eo, e4⟩ => ?_
  subst eo e4
  cases pl
  cases pu
  obtain ⟨ti, rfl⟩ : ∃ ti, vs = Value.int (-1) ti := by
    cases ps
    exact ⟨_, rfl⟩
  have I5 : Inv X pins σ H4 { s4 with heap := s4.heap.push { cls := .type "slice", data := .fields #[Value.none, Value.none, Value.int (-1) ti] } } := I4.kept (t' := s4.toks) fun b ob q => Heap.get?_push_of_some _ q
  obtain ⟨its, r, ht, hz⟩ := I5.tuple hx
  have hlen := r.length
  show wpAny (model X.prog X.w) X.A (subscriptTail e (.Slice none none (some (.UnaryOp .USub (.Constant (.int 1) k p1) p2)) p3) (.ref a) (.ref s4.heap.objs.size)) (EP X pins σ Q) X.xe { s4 with heap := s4.heap.push { cls := .type "slice", data := .fields #[Value.none, Value.none, Value.int (-1) ti] } }
  refine tail_any (ops := [.ref a, .ref s4.heap.objs.size]) ht.typeIs (PyProof.Rows.slot_tuple_getitem.lookup) ?_ (by with_unfolding_all rfl)
  refine getItem_tuple_back ht (Heap.IsSliceOf.new _ Value.none Value.none (Value.int (-1) ti)) ?_ (by rw [← hlen]; exact hz)
  refine ⟨.ref _, _, I5.laid (t' := s4.toks) (o := .tup xs.reverse) (fun b ob q => Heap.get?_push_of_some _ q) (Nat.le_refl _) ?_, rfl, q _ (I5.hok.fresh (Nat.le_refl _))⟩
  exact ⟨by rw [List.length_reverse]; exact hz, _, r.reverse, IsTup.new _ _⟩
end

/-! ### xs[:-m-1:-1] of a list: the last m, the last one first -/
def tBackL (K : PySem.W.Frag) (te tu : TE) : TE := fun σ H Q => te σ H fun x H1 => tPart tu σ H1 fun o H2 => ∃ (a : Addr) (xs : List V) (m : Nat), x = .ref a ∧ o = some (-(m : Int) - 1) ∧ SqL K H2 a xs ∧ m ≤ xs.length ∧ ∀ p, H2 p = none → Q (.ref p) (upd H2 p (.lst (xs.drop (xs.length - m)).reverse))
theorem back_bounds (n m : Nat) (h : m ≤ n) : sliceBounds none (some (-(m : Int) - 1)) (some (-1)) n = ((n : Int) - 1, (n : Int) - m - 1, -1) := by
  have h1 : -(m : Int) - 1 < 0 := by omega
  have h2 : ¬ ((-1 : Int) > 0) := by decide
  simp only [sliceBounds, Option.getD_some, h1, h2, if_true, if_false]
  have e : max (-1) (min (-(m : Int) - 1 + n) ((n : Int) - 1)) = (n : Int) - m - 1 := by omega
  rw [e]
theorem back_range (n m : Nat) (h : m ≤ n) : sliceRange ((n : Int) - 1) ((n : Int) - m - 1) (-1) = (List.range m).map fun k => n - 1 - k := by
  unfold sliceRange
  have h1 : ¬ ((-1 : Int) > 0) := by decide
  by_cases hm : (n : Int) - 1 > (n : Int) - m - 1
  · have e : ((n : Int) - 1 - ((n : Int) - m - 1) - -1 - 1) / (- -1) = (m : Int) := by
      rw [show (- -1 : Int) = 1 by decide, Int.ediv_one]
      omega
    simp only [h1, if_false, hm, if_true, e, Int.toNat_natCast]
    apply List.map_congr_left
    intro k hk
    have := List.mem_range.mp hk
    omega
  · have e : m = 0 := by omega
    subst e
    simp
theorem back_pick (xs : List Value) (m : Nat) (h : m ≤ xs.length) : slicePick xs.toArray none (some (-(m : Int) - 1)) (some (-1)) = ((xs.drop (xs.length - m)).reverse).toArray := by
  unfold slicePick
  rw [List.size_toArray, back_bounds _ _ h]
  show ((sliceRange ((xs.length : Int) - 1) ((xs.length : Int) - m - 1) (-1)).filterMap (xs.toArray[·]?)).toArray = _
  rw [back_range _ _ h]
  apply congrArg List.toArray
  rw [List.filterMap_map]
  have key : ∀ j : Nat, j ≤ xs.length → ((List.range j).filterMap fun (k : Nat) => xs[xs.length - 1 - k]?) = xs.reverse.take j := by
    intro j
    induction j with
    | zero => intro _; simp
    | succ j ih =>
      intro hm
      rw [List.range_succ, List.filterMap_append, ih (by omega), List.take_add_one]
      congr 1
      have hlt : xs.length - 1 - j < xs.length := by omega
      rw [List.getElem?_reverse (by omega)]
      simp [List.getElem?_eq_getElem hlt]
  have e : ((fun x : Nat => xs.toArray[x]?) ∘ fun k => xs.length - 1 - k) = fun k => xs[xs.length - 1 - k]? := by
    funext k
    simp
  rw [e, key m h, List.take_reverse]
section
variable {X : Cx}
theorem pe_backL {e u : Expr} {te tu : TE} {k : Nat} {p1 p2 p3 pos : Pos} (he : PE X e te) (hu : PE X u tu) : PE X (.Subscript e (.Slice none (some u) (some (.UnaryOp .USub (.Constant (.int 1) k p1) p2)) p3) pos) (tBackL X.K te tu) := by
  refine ⟨fun pins s σ H Q I h => ?_⟩
  refine Subscript_ (thn (he.run pins s σ H _ I h) fun v s1 ⟨x, H1, I1, r1, q1⟩ => ?_)
  have hup : PO X (some u) (tPart tu) := po_some hu
  have hst : PO X (some (.UnaryOp .USub (.Constant (.int 1) k p1) p2)) (tPart (tUn (rU fun i => .int (-i)) (tC (.int 1)))) := po_some (pe_un un_neg pe_int)
  refine wpAny_Slice (thn (po_none.run pins s1 σ H1 (fun o H2 => o = none ∧ H2 = H1) I1 ⟨rfl, rfl⟩) fun vl s2 ⟨l, H2, I2, pl, el, e2⟩ => ?_)
  subst el e2
  refine thn (hup.run pins s2 σ H2 (fun o H3 => ∃ (a : Addr) (xs : List V) (m : Nat), x = .ref a ∧ o = some (-(m : Int) - 1) ∧ SqL X.K H3 a xs ∧ m ≤ xs.length ∧ ∀ p, H3 p = none → Q (.ref p) (upd H3 p (.lst (xs.drop (xs.length - m)).reverse))) I2 q1) fun vu s3 ⟨u', H3, I3, pu, qu⟩ => ?_
  obtain ⟨a, xs, m, ex, eu, hx, hm, q⟩ := qu
  subst ex eu
  refine thn (hst.run pins s3 σ H3 (fun o H4 => o = some (-1) ∧ H4 = H3) I3 ⟨1, rfl, -1, rfl, rfl, rfl⟩) fun vs s4 ⟨o, H4, I4, ps, eo, e4⟩ => ?_
  subst eo e4
  cases r1
  have I5 : Inv X pins σ H4 { s4 with heap := s4.heap.push { cls := .type "slice", data := .fields #[vl, vu, vs] } } := I4.kept (t' := s4.toks) fun b ob q => Heap.get?_push_of_some _ q
  obtain ⟨its, r, ht, hz⟩ := I5.list hx
  have hlen := r.length
  show wpAny (model X.prog X.w) X.A (subscriptTail e (.Slice none (some u) (some (.UnaryOp .USub (.Constant (.int 1) k p1) p2)) p3) (.ref a) (.ref s4.heap.objs.size)) (EP X pins σ Q) X.xe { s4 with heap := s4.heap.push { cls := .type "slice", data := .fields #[vl, vu, vs] } }
  refine tail_any (ops := [.ref a, .ref s4.heap.objs.size]) ht.isList.typeIs (PySem.slot_list_getitem.lookup) ?_ (by with_unfolding_all rfl)
  refine wpAny_getItem_list_slice ht.isList (Heap.IsSliceOf.new _ vl vu vs) pl pu ps (by decide) ?_ (by rw [List.size_toArray]; omega)
  rw [back_pick its m (by omega)]
  refine ⟨.ref _, _, I5.laid (t' := s4.toks) (o := .lst (xs.drop (xs.length - m)).reverse) (fun b ob q => Heap.get?_push_of_some _ q) (Nat.le_refl _) ?_, rfl, q _ (I5.hok.fresh (Nat.le_refl _))⟩
  refine ⟨by rw [List.length_reverse, List.length_drop]; omega, _, 0, ?_, Heap.get?_push_size _ rfl⟩
  rw [hlen]
  exact (r.drop _).reverse
end

/-! ### del xs[-m:] of a list, 1 ≤ m -/
def sel (start stop step : Int) (i : Nat) : Bool :=
  if step > 0 then start ≤ i && i < stop && (i - start) % step == 0
  else stop < i && i ≤ start && (start - i) % (-step) == 0
theorem del_bounds (n m : Nat) (h : m ≤ n) (h1 : 1 ≤ m) : sliceBounds (some (-(m : Int))) none none n = ((n : Int) - m, (n : Int), 1) := by
  have h2 : -(m : Int) < 0 := by omega
  have h3 : (1 : Int) > 0 := by decide
  simp only [sliceBounds, Option.getD_none, h2, h3, if_true]
  have e : max 0 (min (-(m : Int) + n) (n : Int)) = (n : Int) - m := by omega
  rw [e]
theorem del_keep (n m : Nat) (h : m ≤ n) (xs : List Value) : ∀ k : Nat, k + xs.length = n →
    ((xs.zipIdx k).filterMap fun (p : Value × Nat) => if sel ((n : Int) - m) (n : Int) 1 p.2 then none else some p.1) = xs.take (n - m - k) := by
  induction xs with
  | nil => intro k _; simp
  | cons x r ih =>
    intro k hk
    rw [List.length_cons] at hk
    rw [List.zipIdx_cons, List.filterMap_cons]
    have hs : sel ((n : Int) - m) (n : Int) 1 k = decide (n - m ≤ k) := by
      unfold sel
      rw [if_pos (by decide), Int.emod_one]
      by_cases q : n - m ≤ k
      · have q1 : (n : Int) - m ≤ (k : Int) := by omega
        have q2 : (k : Int) < (n : Int) := by omega
        simp [q, q1, q2]
      · have q1 : ¬ (n : Int) - m ≤ (k : Int) := by omega
        simp [q, q1]
    have i2 := ih (k + 1) (by omega)
    rw [i2]
    dsimp only
    rw [hs]
    by_cases q : n - m ≤ k
    · rw [if_pos (by simpa using q)]
      have e1 : n - m - (k + 1) = 0 := by omega
      have e2 : n - m - k = 0 := by omega
      rw [e1, e2]
      simp
    · rw [if_neg (by simpa using q)]
      have e1 : n - m - k = (n - m - (k + 1)) + 1 := by omega
      rw [e1, List.take_succ_cons]
section
variable {prog : Program} {w : World} {A : Around} {E : Value → Shared → Prop} {s : Shared}
theorem delItem_tail {l sl : Addr} {its : List Value} {n m : Nat} {ti : Tok} {Q : Unit → Shared → Prop}
    (e : s.heap.get? l = some { cls := .type "list", data := .seq its.toArray n }) (hs : s.heap.IsSliceOf sl (.int (-(m : Int)) ti) .none .none) (h1 : 1 ≤ m) (hm : m ≤ its.length) (hsz : its.length ≤ sizeLine)
    (h : ∀ f : Array Value → Array Value, f its.toArray = (its.take (its.length - m)).toArray → Q () { s with heap := s.heap.update l (Obj.mapSeq f) }) :
    wpAny (model prog w) A (delItem (.ref l) (.ref sl)) Q E s := by
  have hl : s.heap.IsList l its.toArray := PySem.IsL.isList e
  obtain ⟨os, hos, hcs, hds⟩ := id hs
  have hTs : s.TypeIs (.ref sl) "slice" := ⟨os, hos, hcs⟩
  have hstep : ¬ ((rawPart none == rawInt 0) = true) := Bool.false_ne_true
  refine wpAny_delItem_slot hl.typeIs (by decide) PySem.F.slot_list_delitem
    (wpAny_call_entry PySem.F.slot_list_delitem hl.typeIs PySem.F.entry_list_delitem ?_ (PySem.F.args_list_delitem_2 _ _))
  show wpAny _ _ (Builtin.List.listSubscript? (.ref sl) >>= _) _ _ s
  refine wpAny_bind ?_
  unfold Builtin.List.listSubscript?
  refine wpAny_bind (wpAny_specialOf hTs slice_no_index ?_)
  simp only [Option.isNone_none, if_true]
  refine wpAny_pure ?_
  show wpAny _ _ (typeOf (.ref sl) >>= _) _ _ s
  refine wpAny_bind (wpAny_typeOf hTs ?_)
  first
    | rw [if_neg (by decide)]
    | refine PySem.W.KFB.if_not (by decide) ?_
  rw [listSliceParts_eq]
  refine wpAny_bind (wpAny_bind (wpAny_field hos hds (x := .none) rfl (wpAny_bind (wpAny_listPart .none ?_))))
  rw [if_neg hstep]
  refine wpAny_bind (wpAny_field hos hds (x := .int (-(m : Int)) ti) rfl (wpAny_bind (wpAny_listPart (.int (-(m : Int)) ti) ?_)))
  refine wpAny_bind (wpAny_field hos hds (x := .none) rfl (wpAny_bind (wpAny_listPart .none (wpAny_pure ?_))))
  unfold Builtin.List.listItems
  refine wpAny_bind (wpAny_bind (wpAny_seqItems e rfl (wpAny_pure ?_)))
  refine wpAny_bind (wpAny_of_eq ((sliceIndices_raw (some (-(m : Int))) none none its.toArray.size (by simp)).trans (congrArg (pure : Int × Int × Int → Sem (Int × Int × Int)) (show sliceBounds (some (-(m : Int))) none none its.toArray.size = ((its.length : Int) - m, (its.length : Int), 1) from del_bounds its.length m hm h1))) ?_)
  refine wpAny_bind (wpAny_rule ?_)
  have hf := congrArg List.toArray (del_keep its.length m hm its 0 (Nat.zero_add _))
  rw [Nat.sub_zero] at hf
  show wpAny _ _ (updateSeq l (fun xs : Array Value => (xs.toList.zipIdx.filterMap fun (p : Value × Nat) => if sel ((its.length : Int) - m) (its.length : Int) 1 p.2 then none else some p.1).toArray) >>= _) _ _ s
  have hf' : (fun xs : Array Value => (xs.toList.zipIdx.filterMap fun (p : Value × Nat) => if sel ((its.length : Int) - m) (its.length : Int) 1 p.2 then none else some p.1).toArray) its.toArray = (its.take (its.length - m)).toArray := hf
  have hz2 : ((fun xs : Array Value => (xs.toList.zipIdx.filterMap fun (p : Value × Nat) => if sel ((its.length : Int) - m) (its.length : Int) 1 p.2 then none else some p.1).toArray) its.toArray).size ≤ sizeLine + 1 := by
    rw [hf', List.size_toArray, List.length_take]
    omega
  refine wpAny_bind (wpAny_updateSeq (hz := by rw [List.size_toArray]; exact hsz) (_hz' := hz2) e rfl ?_)
  refine wpAny_bind (wpAny_letGo ?_)
  have k := h (fun xs : Array Value => (xs.toList.zipIdx.filterMap fun (p : Value × Nat) => if sel ((its.length : Int) - m) (its.length : Int) 1 p.2 then none else some p.1).toArray) hf'
  first
    | exact wpAny_bind (wpAny_pure (wpAny_pure ⟨.none, rfl, k⟩))
    | exact wpAny_pure ⟨.none, rfl, k⟩
end
def tDelTail (te tu : TE) : TS := fun D σ H => te σ H fun x H1 => tPart tu σ H1 fun o H2 => ∃ (l : Addr) (xs : List V) (m : Nat), x = .ref l ∧ o = some (-(m : Int)) ∧ H2 l = some (.lst xs) ∧ 1 ≤ m ∧ m ≤ xs.length ∧ D.nx σ (upd H2 l (.lst (xs.take (xs.length - m))))
section
variable {X : Cx}
theorem ps_delTail {e u : Expr} {te tu : TE} {p3 tpos pos : Pos} (he : PE X e te) (hu : PE X u tu) : PS X (.Delete [.Subscript e (.Slice (some u) none none p3) tpos] pos) (tDelTail te tu) := by
  refine ⟨fun pins s σ H D I h => ?_⟩
  refine wpAny_Delete (wpAny_deleteEach_cons (wpAny_delete_Subscript (thn (he.run pins s σ H _ I h) fun v s1 ⟨x, H1, I1, r1, q1⟩ => ?_)))
  have hup : PO X (some u) (tPart tu) := po_some hu
  refine wpAny_Slice (thn (hup.run pins s1 σ H1 (fun o H2 => ∃ (l : Addr) (xs : List V) (m : Nat), x = .ref l ∧ o = some (-(m : Int)) ∧ H2 l = some (.lst xs) ∧ 1 ≤ m ∧ m ≤ xs.length ∧ D.nx σ (upd H2 l (.lst (xs.take (xs.length - m))))) I1 q1) fun vl s2 ⟨o, H2, I2, pl, q2⟩ => ?_)
  obtain ⟨l, xs, m, ex, eo, hH, h1, hm, q⟩ := q2
  subst ex eo
  cases r1
  rw [evalPart_none]
  refine wpAny_pure ?_
  refine wpAny_pure ?_
  obtain ⟨i, ti, rfl, ei⟩ : ∃ i ti, vl = Value.int i ti ∧ i = -(m : Int) := by
    cases pl
    exact ⟨_, _, rfl, rfl⟩
  subst ei
  have I5 : Inv X pins σ H2 { s2 with heap := s2.heap.push { cls := .type "slice", data := .fields #[.int (-(m : Int)) ti, Value.none, Value.none] } } := I2.kept (t' := s2.toks) fun b ob q => Heap.get?_push_of_some _ q
  obtain ⟨z, its, n, r, hl, e5⟩ := I5.lstM hH
  refine delItem_tail e5 (Heap.IsSliceOf.new _ (.int (-(m : Int)) ti) Value.none Value.none) h1 (by omega) (by omega) fun f hf => wpAny_deleteEach_nil ⟨σ, _, ?_, q⟩
  refine I5.lset (its' := its.take (its.length - m)) (t' := s2.toks) hH e5 hf ?_ (by rw [List.length_take]; omega)
  rw [hl]
  exact r.take _
end

/-! ### xs.extend(a tuple) -/
section
open AutoSeq1
theorem list_extend_tupW (l : Addr) (items : Array Value) (n : Nat) (b : Addr) (items2 : Array Value) (n2 : Nat) (dd : Option Addr) (sl : Array (Option Value)) (hs0 : ¬(!items.isEmpty && Builtin.List.listTooLong (items.size + items2.size)) = true) (hs1 : items.size ≤ sizeLine) (hs2 : items.size + items2.size ≤ sizeLine + 1) :
    Meets (Builtin.«list.extend» ⟨[.ref l, .ref b], []⟩) (fun _ R s => s.heap.get? l = some { cls := .type "list", dict := none, data := .seq items n, slots := #[] } ∧ s.heap.get? b = some { cls := .type "tuple", dict := dd, data := .seq items2 n2, slots := sl } ∧ R (.ok (.ret Value.none)) { s with heap := s.heap.update l (Obj.mapSeq fun x => x ++ items2), toks := s.toks }) :=
  .of_wp fun prog w A R s h => by
    obtain ⟨hp, g, d, tk, os⟩ := s; obtain ⟨hl, hb, h⟩ := h; have f1 := AutoSeq1.idx_int; have f2 := AutoSeq1.sub_tuple_tuple; have f3 := AutoSeq1.sub_list_list; have f4 := AutoSeq1.sub_tuple_list; have f5 := AutoSeq1.sub_list_tuple;
    have hz' : (items ++ items2).size ≤ sizeLine + 1 := by rw [Array.size_append]; exact hs2
    wp_walk using (wpAny_updateSeq hl rfl (hz := hs1) (_hz' := hz')), wpAny_loadPart' hl, wpAny_loadPart' hb; exact ⟨_, rfl, h⟩
end
def rExtT (K : PySem.W.Frag) : V → List V → Hp → VK → Prop := fun x vs H Q => ∃ l b xs zs, x = .ref l ∧ vs = [.ref b] ∧ H l = some (.lst xs) ∧ SqT K H b zs ∧ xs.length + zs.length ≤ sizeLine ∧ Q .non (upd H l (.lst (xs ++ zs)))
section
variable {X : Cx}
theorem mt_extT : MtR X "list.extend" (rExtT X.K) := by
  intro pins s σ H x vs v us Q I rx rv h
  obtain ⟨l, b, xs, zs, rfl, rfl, hH, hB, hz, q⟩ := h
  cases rx
  obtain ⟨u, rfl, ru⟩ := rv.one
  cases ru
  obtain ⟨z, its, n, r, hl, e⟩ := I.lstM hH
  obtain ⟨its2, r2, ⟨⟨oc, od, dt, sl⟩, e2, c2, n2, d2⟩, z2⟩ := I.tuple hB
  simp only at c2 d2
  subst c2 d2
  have hl2 := r2.length
  have hsz : its.toArray.size + its2.toArray.size ≤ sizeLine := by rw [List.size_toArray, List.size_toArray]; omega
  have hlong : ¬ (!its.toArray.isEmpty && Builtin.List.listTooLong (its.toArray.size + its2.toArray.size)) = true := by
    rw [notLongL hsz, Bool.and_false]
    exact Bool.false_ne_true
  refine call_meets PySem.F.slot_list_extend ⟨_, e, rfl⟩ PySem.F.entry_list_extend (PySem.F.args_list_extend_2 _ _)
    (list_extend_tupW l its.toArray n b its2.toArray n2 od sl hlong (by rw [List.size_toArray]; omega) (by omega)) ⟨e, e2, ?_⟩
  refine ⟨.non, _, I.lset (its' := its ++ its2) (t' := s.toks) hH e (by simp) (r.append r2) ?_, rfl, q⟩
  rw [List.length_append]
  omega
end
end Hm

set_option Elab.async false
set_option linter.all false
set_option maxRecDepth 100000
set_option maxHeartbeats 4000000
namespace Hm
open PySem PySem.Spec PyProof.Rows L2 HT

/-! ## terms, told in Lean -/
inductive Tm where
  | var (k : Int)
  | int (i : Int)
  | atom (s : Str)
  | comp (f : Str) (as : List Tm)

def Tm.args : Tm → List Tm
  | .comp _ as => as
  | _ => []
mutual
def size : Tm → Nat
  | .comp _ as => 1 + sizes as
  | _ => 1
def sizes : List Tm → Nat
  | [] => 0
  | t :: ts => size t + sizes ts
end
mutual
def depth : Tm → Nat
  | .comp _ as => 1 + depths as
  | _ => 1
def depths : List Tm → Nat
  | [] => 0
  | t :: ts => max (depth t) (depths ts)
end
mutual
/-- the parts, each ahead of its arguments -/
def pre : Tm → List Tm
  | .var k => [.var k]
  | .int i => [.int i]
  | .atom s => [.atom s]
  | .comp f as => .comp f as :: pres as
def pres : List Tm → List Tm
  | [] => []
  | t :: ts => pre t ++ pres ts
end
mutual
/-- variables replaced, all at once -/
def sub (g : Int → Tm) : Tm → Tm
  | .var k => g k
  | .int i => .int i
  | .atom s => .atom s
  | .comp f as => .comp f (subs g as)
def subs (g : Int → Tm) : List Tm → List Tm
  | [] => []
  | t :: ts => sub g t :: subs g ts
end
def AtomOk (s : Str) : Prop := s.cps.size ≤ 40 ∧ ∀ c ∈ s.cps.toList, 32 ≤ c ∧ c ≤ 126 ∧ c ≠ 37
def tooGreat : Int := (10 ^ 60) ^ 5
mutual
/-- a term as the document tells it -/
def Ok : Tm → Prop
  | .var k => 0 ≤ k
  | .int i => -tooGreat < i ∧ i < tooGreat
  | .atom s => AtomOk s
  | .comp f as => AtomOk f ∧ 1 ≤ as.length ∧ as.length ≤ 8 ∧ Oks as
def Oks : List Tm → Prop
  | [] => True
  | t :: ts => Ok t ∧ Oks ts
end

theorem sizes_cons (t : Tm) (ts : List Tm) : sizes (t :: ts) = size t + sizes ts := by rw [sizes]
theorem depths_cons (t : Tm) (ts : List Tm) : depths (t :: ts) = max (depth t) (depths ts) := by rw [depths]
theorem pres_cons (t : Tm) (ts : List Tm) : pres (t :: ts) = pre t ++ pres ts := by rw [pres]
theorem oks_cons (t : Tm) (ts : List Tm) : Oks (t :: ts) = (Ok t ∧ Oks ts) := by rw [Oks]
theorem size_pos : ∀ t : Tm, 1 ≤ size t
  | .var _ => Nat.le_refl _
  | .int _ => Nat.le_refl _
  | .atom _ => Nat.le_refl _
  | .comp _ as => by unfold size; omega
theorem sizes_app : ∀ xs ys : List Tm, sizes (xs ++ ys) = sizes xs + sizes ys
  | [], ys => by show sizes ys = sizes [] + sizes ys; unfold sizes; omega
  | x :: xs, ys => by
    show sizes (x :: (xs ++ ys)) = _
    rw [sizes_cons, sizes_cons, sizes_app xs ys]
    omega
theorem sizes_rev : ∀ xs : List Tm, sizes xs.reverse = sizes xs
  | [] => rfl
  | x :: xs => by
    rw [List.reverse_cons, sizes_app, sizes_rev xs, sizes_cons x xs]
    have : sizes [x] = size x := by simp [sizes]
    omega
theorem sizes_one (t : Tm) : sizes [t] = size t := by simp [sizes]
theorem size_eq : ∀ t : Tm, size t = 1 + sizes t.args
  | .var _ => by simp [size, Tm.args, sizes]
  | .int _ => by simp [size, Tm.args, sizes]
  | .atom _ => by simp [size, Tm.args, sizes]
  | .comp _ as => by simp [size, Tm.args]
theorem len_sizes : ∀ ts : List Tm, ts.length ≤ sizes ts
  | [] => Nat.zero_le _
  | t :: ts => by
    have h1 := size_pos t
    have h2 := len_sizes ts
    rw [List.length_cons]
    unfold sizes
    omega
theorem pre_eq : ∀ t : Tm, pre t = t :: pres t.args
  | .var _ => by simp [pre, Tm.args, pres]
  | .int _ => by simp [pre, Tm.args, pres]
  | .atom _ => by simp [pre, Tm.args, pres]
  | .comp _ as => by simp [pre, Tm.args]
theorem pres_app : ∀ xs ys : List Tm, pres (xs ++ ys) = pres xs ++ pres ys
  | [], ys => by simp [pres]
  | x :: xs, ys => by
    show pres (x :: (xs ++ ys)) = _
    rw [pres_cons, pres_cons, pres_app xs ys, List.append_assoc]
mutual
theorem len_pre : ∀ t : Tm, (pre t).length = size t
  | .var _ => rfl
  | .int _ => rfl
  | .atom _ => rfl
  | .comp f as => by
    unfold pre size
    rw [List.length_cons, len_pres as]
    omega
theorem len_pres : ∀ ts : List Tm, (pres ts).length = sizes ts
  | [] => rfl
  | t :: ts => by
    unfold pres sizes
    rw [List.length_append, len_pre t, len_pres ts]
end
theorem oks_app : ∀ {xs ys : List Tm}, Oks (xs ++ ys) ↔ Oks xs ∧ Oks ys
  | [], ys => by simp [Oks]
  | x :: xs, ys => by
    show Oks (x :: (xs ++ ys)) ↔ _
    rw [oks_cons, oks_cons, oks_app (xs := xs) (ys := ys)]
    constructor
    · rintro ⟨a, b, c⟩; exact ⟨⟨a, b⟩, c⟩
    · rintro ⟨⟨a, b⟩, c⟩; exact ⟨a, b, c⟩
theorem ok_args : ∀ {t : Tm}, Ok t → Oks t.args
  | .var _, _ => trivial
  | .int _, _ => trivial
  | .atom _, _ => trivial
  | .comp _ _, h => by unfold Ok at h; exact h.2.2.2
theorem depths_app : ∀ xs ys : List Tm, depths (xs ++ ys) = max (depths xs) (depths ys)
  | [], ys => by simp [depths]
  | x :: xs, ys => by
    show depths (x :: (xs ++ ys)) = _
    rw [depths_cons, depths_cons, depths_app xs ys]
    omega
theorem depth_eq : ∀ t : Tm, depth t = 1 + depths t.args
  | .var _ => by simp [depth, Tm.args, depths]
  | .int _ => by simp [depth, Tm.args, depths]
  | .atom _ => by simp [depth, Tm.args, depths]
  | .comp _ as => by simp [depth, Tm.args]
/-- the next layer -/
def layer (ts : List Tm) : List Tm := ts.flatMap Tm.args
theorem depths_layer : ∀ t ts, depths (t :: ts) = 1 + depths (layer (t :: ts))
  | t, [] => by
    unfold layer
    simp [depths, depth_eq]
  | t, u :: us => by
    have ih := depths_layer u us
    unfold layer at ih ⊢
    rw [List.flatMap_cons, depths_app]
    show max (depth t) (depths (u :: us)) = _
    rw [ih, depth_eq]
    omega
theorem sizes_layer : ∀ ts, sizes (layer ts) + ts.length = sizes ts
  | [] => rfl
  | t :: ts => by
    have ih := sizes_layer ts
    unfold layer at ih ⊢
    rw [List.flatMap_cons, sizes_app, List.length_cons, sizes_cons, size_eq t]
    omega

/-! ## variables, by first occurrence -/
def addNew (acc : List Int) (k : Int) : List Int := if k ∈ acc then acc else acc ++ [k]
def stepVar (acc : List Int) : Tm → List Int
  | .var k => addNew acc k
  | _ => acc
def varsOf (t : Tm) : List Int := (pre t).foldl stepVar []
theorem addNew_nodup {acc : List Int} {k : Int} (h : acc.Nodup) : (addNew acc k).Nodup := by
  unfold addNew
  by_cases q : k ∈ acc
  · rw [if_pos q]; exact h
  · rw [if_neg q, List.nodup_append]
    exact ⟨h, by simp, fun a ha b hb e => by
      simp only [List.mem_singleton] at hb
      subst hb
      subst e
      exact q ha⟩
theorem addNew_len (acc : List Int) (k : Int) : (addNew acc k).length ≤ acc.length + 1 := by
  unfold addNew
  split
  · omega
  · rw [List.length_append, List.length_singleton]; omega
theorem stepVar_nodup {acc : List Int} {t : Tm} (h : acc.Nodup) : (stepVar acc t).Nodup := by
  cases t <;> first | exact addNew_nodup h | exact h
theorem stepVar_len (acc : List Int) (t : Tm) : (stepVar acc t).length ≤ acc.length + 1 := by
  cases t <;> first | exact addNew_len acc _ | exact Nat.le_succ _
theorem fold_nodup : ∀ (ts : List Tm) {acc : List Int}, acc.Nodup → (ts.foldl stepVar acc).Nodup
  | [], _, h => h
  | t :: ts, _, h => fold_nodup ts (stepVar_nodup h)
theorem fold_len : ∀ (ts : List Tm) (acc : List Int), (ts.foldl stepVar acc).length ≤ acc.length + ts.length
  | [], _ => Nat.le_refl _
  | t :: ts, acc => by
    have h := fold_len ts (stepVar acc t)
    have h2 := stepVar_len acc t
    rw [List.foldl_cons, List.length_cons]
    omega
theorem varsOf_nodup (t : Tm) : (varsOf t).Nodup := fold_nodup _ List.nodup_nil
theorem varsOf_len (t : Tm) : (varsOf t).length ≤ size t := by
  have h := fold_len (pre t) []
  rw [len_pre, List.length_nil, Nat.zero_add] at h
  exact h

/-! ## rows, and what folding them gives -/
inductive Rw where
  | leaf (t : Tm)
  | node (f : Str) (n : Nat)
mutual
def rowOf (g : Int → Tm) : Tm → List Rw
  | .var k => [.leaf (g k)]
  | .int i => [.leaf (.int i)]
  | .atom s => [.leaf (.atom s)]
  | .comp f as => .node f as.length :: rowsOf g as
def rowsOf (g : Int → Tm) : List Tm → List Rw
  | [] => []
  | t :: ts => rowOf g t ++ rowsOf g ts
end
def rw1 (g : Int → Tm) : Tm → Rw
  | .var k => .leaf (g k)
  | .int i => .leaf (.int i)
  | .atom s => .leaf (.atom s)
  | .comp f as => .node f as.length
mutual
theorem row_pre (g : Int → Tm) : ∀ t : Tm, (pre t).map (rw1 g) = rowOf g t
  | .var _ => rfl
  | .int _ => rfl
  | .atom _ => rfl
  | .comp f as => by
    unfold pre rowOf
    rw [List.map_cons, row_pres g as]
    rfl
theorem row_pres (g : Int → Tm) : ∀ ts : List Tm, (pres ts).map (rw1 g) = rowsOf g ts
  | [] => rfl
  | t :: ts => by
    unfold pres rowsOf
    rw [List.map_append, row_pre g t, row_pres g ts]
end
/-- one turn of folding: the stack has its top at its end -/
def turn (r : Rw) (D : List Tm) : List Tm :=
  match r with
  | .leaf t => D ++ [t]
  | .node f n => D.take (D.length - n) ++ [.comp f (D.drop (D.length - n)).reverse]
theorem subs_len (g : Int → Tm) : ∀ ts : List Tm, (subs g ts).length = ts.length
  | [] => rfl
  | t :: ts => by
    unfold subs
    rw [List.length_cons, List.length_cons, subs_len g ts]
mutual
theorem fold_row (g : Int → Tm) : ∀ (t : Tm) (D : List Tm), (rowOf g t).foldr turn D = D ++ [sub g t]
  | .var _, _ => rfl
  | .int _, _ => rfl
  | .atom _, _ => rfl
  | .comp f as, D => by
    unfold rowOf sub
    rw [List.foldr_cons, fold_rows g as D]
    unfold turn
    have hl : (D ++ (subs g as).reverse).length - as.length = D.length := by
      rw [List.length_append, List.length_reverse, subs_len]
      omega
    dsimp only
    rw [hl, List.take_left' rfl, List.drop_left' rfl, List.reverse_reverse]
theorem fold_rows (g : Int → Tm) : ∀ (ts : List Tm) (D : List Tm), (rowsOf g ts).foldr turn D = D ++ (subs g ts).reverse
  | [], D => by simp [rowsOf, subs]
  | t :: ts, D => by
    unfold rowsOf subs
    rw [List.foldr_append, fold_rows g ts D, fold_row g t, List.reverse_cons, List.append_assoc]
end
/-- each node of a row finds its arguments on the stack -/
def Rooms : List Rw → List Tm → Prop
  | [], _ => True
  | r :: rs, D => Rooms rs D ∧ (match r with
    | .leaf _ => True
    | .node _ n => 1 ≤ n ∧ n ≤ (rs.foldr turn D).length)
theorem rooms_cons (r : Rw) (rs : List Rw) (D : List Tm) : Rooms (r :: rs) D = (Rooms rs D ∧ (match r with
    | .leaf _ => True
    | .node _ n => 1 ≤ n ∧ n ≤ (rs.foldr turn D).length)) := by
  cases r <;> rfl
theorem rooms_app : ∀ {xs ys : List Rw} {D : List Tm}, Rooms (xs ++ ys) D ↔ Rooms ys D ∧ Rooms xs (ys.foldr turn D)
  | [], ys, D => by simp [Rooms]
  | x :: xs, ys, D => by
    show Rooms (x :: (xs ++ ys)) D ↔ _
    rw [rooms_cons, rooms_cons, rooms_app (xs := xs) (ys := ys), List.foldr_append]
    constructor
    · rintro ⟨⟨a, b⟩, c⟩; exact ⟨a, b, c⟩
    · rintro ⟨a, b, c⟩; exact ⟨⟨a, b⟩, c⟩
mutual
theorem rooms_row (g : Int → Tm) : ∀ (t : Tm) (D : List Tm), Ok t → Rooms (rowOf g t) D
  | .var _, _, _ => ⟨trivial, trivial⟩
  | .int _, _, _ => ⟨trivial, trivial⟩
  | .atom _, _, _ => ⟨trivial, trivial⟩
  | .comp f as, D, h => by
    unfold Ok at h
    unfold rowOf
    refine ⟨rooms_rows g as D h.2.2.2, h.2.1, ?_⟩
    rw [fold_rows g as D, List.length_append, List.length_reverse, subs_len]
    omega
theorem rooms_rows (g : Int → Tm) : ∀ (ts : List Tm) (D : List Tm), Oks ts → Rooms (rowsOf g ts) D
  | [], _, _ => trivial
  | t :: ts, D, h => by
    unfold Oks at h
    unfold rowsOf
    exact rooms_app.mpr ⟨rooms_rows g ts D h.2, rooms_row g t _ h.1⟩
end

/-! ## how a heap bears a term -/
mutual
def Rep (K : PySem.W.Frag) (H : Hp) : Tm → V → Prop
  | .var k, v => ∃ a, v = .ref a ∧ SqT K H a [.int k]
  | .int i, v => v = .int i
  | .atom s, v => v = .str s
  | .comp f as, v => ∃ a vs, v = .ref a ∧ SqT K H a (.str f :: vs) ∧ Reps K H as vs
def Reps (K : PySem.W.Frag) (H : Hp) : List Tm → List V → Prop
  | [], vs => vs = []
  | t :: ts, vs => ∃ v ws, vs = v :: ws ∧ Rep K H t v ∧ Reps K H ts ws
end
/-- tuples stay -/
def Tups (K : PySem.W.Frag) (H H' : Hp) : Prop := ∀ a xs, SqT K H a xs → SqT K H' a xs
theorem Tups.refl {K : PySem.W.Frag} (H : Hp) : Tups K H H := fun _ _ h => h
theorem Tups.trans {K : PySem.W.Frag} {H H1 H2 : Hp} (a : Tups K H H1) (b : Tups K H1 H2) : Tups K H H2 := fun x xs h => b x xs (a x xs h)
theorem Tups.of {K : PySem.W.Frag} {H H' : Hp} (e : Evl.Ex H H') : Tups K H H' := fun _ _ h => Evl.ex_t e h
/-- a list of H is changed -/
theorem Tups.lst {K : PySem.W.Frag} {H : Hp} {l : Addr} {xs : List V} {o : HO} (h : H l = some (.lst xs)) : Tups K H (upd H l o) := fun a ys q => by
  rcases q with (q | ⟨ob, q⟩) | q
  · exact .inl (.inl (by rw [upd_ne (ne_of q h (by intro z; cases z))]; exact q))
  · exact .inl (.inr ⟨ob, by rw [upd_ne (ne_of q h (by intro z; cases z))]; exact q⟩)
  · exact .inr q
theorem tups_dk {K : PySem.W.Frag} {H : Hp} {l : Addr} {kvs : List (Key × V)} {o : HO} (h : H l = some (.dK kvs)) : Tups K H (upd H l o) := fun a ys q => by
  rcases q with (q | ⟨ob, q⟩) | q
  · exact .inl (.inl (by rw [upd_ne (ne_of q h (by intro z; cases z))]; exact q))
  · exact .inl (.inr ⟨ob, by rw [upd_ne (ne_of q h (by intro z; cases z))]; exact q⟩)
  · exact .inr q
section
variable {K : PySem.W.Frag} {H H' : Hp}
mutual
theorem Rep.mono (e : Tups K H H') : ∀ {t : Tm} {v : V}, Rep K H t v → Rep K H' t v
  | .var k, v, h => by
    unfold Rep at h ⊢
    obtain ⟨a, e1, q⟩ := h
    exact ⟨a, e1, e _ _ q⟩
  | .int i, v, h => by unfold Rep at h ⊢; exact h
  | .atom s, v, h => by unfold Rep at h ⊢; exact h
  | .comp f as, v, h => by
    unfold Rep at h ⊢
    obtain ⟨a, vs, e1, q, r⟩ := h
    exact ⟨a, vs, e1, e _ _ q, Reps.mono e r⟩
theorem Reps.mono (e : Tups K H H') : ∀ {ts : List Tm} {vs : List V}, Reps K H ts vs → Reps K H' ts vs
  | [], vs, h => by unfold Reps at h ⊢; exact h
  | t :: ts, vs, h => by
    unfold Reps at h ⊢
    obtain ⟨v, ws, e1, q, r⟩ := h
    exact ⟨v, ws, e1, Rep.mono e q, Reps.mono e r⟩
end
theorem Reps.nil : Reps K H [] [] := by unfold Reps; rfl
theorem Reps.cons {t : Tm} {ts : List Tm} {v : V} {vs : List V} (h : Rep K H t v) (r : Reps K H ts vs) : Reps K H (t :: ts) (v :: vs) := by
  unfold Reps
  exact ⟨v, vs, rfl, h, r⟩
theorem Reps.one {t : Tm} {v : V} (h : Rep K H t v) : Reps K H [t] [v] := Reps.cons h Reps.nil
theorem Reps.cons_inv {t : Tm} {ts : List Tm} {vs : List V} (h : Reps K H (t :: ts) vs) : ∃ v ws, vs = v :: ws ∧ Rep K H t v ∧ Reps K H ts ws := by
  unfold Reps at h
  exact h
theorem Reps.nil_inv {vs : List V} (h : Reps K H [] vs) : vs = [] := by
  unfold Reps at h
  exact h
theorem Reps.len : ∀ {ts : List Tm} {vs : List V}, Reps K H ts vs → ts.length = vs.length
  | [], vs, h => by rw [h.nil_inv] <;> rfl
  | t :: ts, vs, h => by
    obtain ⟨v, ws, e, _, r⟩ := h.cons_inv
    rw [e, List.length_cons, List.length_cons, Reps.len r]
theorem Reps.app : ∀ {ts us : List Tm} {vs ws : List V}, Reps K H ts vs → Reps K H us ws → Reps K H (ts ++ us) (vs ++ ws)
  | [], us, vs, ws, h, r => by rw [h.nil_inv]; exact r
  | t :: ts, us, vs, ws, h, r => by
    obtain ⟨v, xs, e, q, s⟩ := h.cons_inv
    rw [e]
    exact Reps.cons q (Reps.app s r)
theorem Reps.app_inv : ∀ {ts us : List Tm} {vs : List V}, Reps K H (ts ++ us) vs → ∃ v1 v2, vs = v1 ++ v2 ∧ Reps K H ts v1 ∧ Reps K H us v2
  | [], us, vs, h => ⟨[], vs, rfl, Reps.nil, h⟩
  | t :: ts, us, vs, h => by
    obtain ⟨v, ws, e, q, r⟩ := Reps.cons_inv (ts := ts ++ us) h
    obtain ⟨v1, v2, e2, r1, r2⟩ := Reps.app_inv r
    exact ⟨v :: v1, v2, by rw [e, e2]; rfl, Reps.cons q r1, r2⟩
theorem Reps.rev : ∀ {ts : List Tm} {vs : List V}, Reps K H ts vs → Reps K H ts.reverse vs.reverse
  | [], vs, h => by rw [h.nil_inv]; exact Reps.nil
  | t :: ts, vs, h => by
    obtain ⟨v, ws, e, q, r⟩ := h.cons_inv
    rw [e, List.reverse_cons, List.reverse_cons]
    exact Reps.app (Reps.rev r) (Reps.one q)
theorem Reps.get : ∀ {ts : List Tm} {vs : List V} {i : Nat} {v : V}, Reps K H ts vs → vs[i]? = some v → ∃ t, ts[i]? = some t ∧ Rep K H t v
  | [], vs, i, v, h, e => by rw [h.nil_inv] at e; simp at e
  | t :: ts, vs, i, v, h, e => by
    obtain ⟨w, ws, e1, q, r⟩ := h.cons_inv
    rw [e1] at e
    cases i with
    | zero =>
      have : w = v := by simpa using e
      subst this
      exact ⟨t, rfl, q⟩
    | succ i =>
      obtain ⟨u, h1, h2⟩ := Reps.get (i := i) r (by simpa using e)
      exact ⟨u, by simpa using h1, h2⟩
/-- the last one -/
theorem Reps.last {ts : List Tm} {t : Tm} {vs : List V} (h : Reps K H (ts ++ [t]) vs) : ∃ ws v, vs = ws ++ [v] ∧ Reps K H ts ws ∧ Rep K H t v := by
  obtain ⟨v1, v2, e, r1, r2⟩ := h.app_inv
  obtain ⟨v, ws, e2, q, r⟩ := r2.cons_inv
  rw [r.nil_inv] at e2
  exact ⟨v1, v, by rw [e, e2], r1, q⟩
theorem Reps.take {ts : List Tm} {vs : List V} (h : Reps K H ts vs) (n : Nat) : Reps K H (ts.take n) (vs.take n) := by
  induction n generalizing ts vs with
  | zero => exact Reps.nil
  | succ n ih =>
    cases ts with
    | nil => rw [h.nil_inv]; exact Reps.nil
    | cons t ts =>
      obtain ⟨v, ws, e, q, r⟩ := h.cons_inv
      rw [e, List.take_succ_cons, List.take_succ_cons]
      exact Reps.cons q (ih r)
theorem Reps.drop {ts : List Tm} {vs : List V} (h : Reps K H ts vs) (n : Nat) : Reps K H (ts.drop n) (vs.drop n) := by
  induction n generalizing ts vs with
  | zero => exact h
  | succ n ih =>
    cases ts with
    | nil => rw [h.nil_inv]; exact Reps.nil
    | cons t ts =>
      obtain ⟨v, ws, e, q, r⟩ := h.cons_inv
      rw [e, List.drop_succ_cons, List.drop_succ_cons]
      exact ih r
end
end Hm

set_option Elab.async false
set_option linter.all false
set_option maxRecDepth 100000
set_option maxHeartbeats 1000000
namespace Hm
open PySem PySem.Spec PyProof.Rows L2 HT
theorem oks_get : ∀ {ts : List Tm} {i : Nat} {t : Tm}, Oks ts → ts[i]? = some t → Ok t
  | [], i, _, _, e => by simp at e
  | u :: us, 0, t, h, e => by
    rw [oks_cons] at h
    have : u = t := by simpa using e
    exact this ▸ h.1
  | u :: us, i + 1, t, h, e => by
    rw [oks_cons] at h
    exact oks_get h.2 (by simpa using e)
mutual
theorem ok_pre : ∀ {t : Tm}, Ok t → Oks (pre t)
  | .var _, h => by unfold pre; rw [oks_cons]; exact ⟨h, trivial⟩
  | .int _, h => by unfold pre; rw [oks_cons]; exact ⟨h, trivial⟩
  | .atom _, h => by unfold pre; rw [oks_cons]; exact ⟨h, trivial⟩
  | .comp f as, h => by
    have h2 := h
    unfold Ok at h2
    unfold pre
    rw [oks_cons]
    exact ⟨h, ok_pres h2.2.2.2⟩
theorem ok_pres : ∀ {ts : List Tm}, Oks ts → Oks (pres ts)
  | [], _ => trivial
  | t :: ts, h => by
    rw [oks_cons] at h
    rw [pres_cons]
    exact oks_app.mpr ⟨ok_pre h.1, ok_pres h.2⟩
end
/-! ## comparing: -1, 0, 1 -/
structure Cmpr {α : Type} (c : α → α → Int) : Prop where
  refl : ∀ a, c a a = 0
  eq : ∀ a b, c a b = 0 → a = b
  anti : ∀ a b, c b a = - c a b
  tr : ∀ a b d, c a b ≤ 0 → c b d ≤ 0 → c a d ≤ 0
  ran : ∀ a b, c a b = -1 ∨ c a b = 0 ∨ c a b = 1
def intC (i j : Int) : Int := if i = j then 0 else if i < j then -1 else 1
theorem intC_ok : Cmpr intC := by
  refine ⟨fun a => if_pos rfl, fun a b h => ?_, fun a b => ?_, fun a b d h1 h2 => ?_, fun a b => ?_⟩
  · unfold intC at h
    split at h
    · assumption
    · split at h <;> omega
  · unfold intC
    split <;> split <;> (try split) <;> (try split) <;> omega
  · unfold intC at *
    split at h1 <;> split at h2 <;> (try split at h1) <;> (try split at h2) <;> split <;> (try split) <;> omega
  · unfold intC
    split
    · exact .inr (.inl rfl)
    · split
      · exact .inl rfl
      · exact .inr (.inr rfl)
def lexC {α : Type} (c : α → α → Int) : List α → List α → Int
  | [], [] => 0
  | [], _ :: _ => -1
  | _ :: _, [] => 1
  | x :: xs, y :: ys => if c x y = 0 then lexC c xs ys else c x y
section
variable {α : Type} {c : α → α → Int}
theorem lexC_cons (x y : α) (xs ys : List α) : lexC c (x :: xs) (y :: ys) = if c x y = 0 then lexC c xs ys else c x y := by rw [lexC]
theorem lexC_refl (C : Cmpr c) : ∀ xs : List α, lexC c xs xs = 0
  | [] => rfl
  | x :: xs => by
    rw [lexC_cons, if_pos (C.refl x), lexC_refl C xs]
theorem lexC_eq (C : Cmpr c) : ∀ xs ys : List α, lexC c xs ys = 0 → xs = ys
  | [], [], _ => rfl
  | [], _ :: _, h => by simp [lexC] at h
  | _ :: _, [], h => by simp [lexC] at h
  | x :: xs, y :: ys, h => by
    rw [lexC_cons] at h
    split at h
    · next e => rw [C.eq x y e, lexC_eq C xs ys h]
    · contradiction
theorem lexC_anti (C : Cmpr c) : ∀ xs ys : List α, lexC c ys xs = - lexC c xs ys
  | [], [] => rfl
  | [], _ :: _ => by simp [lexC]
  | _ :: _, [] => by simp [lexC]
  | x :: xs, y :: ys => by
    have a := C.anti x y
    rw [lexC_cons, lexC_cons, lexC_anti C xs ys]
    split <;> split <;> omega
theorem lexC_ran (C : Cmpr c) : ∀ xs ys : List α, lexC c xs ys = -1 ∨ lexC c xs ys = 0 ∨ lexC c xs ys = 1
  | [], [] => .inr (.inl rfl)
  | [], _ :: _ => .inl rfl
  | _ :: _, [] => .inr (.inr rfl)
  | x :: xs, y :: ys => by
    rw [lexC_cons]
    split
    · exact lexC_ran C xs ys
    · exact C.ran x y
theorem lexC_tr (C : Cmpr c) : ∀ xs ys zs : List α, lexC c xs ys ≤ 0 → lexC c ys zs ≤ 0 → lexC c xs zs ≤ 0
  | [], _, [], _, _ => by simp [lexC]
  | [], _, _ :: _, _, _ => by simp [lexC]
  | _ :: _, [], _, h, _ => by simp [lexC] at h
  | _ :: _, _ :: _, [], _, h => by simp [lexC] at h
  | x :: xs, y :: ys, z :: zs, h1, h2 => by
    rw [lexC_cons] at h1 h2 ⊢
    have ran := C.ran x y
    by_cases e1 : c x y = 0
    · rw [if_pos e1] at h1
      have := C.eq x y e1
      subst this
      by_cases e2 : c x z = 0
      · rw [if_pos e2] at h2 ⊢
        exact lexC_tr C xs ys zs h1 h2
      · rw [if_neg e2] at h2 ⊢
        exact h2
    · rw [if_neg e1] at h1
      by_cases e2 : c y z = 0
      · have := C.eq y z e2
        subst this
        rw [if_neg e1]
        exact h1
      · rw [if_neg e2] at h2
        have h3 := C.tr x y z h1 h2
        have h4 : c x z ≠ 0 := fun e => by
          have := C.eq x z e
          subst this
          have := C.anti x y
          omega
        rw [if_neg h4]
        exact h3
theorem lexC_ok (C : Cmpr c) : Cmpr (lexC c) := ⟨lexC_refl C, lexC_eq C, lexC_anti C, lexC_tr C, lexC_ran C⟩
end
/-! ## heads -/
def cpsI (s : Str) : List Int := s.cps.toList.map fun n : Nat => (n : Int)
def sC (a b : Str) : Int := lexC intC (cpsI a) (cpsI b)
theorem natlex : ∀ xs ys : List Nat, lexC intC (xs.map fun n : Nat => (n : Int)) (ys.map fun n : Nat => (n : Int)) = if xs = ys then 0 else if xs < ys then -1 else 1
  | [], [] => by simp [lexC]
  | [], y :: ys => by simp [lexC]
  | x :: xs, [] => by simp [lexC]
  | x :: xs, y :: ys => by
    rw [List.map_cons, List.map_cons, lexC_cons, natlex xs ys]
    unfold intC
    by_cases e : x = y
    · subst e
      rw [if_pos rfl, if_pos rfl]
      by_cases e2 : xs = ys
      · subst e2
        simp
      · have n2 : ¬ x :: xs = x :: ys := fun z => e2 (List.cons.inj z).2
        rw [if_neg e2, if_neg n2]
        by_cases l : xs < ys
        · rw [if_pos l, if_pos (List.cons_lt_cons_iff.mpr (.inr ⟨rfl, l⟩))]
        · rw [if_neg l, if_neg]
          intro z
          rcases List.cons_lt_cons_iff.mp z with z | z
          · omega
          · exact l z.2
    · have e1 : ¬ (x : Int) = (y : Int) := by omega
      have n2 : ¬ x :: xs = y :: ys := fun z => e (List.cons.inj z).1
      rw [if_neg e1, if_neg n2]
      by_cases l : (x : Int) < (y : Int)
      · rw [if_pos l, if_neg (by decide), if_pos (List.cons_lt_cons_iff.mpr (.inl (by omega)))]
      · rw [if_neg l, if_neg (by decide), if_neg]
        intro z
        rcases List.cons_lt_cons_iff.mp z with z | z
        · omega
        · exact e z.1
theorem sC_eq (a b : Str) : sC a b = if a = b then 0 else if a.cps.toList < b.cps.toList then -1 else 1 := by
  unfold sC cpsI
  rw [natlex]
  by_cases e : a = b
  · subst e
    rw [if_pos rfl, if_pos rfl]
  · rw [if_neg e, if_neg]
    intro z
    have := Array.toList_inj.mp z
    apply e
    cases a
    cases b
    simp only [Str.mk.injEq]
    exact this
def hcode : Tm → List Int
  | .var k => [0, k]
  | .int i => [1, i]
  | .atom s => 2 :: cpsI s
  | .comp f as => 3 :: (as.length : Int) :: cpsI f
abbrev hC : List Int → List Int → Int := lexC intC
theorem hC_ok : Cmpr hC := lexC_ok intC_ok
abbrev kC : List (List Int) → List (List Int) → Int := lexC hC
theorem kC_ok : Cmpr kC := lexC_ok hC_ok
def kcode (t : Tm) : List (List Int) := (pre t).map hcode
mutual
def tord : Tm → Tm → Int
  | .comp f as, .comp g bs => if intC as.length bs.length = 0 then (if sC f g = 0 then tords as bs else sC f g) else intC as.length bs.length
  | .var k, t => hC (hcode (.var k)) (hcode t)
  | .int k, t => hC (hcode (.int k)) (hcode t)
  | .atom k, t => hC (hcode (.atom k)) (hcode t)
  | .comp f as, t => hC (hcode (.comp f as)) (hcode t)
def tords : List Tm → List Tm → Int
  | a :: as, b :: bs => if tord a b = 0 then tords as bs else tord a b
  | _, _ => 0
end
theorem hC3 (n m : Int) (f g : Str) : hC (3 :: n :: cpsI f) (3 :: m :: cpsI g) = if intC n m = 0 then sC f g else intC n m := by
  show lexC intC _ _ = _
  rw [lexC_cons, if_pos (by decide), lexC_cons]
  rfl
theorem hC_tag {a b : Int} (h : a ≠ b) (xs ys : List Int) : hC (a :: xs) (b :: ys) ≠ 0 := by
  show lexC intC _ _ ≠ 0
  have : intC a b ≠ 0 := fun z => h (intC_ok.eq a b z)
  rw [lexC_cons, if_neg this]
  exact this
def rank : Tm → Int
  | .var _ => 0
  | .int _ => 1
  | .atom _ => 2
  | .comp _ _ => 3
theorem hC_rank {s t : Tm} (h : rank s ≠ rank t) : hC (hcode s) (hcode t) ≠ 0 := by
  cases s <;> cases t <;> first | exact absurd rfl h | exact hC_tag (by decide) _ _
mutual
theorem ord_pre : ∀ (s t : Tm) (xs ys : List (List Int)), kC ((pre s).map hcode ++ xs) ((pre t).map hcode ++ ys) = if tord s t = 0 then kC xs ys else tord s t
  | .var i, .var j, xs, ys => by
    show lexC hC (hcode (.var i) :: xs) (hcode (.var j) :: ys) = _
    rw [lexC_cons]
    rfl
  | .var i, .int j, xs, ys => by
    show lexC hC (hcode (.var i) :: xs) (hcode (.int j) :: ys) = _
    rw [lexC_cons]
    rfl
  | .var i, .atom j, xs, ys => by
    show lexC hC (hcode (.var i) :: xs) (hcode (.atom j) :: ys) = _
    rw [lexC_cons]
    rfl
  | .var i, .comp g bs, xs, ys => by
    rw [pre, pre]
    show lexC hC (hcode (.var i) :: xs) (hcode (.comp g bs) :: _) = _
    have h : hC (hcode (.var i)) (hcode (.comp g bs)) ≠ 0 := hC_rank (by simp [rank])
    rw [lexC_cons, if_neg h]
    show _ = if hC (hcode (.var i)) (hcode (.comp g bs)) = 0 then _ else _
    rw [if_neg h]
    rfl
  | .int i, .var j, xs, ys => by
    show lexC hC (hcode (.int i) :: xs) (hcode (.var j) :: ys) = _
    rw [lexC_cons]
    rfl
  | .int i, .int j, xs, ys => by
    show lexC hC (hcode (.int i) :: xs) (hcode (.int j) :: ys) = _
    rw [lexC_cons]
    rfl
  | .int i, .atom j, xs, ys => by
    show lexC hC (hcode (.int i) :: xs) (hcode (.atom j) :: ys) = _
    rw [lexC_cons]
    rfl
  | .int i, .comp g bs, xs, ys => by
    rw [pre, pre]
    show lexC hC (hcode (.int i) :: xs) (hcode (.comp g bs) :: _) = _
    have h : hC (hcode (.int i)) (hcode (.comp g bs)) ≠ 0 := hC_rank (by simp [rank])
    rw [lexC_cons, if_neg h]
    show _ = if hC (hcode (.int i)) (hcode (.comp g bs)) = 0 then _ else _
    rw [if_neg h]
    rfl
  | .atom i, .var j, xs, ys => by
    show lexC hC (hcode (.atom i) :: xs) (hcode (.var j) :: ys) = _
    rw [lexC_cons]
    rfl
  | .atom i, .int j, xs, ys => by
    show lexC hC (hcode (.atom i) :: xs) (hcode (.int j) :: ys) = _
    rw [lexC_cons]
    rfl
  | .atom i, .atom j, xs, ys => by
    show lexC hC (hcode (.atom i) :: xs) (hcode (.atom j) :: ys) = _
    rw [lexC_cons]
    rfl
  | .atom i, .comp g bs, xs, ys => by
    rw [pre, pre]
    show lexC hC (hcode (.atom i) :: xs) (hcode (.comp g bs) :: _) = _
    have h : hC (hcode (.atom i)) (hcode (.comp g bs)) ≠ 0 := hC_rank (by simp [rank])
    rw [lexC_cons, if_neg h]
    show _ = if hC (hcode (.atom i)) (hcode (.comp g bs)) = 0 then _ else _
    rw [if_neg h]
    rfl
  | .comp f as, .var j, xs, ys => by
    rw [pre, pre]
    show lexC hC (hcode (.comp f as) :: _) (hcode (.var j) :: _) = _
    have h : hC (hcode (.comp f as)) (hcode (.var j)) ≠ 0 := hC_rank (by simp [rank])
    rw [lexC_cons, if_neg h]
    show _ = if hC (hcode (.comp f as)) (hcode (.var j)) = 0 then _ else _
    rw [if_neg h]
    rfl
  | .comp f as, .int j, xs, ys => by
    rw [pre, pre]
    show lexC hC (hcode (.comp f as) :: _) (hcode (.int j) :: _) = _
    have h : hC (hcode (.comp f as)) (hcode (.int j)) ≠ 0 := hC_rank (by simp [rank])
    rw [lexC_cons, if_neg h]
    show _ = if hC (hcode (.comp f as)) (hcode (.int j)) = 0 then _ else _
    rw [if_neg h]
    rfl
  | .comp f as, .atom j, xs, ys => by
    rw [pre, pre]
    show lexC hC (hcode (.comp f as) :: _) (hcode (.atom j) :: _) = _
    have h : hC (hcode (.comp f as)) (hcode (.atom j)) ≠ 0 := hC_rank (by simp [rank])
    rw [lexC_cons, if_neg h]
    show _ = if hC (hcode (.comp f as)) (hcode (.atom j)) = 0 then _ else _
    rw [if_neg h]
    rfl
  | .comp f as, .comp g bs, xs, ys => by
    rw [pre, pre, tord]
    show lexC hC (hcode (.comp f as) :: ((pres as).map hcode ++ xs)) (hcode (.comp g bs) :: ((pres bs).map hcode ++ ys)) = _
    have h : hC (hcode (.comp f as)) (hcode (.comp g bs)) = _ := hC3 _ _ f g
    rw [lexC_cons, h]
    by_cases e1 : intC (as.length : Int) (bs.length : Int) = 0
    · rw [if_pos e1, if_pos e1]
      by_cases e2 : sC f g = 0
      · rw [if_pos e2, if_pos e2]
        have := intC_ok.eq _ _ e1
        exact ord_pres as bs xs ys (by omega)
      · rw [if_neg e2, if_neg e2, if_neg e2]
    · rw [if_neg e1, if_neg e1, if_neg e1, if_neg e1]
theorem ord_pres : ∀ (as bs : List Tm) (xs ys : List (List Int)), as.length = bs.length → kC ((pres as).map hcode ++ xs) ((pres bs).map hcode ++ ys) = if tords as bs = 0 then kC xs ys else tords as bs
  | [], [], xs, ys, _ => by
    show kC xs ys = if tords [] [] = 0 then _ else _
    rw [tords, if_pos rfl]
    intro a as b bs h
    cases h
  | [], _ :: _, _, _, h => by simp at h
  | _ :: _, [], _, _, h => by simp at h
  | a :: as, b :: bs, xs, ys, h => by
    rw [pres, pres, List.map_append, List.map_append, List.append_assoc, List.append_assoc, ord_pre a b, tords]
    by_cases e : tord a b = 0
    · rw [if_pos e, if_pos e]
      exact ord_pres as bs xs ys (by simpa using h)
    · rw [if_neg e, if_neg e, if_neg e]
end
theorem ord_key (s t : Tm) : kC (kcode s) (kcode t) = tord s t := by
  have h := ord_pre s t [] []
  rw [List.append_nil, List.append_nil] at h
  unfold kcode
  rw [h]
  split
  · next e => rw [e]; rfl
  · rfl
mutual
theorem hcode_eq : ∀ (s t : Tm), tord s t = 0 → s = t
  | .comp f as, .comp g bs, h => by
    rw [tord] at h
    by_cases e1 : intC (as.length : Int) (bs.length : Int) = 0
    · rw [if_pos e1] at h
      by_cases e2 : sC f g = 0
      · rw [if_pos e2] at h
        have hl := intC_ok.eq _ _ e1
        have hf : f = g := by
          rw [sC_eq] at e2
          split at e2
          · assumption
          · split at e2 <;> omega
        rw [hf, hcodes_eq as bs (by omega) h]
      · rw [if_neg e2] at h
        exact absurd h e2
    · rw [if_neg e1] at h
      exact absurd h e1
  | .var i, .var j, h => by
    have := hC_ok.eq _ _ (show hC [0, i] [0, j] = 0 from h)
    simp at this
    rw [this]
  | .int i, .int j, h => by
    have := hC_ok.eq _ _ (show hC [1, i] [1, j] = 0 from h)
    simp at this
    rw [this]
  | .atom i, .atom j, h => by
    have h2 : sC i j = 0 := by
      have h3 : lexC intC (2 :: cpsI i) (2 :: cpsI j) = 0 := h
      rw [lexC_cons, if_pos (by decide)] at h3
      exact h3
    rw [sC_eq] at h2
    split at h2
    · next e => rw [e]
    · split at h2 <;> omega
  | .var _, .int _, h => absurd h (hC_rank (by simp [rank]))
  | .var _, .atom _, h => absurd h (hC_rank (by simp [rank]))
  | .var _, .comp _ _, h => absurd h (hC_rank (by simp [rank]))
  | .int _, .var _, h => absurd h (hC_rank (by simp [rank]))
  | .int _, .atom _, h => absurd h (hC_rank (by simp [rank]))
  | .int _, .comp _ _, h => absurd h (hC_rank (by simp [rank]))
  | .atom _, .var _, h => absurd h (hC_rank (by simp [rank]))
  | .atom _, .int _, h => absurd h (hC_rank (by simp [rank]))
  | .atom _, .comp _ _, h => absurd h (hC_rank (by simp [rank]))
  | .comp _ _, .var _, h => absurd h (hC_rank (by simp [rank]))
  | .comp _ _, .int _, h => absurd h (hC_rank (by simp [rank]))
  | .comp _ _, .atom _, h => absurd h (hC_rank (by simp [rank]))
theorem hcodes_eq : ∀ (as bs : List Tm), as.length = bs.length → tords as bs = 0 → as = bs
  | [], [], _, _ => rfl
  | [], _ :: _, h, _ => by simp at h
  | _ :: _, [], h, _ => by simp at h
  | a :: as, b :: bs, h, h2 => by
    rw [tords] at h2
    by_cases e : tord a b = 0
    · rw [if_pos e] at h2
      rw [hcode_eq a b e, hcodes_eq as bs (by simpa using h) h2]
    · rw [if_neg e] at h2
      exact absurd h2 e
end
theorem tord_ok : Cmpr tord := by
  refine ⟨fun a => ?_, hcode_eq, fun a b => ?_, fun a b d h1 h2 => ?_, fun a b => ?_⟩
  · rw [← ord_key]
    exact kC_ok.refl _
  · rw [← ord_key, ← ord_key]
    exact kC_ok.anti _ _
  · rw [← ord_key] at *
    exact kC_ok.tr _ _ _ h1 h2
  · rw [← ord_key]
    exact kC_ok.ran _ _
/-- in order -/
def Rising (ts : List Tm) : Prop := ts.Pairwise fun a b => tord a b ≤ 0
theorem rising_uniq : ∀ {ts us : List Tm}, Rising ts → Rising us → ts.Perm us → ts = us
  | [], us, _, _, p => (List.Perm.nil_eq p)
  | t :: ts, [], _, _, p => absurd p.length_eq (by simp)
  | t :: ts, u :: us, h1, h2, p => by
    have a1 := List.pairwise_cons.mp h1
    have a2 := List.pairwise_cons.mp h2
    have e1 : tord t u ≤ 0 := by
      rcases List.mem_cons.mp (p.mem_iff.mpr (List.mem_cons_self (a := u) (l := us))) with e | e
      · rw [e, tord_ok.refl]
        exact Int.le_refl _
      · exact a1.1 u e
    have e2 : tord u t ≤ 0 := by
      rcases List.mem_cons.mp (p.mem_iff.mp (List.mem_cons_self (a := t) (l := ts))) with e | e
      · rw [e, tord_ok.refl]
        exact Int.le_refl _
      · exact a2.1 t e
    have e3 := tord_ok.anti t u
    have e : t = u := tord_ok.eq t u (by omega)
    subst e
    rw [rising_uniq a1.2 a2.2 p.cons_inv]
end Hm

set_option Elab.async false
set_option linter.all false
set_option maxRecDepth 100000
set_option maxHeartbeats 4000000
namespace Hm
open PySem PySem.SeqAt
open AutoSeq1 (wpAny_loadPart')
open MeetsSeq MeetsSeq2 MeetsSeq3 SeqRoads2
/-! ## x < y of two rows of values: what decides is the first place that differs; what stands behind it may be anything -/
inductive Dec (A : Around) (s : Shared) : List Value → List Value → Bool → Prop
  | both : Dec A s [] [] false
  | short (y : Value) (ys : List Value) : Dec A s [] (y :: ys) true
  | long (x : Value) (xs : List Value) : Dec A s (x :: xs) [] false
  | same {x y : Value} {xs ys : List Value} {b : Bool} : EqAt A s x y true → Dec A s xs ys b → Dec A s (x :: xs) (y :: ys) b
  | here {x y : Value} {xs ys : List Value} {b : Bool} : EqAt A s x y false → RcLt A s x y b → Dec A s (x :: xs) (y :: ys) b
def tupObj (its : Array Value) (n : Nat) (dd : Option Addr) (sl : Array (Option Value)) : Obj := { cls := .type "tuple", dict := dd, data := .seq its n, slots := sl }
theorem dec_tup (p q : Addr) (is js : Array Value) (n m : Nat) (d1 d2 : Option Addr) (s1 s2 : Array (Option Value)) (b : Bool) :
    Meets (Builtin.«tuple.__lt__» ⟨[.ref p, .ref q], []⟩) (fun A R s => s.heap.get? p = some (tupObj is n d1 s1) ∧ s.heap.get? q = some (tupObj js m d2 s2) ∧ Dec A.in1 s is.toList js.toList b ∧ R (.ok (.ret (.bool b))) s) :=
  .of_wp fun prog w A R s z => by
    have st := AutoSeq1.sub_tuple_tuple
    obtain ⟨heap, gens, drawn, toks, os⟩ := s
    obtain ⟨gp, gq, dc, fin⟩ := z
    unfold tupObj at gp gq
    wp_walk using wpAny_loadPart' gp, wpAny_loadPart' gq, wpAny_forIn_list _ (fun left bb s' => bb.1 = none ∧ s' = ⟨heap, gens, drawn, toks, os⟩ ∧ ∃ xs ys, left = xs.zip ys ∧ Dec A.in1 ⟨heap, gens, drawn, toks, os⟩ xs ys b ∧ xs.length + js.size = ys.length + is.size) _
    case turn =>
      rintro ⟨x, y⟩ left bb s' ⟨h0, rfl, xs, ys, hz, hd, hl⟩
      cases hd with
      | both => cases hz
      | short => cases hz
      | long => cases hz
      | @same x' y' xs ys _ he hr =>
        rw [List.zip_cons_cons] at hz
        injection hz with h1 h2
        injection h1 with h3 h4
        subst h3 h4 h2
        refine wpAny_bind (he prog w _ _ ?_)
        wp_walk
        exact ⟨rfl, rfl, xs, ys, rfl, hr, by simp only [List.length_cons] at hl; omega⟩
      | @here x' y' xs ys _ he hr =>
        rw [List.zip_cons_cons] at hz
        injection hz with h1 h2
        injection h1 with h3 h4
        subst h3 h4 h2
        have rc : ∀ {Q : Value → Shared → Prop} {E : Value → Shared → Prop}, Q (.bool b) ⟨heap, gens, drawn, toks, os⟩ → wpAny (model prog w) A.in1 (richCompare .Lt x y) Q E ⟨heap, gens, drawn, toks, os⟩ := fun z => hr prog w _ _ z
        refine wpAny_bind (he prog w _ _ ?_)
        wp_walk using rc
        exact ⟨_, rfl, fin⟩
    case fin =>
      rintro ⟨b1, b2⟩ s' ⟨h0, rfl, xs, ys, hz, hd, hl⟩
      simp only at h0
      subst h0
      wp_walk
      refine ⟨_, rfl, ?_⟩
      have e : decide (is.size < js.size) = b := by
        cases hd with
        | both => exact decide_eq_false (by simp only [List.length_nil] at hl; omega)
        | short => exact decide_eq_true (by simp only [List.length_nil, List.length_cons] at hl; omega)
        | long => exact decide_eq_false (by simp only [List.length_nil, List.length_cons] at hl; omega)
        | same => simp at hz
        | here => simp at hz
      simpa [Builtin.Tuple.tupleCompareSizes, e] using fin
    case h => exact ⟨rfl, rfl, is.toList, js.toList, rfl, dc, by simp; omega⟩
def lstObj (its : Array Value) (n : Nat) (dd : Option Addr) (sl : Array (Option Value)) : Obj := { cls := .type "list", dict := dd, data := .seq its n, slots := sl }
theorem dec_nil {A : Around} {s : Shared} {xs ys : List Value} {b : Bool} (h : Dec A s xs ys b) (e : xs = [] ∨ ys = []) : b = decide (xs.length < ys.length) := by
  cases h with
  | both => rfl
  | short => rfl
  | long => rfl
  | same => simp at e
  | here => simp at e
theorem dec_loop (p q : Addr) (is js : Array Value) (n m : Nat) (d1 d2 : Option Addr) (s1 s2 : Array (Option Value)) (b : Bool) (k : Nat) :
    ∀ i : Nat, is.size + js.size = k + 2 * i ∨ is.size + js.size = k + 2 * i + 1 → i ≤ is.size → i ≤ js.size → Meets (Builtin.«list.__eq__.loop» ⟨[.ref p, .ref q, rawInt i, rawInt 0], []⟩)
      (fun A R s => s.heap.get? p = some (lstObj is n d1 s1) ∧ s.heap.get? q = some (lstObj js m d2 s2) ∧ Dec A.in1 s (is.toList.drop i) (js.toList.drop i) b ∧ R (.ok (.ret (.bool b))) s) := by
  induction k using Nat.strongRecOn with
  | ind k ih =>
    intro i hk li lj prog w A R s z
    obtain ⟨heap, gens, drawn, toks, os⟩ := s
    obtain ⟨gp, gq, dc, fin⟩ := z
    unfold lstObj at gp gq
    by_cases ei : i < is.size
    · by_cases ej : i < js.size
      · have gi : is[((i : Nat) : Int).toNat]? = some is[i] := by simp [ei]
        have gj : js[((i : Nat) : Int).toNat]? = some js[i] := by simp [ej]
        have di : is.toList.drop i = is[i] :: is.toList.drop (i + 1) := by simp [List.drop_eq_getElem_cons, ei]
        have dj : js.toList.drop i = js[i] :: js.toList.drop (i + 1) := by simp [List.drop_eq_getElem_cons, ej]
        have nx : ((i : Int) + 1) = ((i + 1 : Nat) : Int) := by push_cast; rfl
        rw [di, dj] at dc
        wp_walk using wpAny_loadPart' gp, wpAny_loadPart' gq
        rw [gi, gj]
        cases dc with
        | same he hr =>
          refine wpAny_bind (he prog w _ _ ?_)
          wp_walk
          rw [nx]
          refine ⟨plainId_quiet plain_eq_loop _, codeAny_builtin entry_eq_loop ?_⟩
          rw [Around.under_plainId plain_eq_loop _]
          exact ih (k - 2) (by omega) (i + 1) (by omega) (by omega) (by omega) prog w A R _ ⟨gp, gq, hr, fin⟩
        | here he hr =>
          refine wpAny_bind (he prog w _ _ ?_)
          wp_walk using wpAny_loadPart' gp, wpAny_loadPart' gq
          rw [gi, gj]
          have rc : ∀ {Q : Value → Shared → Prop} {E : Value → Shared → Prop}, Q (.bool b) ⟨heap, gens, drawn, toks, os⟩ → wpAny (model prog w) A.in1 (richCompare .Lt is[i] js[i]) Q E ⟨heap, gens, drawn, toks, os⟩ := fun z => hr prog w _ _ z
          wp_walk using rc
          exact fin
      · have gi : is[((i : Nat) : Int).toNat]? = some is[i] := by simp [ei]
        have gj : js[((i : Nat) : Int).toNat]? = none := by simp; omega
        have e := dec_nil dc (.inr (by simp; omega))
        have e2 : decide (is.size < js.size) = b := by
          rw [e]
          simp
          omega
        wp_walk using wpAny_loadPart' gp, wpAny_loadPart' gq
        rw [gi, gj]
        wp_walk using wpAny_loadPart' gp, wpAny_loadPart' gq
        rw [← e2] at fin
        exact fin
    · have gi : is[((i : Nat) : Int).toNat]? = none := by simp; omega
      have e := dec_nil dc (.inl (by simp; omega))
      have e2 : decide (is.size < js.size) = b := by
        rw [e]
        simp
        omega
      wp_walk using wpAny_loadPart' gp, wpAny_loadPart' gq
      rw [gi]
      wp_walk using wpAny_loadPart' gp, wpAny_loadPart' gq
      rw [← e2] at fin
      exact fin
theorem dec_lst (p q : Addr) (is js : Array Value) (n m : Nat) (d1 d2 : Option Addr) (s1 s2 : Array (Option Value)) (b : Bool) :
    Meets (Builtin.«list.__lt__» ⟨[.ref p, .ref q], []⟩) (fun A R s => s.heap.get? p = some (lstObj is n d1 s1) ∧ s.heap.get? q = some (lstObj js m d2 s2) ∧ Dec A.in1 s is.toList js.toList b ∧ R (.ok (.ret (.bool b))) s) := by
  intro prog w A R s z
  have st := AutoSeq1.sub_list_list
  obtain ⟨heap, gens, drawn, toks, os⟩ := s
  obtain ⟨gp, gq, dc, fin⟩ := z
  unfold lstObj at gp gq
  wp_walk using wpAny_loadPart' gp, wpAny_loadPart' gq
  refine ⟨plainId_quiet plain_eq_loop _, codeAny_builtin entry_eq_loop ?_⟩
  rw [Around.under_plainId plain_eq_loop _]
  exact dec_loop p q is js n m d1 d2 s1 s2 b (is.size + js.size) 0 (.inl (by omega)) (Nat.zero_le _) (Nat.zero_le _) prog w A R _ ⟨gp, gq, dc, fin⟩
theorem obj_tup {h : Heap} {p : Addr} {is : Array Value} (hp : h.IsTuple p is) : ∃ n d sl, h.get? p = some (tupObj is n d sl) := by
  obtain ⟨⟨cls, dd, data, sl⟩, ho, hc, n, hd⟩ := hp
  simp only at hc hd
  subst hc hd
  exact ⟨n, dd, sl, ho⟩
theorem obj_lst {h : Heap} {p : Addr} {is : Array Value} (hp : h.IsList p is) : ∃ n d sl, h.get? p = some (lstObj is n d sl) := by
  obtain ⟨⟨cls, dd, data, sl⟩, ho, hc, n, hd⟩ := hp
  simp only at hc hd
  subst hc hd
  exact ⟨n, dd, sl, ho⟩
section
variable {A : Around} {s : Shared} {p q : Addr} {is js : Array Value} {b : Bool}
theorem rc_tup (hp : s.heap.IsTuple p is) (hq : s.heap.IsTuple q js) (hu : A.units < cLine) (h : Dec A.in1 s is.toList js.toList b) : RcLt A s (.ref p) (.ref q) b := fun prog w E Q z => by
  obtain ⟨n, d, sl, e⟩ := obj_tup hp
  obtain ⟨m, d', sl', e'⟩ := obj_tup hq
  exact richCompare_meets_room (op := .Lt) ⟨_, e, rfl⟩ ⟨_, e', rfl⟩ F.slot_tuple_lt F.entry_tuple_lt (F.args_tuple_lt_2 _ _) (dec_tup p q is js n m d d' sl sl' b) ⟨e, e', h, show Value.bool b ≠ Value.notImplemented ∧ Q (.bool b) s from ⟨(fun x => nomatch x), z⟩⟩ hu
theorem rc_lst (hp : s.heap.IsList p is) (hq : s.heap.IsList q js) (hu : A.units < cLine) (h : Dec A.in1 s is.toList js.toList b) : RcLt A s (.ref p) (.ref q) b := fun prog w E Q z => by
  obtain ⟨n, d, sl, e⟩ := obj_lst hp
  obtain ⟨m, d', sl', e'⟩ := obj_lst hq
  exact richCompare_meets_room (op := .Lt) ⟨_, e, rfl⟩ ⟨_, e', rfl⟩ F.slot_list_lt F.entry_list_lt (F.args_list_lt_2 _ _) (dec_lst p q is js n m d d' sl sl' b) ⟨e, e', h, show Value.bool b ≠ Value.notImplemented ∧ Q (.bool b) s from ⟨(fun x => nomatch x), z⟩⟩ hu
/-- the same, as sorting asks -/
theorem call_lst {prog : Program} {w : World} {E Q : Value → Shared → Prop} (hp : s.heap.IsList p is) (hq : s.heap.IsList q js) (h : Dec A.in1 s is.toList js.toList b) (z : Q (.bool b) s) : wpAny (model prog w) A (call (.builtin "list.__lt__") [.ref p, .ref q]) Q E s := by
  obtain ⟨n, d, sl, e⟩ := obj_lst hp
  obtain ⟨m, d', sl', e'⟩ := obj_lst hq
  exact call_meets F.slot_list_lt ⟨_, e, rfl⟩ F.entry_list_lt (F.args_list_lt_2 _ _) (dec_lst p q is js n m d d' sl sl' b) ⟨e, e', h, z⟩
end
end Hm

set_option Elab.async false
set_option linter.all false
set_option maxRecDepth 100000
set_option maxHeartbeats 4000000
namespace Hm
open PySem PySem.Spec PySem.SeqAt PySem.W
/-! ## keys: rows of heads, as data -/
def hdD : Tm → PyData
  | .var k => .tuple [.int 0, .int k]
  | .int i => .tuple [.int 1, .int i]
  | .atom s => .tuple [.int 2, .str s]
  | .comp f as => .tuple [.int 3, .int (as.length : Int), .str f]
theorem hd_depth (t : Tm) : (hdD t).depth = 1 := by cases t <;> rfl
theorem intC_beq (i j : Int) : (i == j) = decide (intC i j = 0) := by
  by_cases e : i = j
  · subst e
    rw [beq_self_eq_true, decide_eq_true (intC_ok.refl i)]
  · rw [decide_eq_false (fun z => e (intC_ok.eq i j z))]
    exact beq_false_of_ne e
theorem intC_lt (i j : Int) (h : intC i j ≠ 0) : decide (i < j) = decide (intC i j < 0) := by
  have e : i ≠ j := fun z => h (z ▸ intC_ok.refl i)
  unfold intC
  rw [if_neg e]
  by_cases l : i < j
  · rw [if_pos l, decide_eq_true l]
    rfl
  · rw [if_neg l, decide_eq_false l]
    rfl
theorem sC_beq (a b : Str) : (a == b) = decide (sC a b = 0) := by
  rw [sC_eq]
  by_cases e : a = b
  · subst e
    rw [if_pos rfl, beq_self_eq_true]
    rfl
  · rw [if_neg e, beq_false_of_ne e]
    split <;> rfl
theorem sC_lt (a b : Str) (h : sC a b ≠ 0) : decide (a.cps.toList < b.cps.toList) = decide (sC a b < 0) := by
  rw [sC_eq] at *
  by_cases e : a = b
  · rw [if_pos e] at h
    exact absurd rfl h
  · rw [if_neg e]
    by_cases l : a.cps.toList < b.cps.toList
    · rw [if_pos l, decide_eq_true l]
      rfl
    · rw [if_neg l, decide_eq_false l]
      rfl
theorem hC_tag' {a b : Int} (h : a ≠ b) (xs ys : List Int) : hC (a :: xs) (b :: ys) = intC a b := by
  show lexC intC _ _ = _
  have : intC a b ≠ 0 := fun z => h (intC_ok.eq a b z)
  rw [lexC_cons, if_neg this]
theorem hC_two (a i j : Int) : hC [a, i] [a, j] = intC i j := by
  show lexC intC _ _ = _
  rw [lexC_cons, if_pos (intC_ok.refl a), lexC_cons]
  split
  · next e => rw [e]; rfl
  · rfl
theorem hC_str (f g : Str) : hC (2 :: cpsI f) (2 :: cpsI g) = sC f g := by
  show lexC intC _ _ = _
  rw [lexC_cons, if_pos (intC_ok.refl 2)]
  rfl
section
variable {A : Around} {s : Shared}
theorem eq_int (i j : Int) (t u : Tok) : EqAt A s (.int i t) (.int j u) (decide (intC i j = 0)) := by
  rw [← intC_beq]
  exact EqAt.int_int i t j u
theorem lt_int (i j : Int) (t u : Tok) (h : intC i j ≠ 0) : RcLt A s (.int i t) (.int j u) (decide (intC i j < 0)) := by
  rw [← intC_lt i j h, ← dataLt_int]
  by_cases z : A.units < cLine
  · exact rcLt_alike (.int i) (.int j) A s _ _ _ _ (.int i t) (.int j u) rfl (by simp) (by show A.units + 0 < _; omega)
  · intro prog w E Q q
    rw [dataLt_int] at q
    exact PyProof.Rows.lt_int q
theorem eq_str (i j : Str) (t u : Tok) : EqAt A s (.str i t) (.str j u) (decide (sC i j = 0)) := by
  rw [← sC_beq]
  exact EqAt.str_str i t j u
theorem lt_str (i j : Str) (t u : Tok) (hu : A.units < cLine) (h : sC i j ≠ 0) : RcLt A s (.str i t) (.str j u) (decide (sC i j < 0)) := by
  rw [← sC_lt i j h, ← dataLt_str]
  exact rcLt_alike (.str i) (.str j) A s _ _ _ _ (.str i t) (.str j u) rfl (by simp) (by show A.units + 0 < _; omega)
theorem dec_int1 (i j : Int) (t u : Tok) {xs ys : List Value} {b : Bool} (hs : intC i j = 0 → Dec A s xs ys b) (hn : intC i j ≠ 0 → b = decide (intC i j < 0)) : Dec A s (.int i t :: xs) (.int j u :: ys) b := by
  have e := eq_int (A := A) (s := s) i j t u
  by_cases z : intC i j = 0
  · rw [decide_eq_true z] at e
    exact .same e (hs z)
  · rw [decide_eq_false z] at e
    rw [hn z]
    exact .here e (lt_int i j t u z)
theorem dec_str1 (i j : Str) (t u : Tok) {xs ys : List Value} {b : Bool} (hu : A.units < cLine) (hs : sC i j = 0 → Dec A s xs ys b) (hn : sC i j ≠ 0 → b = decide (sC i j < 0)) : Dec A s (.str i t :: xs) (.str j u :: ys) b := by
  have e := eq_str (A := A) (s := s) i j t u
  by_cases z : sC i j = 0
  · rw [decide_eq_true z] at e
    exact .same e (hs z)
  · rw [decide_eq_false z] at e
    rw [hn z]
    exact .here e (lt_str i j t u hu z)
/-- the first sign of a head and what stands behind it -/
def hdR : Tm → List PyData
  | .var k => [.int k]
  | .int i => [.int i]
  | .atom s => [.str s]
  | .comp f as => [.int (as.length : Int), .str f]
theorem hd_row (t : Tm) : hdD t = .tuple (.int (rank t) :: hdR t) := by cases t <;> rfl
theorem hcode_row (t : Tm) : ∃ r, hcode t = rank t :: r := by cases t <;> exact ⟨_, rfl⟩
theorem head_dec {t t' : Tm} {vs us : List Value} {as bs : List Addr} (hu : A.units < cLine) (r1 : ReadsAll s.heap vs (.int (rank t) :: hdR t) as) (r2 : ReadsAll s.heap us (.int (rank t') :: hdR t') bs) : Dec A s vs us (decide (hC (hcode t) (hcode t') < 0)) := by
  cases r1 with
  | cons q1 r1 =>
    cases r2 with
    | cons q2 r2 =>
      cases q1
      cases q2
      by_cases e : rank t = rank t'
      · cases t <;> cases t' <;> first | (simp [rank] at e; done) | skip
        · cases r1 with
          | cons a1 b1 =>
            cases r2 with
            | cons a2 b2 =>
              cases a1; cases a2; cases b1; cases b2
              show Dec A s _ _ (decide (hC [0, _] [0, _] < 0))
              rw [hC_two]
              exact dec_int1 _ _ _ _ (fun _ => dec_int1 _ _ _ _ (fun z => by rw [z]; exact .both) fun _ => rfl) fun z => absurd (intC_ok.refl 0) z
        · cases r1 with
          | cons a1 b1 =>
            cases r2 with
            | cons a2 b2 =>
              cases a1; cases a2; cases b1; cases b2
              show Dec A s _ _ (decide (hC [1, _] [1, _] < 0))
              rw [hC_two]
              exact dec_int1 _ _ _ _ (fun _ => dec_int1 _ _ _ _ (fun z => by rw [z]; exact .both) fun _ => rfl) fun z => absurd (intC_ok.refl 1) z
        · cases r1 with
          | cons a1 b1 =>
            cases r2 with
            | cons a2 b2 =>
              cases a1; cases a2; cases b1; cases b2
              show Dec A s _ _ (decide (hC (2 :: cpsI _) (2 :: cpsI _) < 0))
              rw [hC_str]
              exact dec_int1 _ _ _ _ (fun _ => dec_str1 _ _ _ _ hu (fun z => by rw [z]; exact .both) fun _ => rfl) fun z => absurd (intC_ok.refl 2) z
        · cases r1 with
          | cons a1 b1 =>
            cases r2 with
            | cons a2 b2 =>
              cases b1 with
              | cons c1 d1 =>
                cases b2 with
                | cons c2 d2 =>
                  cases a1; cases a2; cases c1; cases c2; cases d1; cases d2
                  show Dec A s _ _ (decide (hC (3 :: _ :: cpsI _) (3 :: _ :: cpsI _) < 0))
                  rw [hC3]
                  refine dec_int1 _ _ _ _ (fun _ => dec_int1 _ _ _ _ (fun z => ?_) fun z => by rw [if_neg z]) fun z => absurd (intC_ok.refl 3) z
                  rw [if_pos z]
                  exact dec_str1 _ _ _ _ hu (fun z => by rw [z]; exact .both) fun _ => rfl
      · obtain ⟨x, e1⟩ := hcode_row t
        obtain ⟨y, e2⟩ := hcode_row t'
        rw [e1, e2, hC_tag' e]
        exact dec_int1 _ _ _ _ (fun z => absurd (intC_ok.eq _ _ z) e) fun _ => rfl
theorem hd_lay (t : Tm) (h : Ok t) : (hdD t).canLay0 = true := by
  have hs : ∀ z : Str, AtomOk z → (PyData.str z).canLay0 = true := fun z h => by
    show (z.cps.all fun c => decide (c < 0x110000)) = true
    rw [← Array.all_toList, List.all_eq_true]
    intro c hc
    have := h.2 c hc
    exact decide_eq_true (by omega)
  cases t with
  | var k => rfl
  | int i => rfl
  | atom z =>
    unfold Ok at h
    show ((PyData.int 2).canLay0 && ((PyData.str z).canLay0 && true)) = true
    rw [hs z h]
    rfl
  | comp f as =>
    unfold Ok at h
    show ((PyData.int 3).canLay0 && ((PyData.int (as.length : Int)).canLay0 && ((PyData.str f).canLay0 && true))) = true
    rw [hs f h.1]
    rfl
theorem eqv_hd (t t' : Tm) : PyData.eqv (hdD t) (hdD t') = decide (hC (hcode t) (hcode t') = 0) := by
  by_cases e : rank t = rank t'
  · cases t <;> cases t' <;> first | (simp [rank] at e; done) | skip
    · show ((0 == 0 : Bool) && ((_ == _ : Bool) && true)) = decide (hC [0, _] [0, _] = 0)
      rw [hC_two, intC_beq, Bool.and_true]
      rfl
    · show (((1 : Int) == 1 : Bool) && ((_ == _ : Bool) && true)) = decide (hC [1, _] [1, _] = 0)
      rw [hC_two, ← intC_beq, Bool.and_true]
      rfl
    · show (((2 : Int) == 2 : Bool) && ((_ == _ : Bool) && true)) = decide (hC (2 :: cpsI _) (2 :: cpsI _) = 0)
      rw [hC_str, sC_beq, Bool.and_true]
      rfl
    · next f as g bs =>
      show (((3 : Int) == 3 : Bool) && (((as.length : Int) == (bs.length : Int) : Bool) && ((f == g : Bool) && true))) = decide (hC (3 :: (as.length : Int) :: cpsI f) (3 :: (bs.length : Int) :: cpsI g) = 0)
      rw [hC3, intC_beq (as.length : Int), sC_beq, Bool.and_true]
      by_cases z : intC (as.length : Int) (bs.length : Int) = 0
      · rw [if_pos z, decide_eq_true z]
        rfl
      · rw [if_neg z, decide_eq_false z]
        rfl
  · obtain ⟨x, e1⟩ := hcode_row t
    obtain ⟨y, e2⟩ := hcode_row t'
    rw [e1, e2, hC_tag' e, hd_row, hd_row]
    have z : intC (rank t) (rank t') ≠ 0 := fun z => e (intC_ok.eq _ _ z)
    rw [decide_eq_false z]
    show ((rank t == rank t' : Bool) && _) = false
    rw [beq_false_of_ne e]
    rfl
theorem head_rc {t t' : Tm} {v u : Value} {as bs : List Addr} (hu : A.units + 1 < cLine) (r1 : Reads s.heap v (hdD t) as) (r2 : Reads s.heap u (hdD t') bs) : RcLt A s v u (decide (hC (hcode t) (hcode t') < 0)) := by
  rw [hd_row] at r1 r2
  cases r1 with
  | @tuple p o vs n _ _ h1 h2 h3 h4 =>
    cases r2 with
    | @tuple q o' us n' _ _ k1 k2 k3 k4 =>
      exact rc_tup ⟨o, h1, h2, n, h3⟩ ⟨o', k1, k2, n', k3⟩ (by omega) (head_dec (A := A.in1) hu h4 k4)
theorem heads_dec (hu : A.units + 2 < cLine) : ∀ (ts us : List Tm) (vs ws : List Value) (as bs : List Addr), Oks ts → Oks us → ReadsAll s.heap vs (ts.map hdD) as → ReadsAll s.heap ws (us.map hdD) bs → Dec A s vs ws (decide (kC (ts.map hcode) (us.map hcode) < 0))
  | [], [], _, _, _, _, _, _, r1, r2 => by
    cases r1
    cases r2
    exact .both
  | [], _ :: _, _, _, _, _, _, _, r1, r2 => by
    cases r1
    cases r2 with
    | cons a b => exact .short _ _
  | _ :: _, [], _, _, _, _, _, _, r1, r2 => by
    cases r2
    cases r1 with
    | cons a b => exact .long _ _
  | t :: ts, u :: us, _, _, _, _, o1, o2, r1, r2 => by
    rw [oks_cons] at o1 o2
    cases r1 with
    | cons a1 b1 =>
      cases r2 with
      | cons a2 b2 =>
        have e := eqAt_reads _ _ A s _ _ _ _ a1 a2 (hd_lay t o1.1) (hd_lay u o2.1) (by rw [hd_depth, hd_depth]; show A.units + 1 < _; omega)
        rw [eqv_hd] at e
        rw [List.map_cons, List.map_cons]
        show Dec A s _ _ (decide (lexC hC _ _ < 0))
        rw [lexC_cons]
        by_cases z : hC (hcode t) (hcode u) = 0
        · rw [decide_eq_true z] at e
          rw [if_pos z]
          exact .same e (heads_dec hu ts us _ _ _ _ o1.2 o2.2 b1 b2)
        · rw [decide_eq_false z] at e
          rw [if_neg z]
          exact .here e (head_rc (by omega) a1 a2)
/-- two keys -/
theorem keys_rc {ts us : List Tm} {v w : Value} {as bs : List Addr} (hu : A.units + 3 < cLine) (o1 : Oks ts) (o2 : Oks us) (r1 : Reads s.heap v (.list (ts.map hdD)) as) (r2 : Reads s.heap w (.list (us.map hdD)) bs) : RcLt A s v w (decide (kC (ts.map hcode) (us.map hcode) < 0)) := by
  cases r1 with
  | @list p o vs n _ _ h1 h2 h3 h4 =>
    cases r2 with
    | @list q o' us n' _ _ k1 k2 k3 k4 => exact rc_lst ⟨o, h1, h2, n, h3⟩ ⟨o', k1, k2, n', k3⟩ (by omega) (heads_dec (A := A.in1) (by show A.units + 1 + 2 < _; omega) _ _ _ _ _ _ o1 o2 h4 k4)
end
end Hm

set_option Elab.async false
set_option linter.all false
set_option maxRecDepth 100000
set_option maxHeartbeats 4000000
namespace Hm
open PySem PySem.Spec PySem.W PyProof.Rows SrtO
section
variable {prog : Program} {w : World} {A : Around} {E : Value → Shared → Prop} {s : Shared}
/-- the sorting itself, where the keys are all there -/
theorem srt_end {a kS : Addr} {its keys : Array Value} {e e1 : Nat} {P : Keyed → Prop} {lt : Keyed → Keyed → Bool} {R : PySem.Fin → Shared → Prop} (O : Swo lt) (hka : kS ≠ a) (hz : its.size ≤ sizeLine) (hkz : keys.size = its.size)
    (nk : s.heap.get? kS = some (seqObj "list" keys e)) (na : s.heap.get? a = some (seqObj "list" #[] e1)) (T : 2 ≤ keys.size → Cmp prog w A s oneType' P lt) (hP : AllL P (keys.zip its).toList)
    (hty : ∀ v ∈ keys.toList, Looks (model prog w) s.heap (typeOf v) (Value.type "list"))
    (h : ∀ out : List Keyed, Srtd lt out → Stb lt out (keys.zip its).toList → R (.done (.ret .none)) { s with heap := (s.heap.update kS (Obj.mapSeq fun _ => #[])).update a (Obj.mapSeq fun _ => (out.map (·.2)).toArray) }) :
    wpAny (model prog w) A (ksk_end a false its e1 (.ref kS) keys) R E s := by
  have pz : (keys.zip its).size = its.size := by rw [Array.size_zip, hkz, Nat.min_self]
  have last : ∀ st : SortSt, failedOf st = none → Srtd lt (arrOf st).toList → Stb lt (arrOf st).toList (keys.zip its).toList → wpAny (model prog w) A (ksk_tail a false e1 (.ref kS) st) R E s := by
    intro st hf h1 h2
    have sz : (arrOf st).size = its.size := by
      have := h2.len
      rw [Array.length_toList, Array.length_toList, pz] at this
      exact this
    have na1 : (s.heap.update kS (Obj.mapSeq fun _ => (#[] : Array Value))).get? a = some (seqObj "list" #[] e1) := (Heap.get?_update_ne _ _ _ _ hka.symm).trans na
    unfold ksk_tail
    try dsimp only
    refine wpAny_bind (listUpdate_at nk rfl ?_ (by rw [hkz]; exact hz) (Nat.zero_le _))
    refine wpAny_bind (wpAny_letGo ?_)
    refine wpAny_bind (seqEpoch_at na1 rfl ?_)
    refine wpAny_bind (listUpdate_at na1 rfl ?_ (Nat.zero_le _) (by show ((arrOf st).map _).size ≤ _; rw [Array.size_map, sz]; omega))
    rw [hf]
    simp only [bne_self_eq_false, Bool.false_eq_true, if_false]
    have r := h _ h1 h2
    rw [← Array.toList_map, Array.toArray_toList] at r
    exact wpAny_pure r
  unfold ksk_end
  try dsimp only
  simp only [Bool.false_eq_true, if_false]
  by_cases h2 : its.size < 2
  · rw [if_pos h2, if_pos h2]
    refine wpAny_bind (wpAny_pure ?_)
    rw [StateT.run_pure]
    refine wpAny_bind (wpAny_pure ?_)
    try dsimp only
    refine last (SortSt.mk' general' (keys.zip its) #[] 7 none) rfl ?_ (Stb.refl _)
    show Srtd lt (keys.zip its).toList
    have l1 : (keys.zip its).toList.length < 2 := by rw [Array.length_toList, pz]; exact h2
    match (keys.zip its).toList, l1 with
    | [], _ => exact List.Pairwise.nil
    | [x], _ => exact List.pairwise_singleton _ _
    | x :: y :: r, l1 => exact absurd l1 (by simp)
  · rw [if_neg h2, if_neg h2]
    have kk : keyKind' keys = keyKind' keys.toList.toArray := by rw [Array.toArray_toList]
    rw [kk]
    refine wpAny_bind (kas_kind (T := Value.type "list") (by rw [Array.length_toList]; omega) hty (by rfl) (by rfl) ?_)
    refine wpAny_bind (wpAny_mono (wpS_sortO (st0 := SortSt.mk' oneType' (keys.zip its) #[] 7 none) (Q := fun _ st' => Srtd lt (arrOf st').toList ∧ Stb lt (arrOf st').toList (keys.zip its).toList ∧ failedOf st' = none) O (T (by omega)) rfl hP rfl rfl fun st' a1 a2 a3 => ⟨a1, a2, a3⟩) ?_ fun _ _ q => q)
    rintro ⟨⟨⟩, st'⟩ s' ⟨rfl, p1, p2, p3⟩
    try dsimp only
    exact last st' p3 p1 p2
end
/-! ## a call of the program's own function by sorted's own -/
section
open L2 HT
open Evl (Ex)
variable {X : Cx} {pins : List (Addr × Obj)} {σ : L2.St} {H : Hp} {s : Shared}
theorem run2 {k : Nat} {f : Addr} {fd : FuncData} {ps : List Str} {sp : Sp} {us : List Value} {vs : List V} {Q : VK} (F : FnOk X.prog X.w X.K X.mg X.base CX0 k f fd ps sp) (hr : Room k X.A.in1.in1) (hb : Binds X.K fd ps []) (I : Inv X pins σ H s) (r : Vals vs us) (h : sp vs H Q E0) :
    wpAny (model X.prog X.w) X.A.in1.in1 (call (.ref f) us) (EP X pins σ Q) (fun _ _ => False) s := by
  have hl : us.length = ps.length := r.length.symm.trans (F.len _ _ _ _ h)
  have hb' := hb s us I.kIn (by rw [List.append_nil]; exact hl)
  rw [List.append_nil] at hb'
  refine wpAny_call (codeAny_mono (F.run X.A.in1.in1 X.stack s H ⟨us, []⟩ us vs Q E0 hr I.env0.in1.in1 hb' r h) fun r s' hq => ?_)
  match r, hq with
  | .error e, hq => exact hq.elim
  | .ok (.ret u), hq => exact I.after hq
  | .ok .next, hq => exact hq.elim
  | .ok .brk, hq => exact hq.elim
  | .ok .cont, hq => exact hq.elim
def hdV : Tm → List V
  | .var k => [.int 0, .int k]
  | .int i => [.int 1, .int i]
  | .atom s => [.int 2, .str s]
  | .comp f as => [.int 3, .int (as.length : Int), .str f]
def HdAt (K : PySem.W.Frag) (H : Hp) (w : V) (t : Tm) : Prop := ∃ q, w = .ref q ∧ SqT K H q (hdV t)
def KeyL (K : PySem.W.Frag) (H : Hp) (p : Addr) (ts : List Tm) : Prop := ∃ ws, H p = some (.lst ws) ∧ PySem.Paired (HdAt K H) ws ts
theorem KeyL.ex {K : PySem.W.Frag} {H H' : Hp} {p : Addr} {ts : List Tm} (h : KeyL K H p ts) (e : Ex H H') : KeyL K H' p ts := by
  obtain ⟨ws, h1, h2⟩ := h
  exact ⟨ws, e _ _ h1, Paired.mapP h2 fun w t ⟨q, a, b⟩ => ⟨q, a, Evl.ex_t e b⟩⟩
theorem KeyL.put {K : PySem.W.Frag} {H : Hp} {p l : Addr} {xs : List V} {o : HO} {ts : List Tm} (h : KeyL K H p ts) (hl : H l = some (.lst xs)) (n : p ≠ l) : KeyL K (upd H l o) p ts := by
  obtain ⟨ws, h1, h2⟩ := h
  exact ⟨ws, by rw [upd_ne n]; exact h1, Paired.mapP h2 fun w t ⟨q, a, b⟩ => ⟨q, a, Tups.lst hl _ _ b⟩⟩
theorem dp_hd {K : PySem.W.Frag} {H : Hp} {w : V} {t : Tm} (h : HdAt K H w t) : Dp K H w (hdD t) := by
  obtain ⟨q, rfl, h⟩ := h
  cases t with
  | var k => exact .tup h (.cons (.int 0) (.cons (.int k) .nil))
  | int k => exact .tup h (.cons (.int 1) (.cons (.int k) .nil))
  | atom k => exact .tup h (.cons (.int 2) (.cons (.str k) .nil))
  | comp f as => exact .tup h (.cons (.int 3) (.cons (.int _) (.cons (.str f) .nil)))
theorem dp_hds {K : PySem.W.Frag} {H : Hp} : ∀ {ws : List V} {ts : List Tm}, PySem.Paired (HdAt K H) ws ts → DpAll K H ws (ts.map hdD)
  | _, _, .nil => .nil
  | _, _, .cons h r => .cons (dp_hd h) (dp_hds r)
theorem KeyL.dp {K : PySem.W.Frag} {H : Hp} {p : Addr} {ts : List Tm} (h : KeyL K H p ts) : Dp K H (.ref p) (.list (ts.map hdD)) := by
  obtain ⟨ws, h1, h2⟩ := h
  exact .lst (SqL.of h1) (dp_hds h2)
/-- what a key is of: where it stands, the term's value in the hand layer and in the heap, the term -/
structure Ent where
  p : Addr
  v : V
  u : Value
  t : Tm
theorem perm_back {α β : Type} {f : α → β} {l m : List β} (h : l.Perm m) : ∀ Z : List α, m = Z.map f → ∃ Z' : List α, Z'.Perm Z ∧ l = Z'.map f := by
  induction h with
  | nil => exact fun Z e => ⟨Z, .refl _, e⟩
  | cons x _ ih =>
    intro Z e
    match Z, e with
    | z :: Z, e =>
      rw [List.map_cons] at e
      injection e with e1 e2
      obtain ⟨Z', h1, h2⟩ := ih Z e2
      exact ⟨z :: Z', h1.cons z, by rw [List.map_cons, e1, h2]⟩
    | [], e => cases e
  | swap x y l =>
    intro Z e
    match Z, e with
    | z :: z' :: Z, e =>
      rw [List.map_cons, List.map_cons] at e
      injection e with e1 e2
      injection e2 with e2 e3
      exact ⟨z' :: z :: Z, .swap _ _ _, by rw [List.map_cons, List.map_cons, e1, e2, e3]⟩
    | [z], e => simp at e
    | [], e => cases e
  | trans _ _ ih1 ih2 =>
    intro Z e
    obtain ⟨Z1, a1, b1⟩ := ih2 Z e
    obtain ⟨Z2, a2, b2⟩ := ih1 Z1 b1
    exact ⟨Z2, a2.trans a1, b2⟩
/-- the code of a key's value -/
def codeOf (Z : List Ent) : Value → List (List Int)
  | .ref p => match Z.find? (fun z => z.p == p) with
    | some z => kcode z.t
    | none => []
  | _ => []
theorem code_at {z : Ent} : ∀ {Z : List Ent}, (Z.map Ent.p).Nodup → z ∈ Z → codeOf Z (.ref z.p) = kcode z.t
  | [], _, h => by cases h
  | y :: Z, hn, h => by
    rw [List.map_cons, List.nodup_cons] at hn
    show (match List.find? (fun x : Ent => x.p == z.p) (y :: Z) with
      | some x => kcode x.t
      | none => []) = kcode z.t
    rw [List.find?_cons]
    rcases List.mem_cons.mp h with rfl | h
    · rw [beq_self_eq_true]
    · have ne : y.p ≠ z.p := fun e => hn.1 (by rw [e]; exact List.mem_map_of_mem h)
      rw [beq_false_of_ne ne]
      exact code_at hn.2 h
def ltK (Z : List Ent) (x y : Keyed) : Bool := decide (kC (codeOf Z x.1) (codeOf Z y.1) < 0)
theorem ltK_swo (Z : List Ent) : Swo (ltK Z) := by
  refine ⟨fun x y h => ?_, fun x y z h1 h2 => ?_⟩
  · have := of_decide_eq_true h
    have a := kC_ok.anti (codeOf Z x.1) (codeOf Z y.1)
    exact decide_eq_false (by omega)
  · have h1 := of_decide_eq_false h1
    have h2 := of_decide_eq_false h2
    have a1 := kC_ok.anti (codeOf Z x.1) (codeOf Z y.1)
    have a2 := kC_ok.anti (codeOf Z y.1) (codeOf Z z.1)
    have a3 := kC_ok.anti (codeOf Z x.1) (codeOf Z z.1)
    have t := kC_ok.tr _ _ _ (show kC (codeOf Z x.1) (codeOf Z y.1) ≤ 0 by omega) (show kC (codeOf Z y.1) (codeOf Z z.1) ≤ 0 by omega)
    exact decide_eq_false (by omega)
/-- an address that no one of this frame knows yet -/
structure Fre (X : Cx) (pins : List (Addr × Obj)) (L : Addr) : Prop where
  far : X.s_0.heap.objs.size ≤ L
  loc : L ≠ X.env.locals
  cel : ∀ x c, X.env.cells.lookup x = some c → c ≠ L
  pin : ∀ p ∈ X.pn ++ pins, p.1 ≠ L
  nfs : L ∉ X.fs
theorem Fre.of (I : Inv X pins σ H s) {L : Addr} (h : s.heap.objs.size ≤ L) : Fre X pins L := by
  have lt : ∀ b o, s.heap.get? b = some o → b ≠ L := fun b o e z => by
    subst z
    exact absurd (Heap.lt_size e) (Nat.not_lt.mpr h)
  refine ⟨Nat.le_trans I.sz h, fun z => ?_, fun x c e => ?_, fun p hp => lt _ _ (I.pin p hp).1, I.nofs h⟩
  · subst z
    exact absurd I.lt (Nat.not_lt.mpr h)
  · obtain ⟨v, o, ho, _⟩ := I.cell x c e
    exact lt _ _ ho
/-- such an object is changed, and is told in the hand layer from now on, or not -/
theorem adopt {L : Addr} {o : HO} {h' : Heap} (I : Inv X pins σ H s) (f : Fre X pins L) (hn : H L = none) (k : ∀ b u, b ≠ L → s.heap.get? b = some u → h'.get? b = some u) (new : ObjOk X.prog X.w (upd H L o) h' L o) : Inv X pins σ (upd H L o) { s with heap := h' } := by
  have ne : ∀ b u, H b = some u → b ≠ L := fun b u e z => by rw [z, hn] at e; cases e
  refine I.step (t' := s.toks) (g' := s.gens) (d' := s.drawn) (ch := [L]) (fun b hb => ?_) (fun b o _ _ hc e _ => k b o (fun z => hc (by simp [z])) e) (fun b o _ _ hc e _ => ⟨o.slots, k b o (fun z => hc (by simp [z])) e⟩) (fun b o hc e n => by rw [upd_ne (fun z => hc (by simp [z]))]; exact n)
    (fun b o hc e => ⟨o, k b o (fun z => hc (by simp [z])) e⟩) (fun b xs e => by rw [upd_ne (ne b _ e)]; exact e) (fun b o u e => by rw [upd_ne (ne b _ e)]; exact e) (fun b ps e => ⟨#[], by rw [upd_ne (ne b _ e), e]; simp⟩) (fun m hm => ?_) (fun b u e => ?_) I.bare
  · have e : b = L := by simpa using hb
    subst e
    exact ⟨.inr f.far, f.loc, f.cel, f.pin⟩
  · obtain ⟨o, es, ep, ho, r⟩ := hm
    exact ⟨o, es, ep, k _ o (Ne.symm f.loc) ho, r⟩
  · by_cases hb : b = L
    · subst hb
      rw [upd_same] at e
      cases e
      exact new
    · rw [upd_ne hb] at e
      refine (I.hok b u e).stay (fun c v hc q => k c v ?_ q) (fun c q => by rw [upd_ne (ne c _ q)]; exact q) fun c xs q => by rw [upd_ne (ne c _ q)]; exact q
      rcases hc with z | z
      · rw [z]; exact hb
      · exact ne c _ z
theorem touched {L : Addr} {h' : Heap} (I : Inv X pins σ H s) (f : Fre X pins L) (hn : H L = none) (k : ∀ b u, b ≠ L → s.heap.get? b = some u → h'.get? b = some u) : Inv X pins σ H { s with heap := h' } :=
  I.turned (t' := s.toks) (fun b o hb e => k b o hb e) hn f.loc (.inr f.far) f.cel f.pin
theorem pinned {L : Addr} {o : Obj} (I : Inv X pins σ H s) (f : Fre X pins L) (hn : H L = none) (h : s.heap.get? L = some o) (nc : ∀ v, o.data ≠ .cell v) : Inv X ((L, o) :: pins) σ H s :=
  I.pins_of fun p hp => by
    rcases List.mem_cons.mp hp with rfl | hp
    · exact ⟨h, hn, f.loc, f.nfs, nc⟩
    · exact I.pin p (List.mem_append_right _ hp)
theorem unpinned {L : Addr} {o : Obj} (I : Inv X ((L, o) :: pins) σ H s) : Inv X pins σ H s := I.pins_of fun p hp => I.pin p (List.mem_append_right _ (List.mem_cons_of_mem _ hp))
theorem vals_at : ∀ {xs : List V} {us : List Value}, Vals xs us → ∀ {j : Nat} {u : Value}, us[j]? = some u → ∃ x, xs[j]? = some x ∧ RelV x u
  | _, _, .nil, j, u, h => by simp at h
  | _, _, .cons h r, 0, u, e => ⟨_, rfl, by
      have := Option.some.inj e
      subst this
      exact h⟩
  | _, _, .cons h r, j + 1, u, e => vals_at r (by simpa using e)
theorem vals_refs : ∀ {Z : List Ent} {us : List Value}, Vals (Z.map fun z => V.ref z.p) us → us = Z.map fun z => Value.ref z.p
  | [], _, h => by cases h; rfl
  | z :: Z, _, h => by
    cases h with
    | cons h r =>
      rw [List.map_cons, ← vals_refs r]
      exact congrArg (· :: _) h
theorem zip_ents : ∀ Z : List Ent, (Z.map fun z => Value.ref z.p).zip (Z.map Ent.u) = Z.map fun z => (Value.ref z.p, z.u)
  | [] => rfl
  | z :: Z => by
    rw [List.map_cons, List.map_cons, List.map_cons, List.zip_cons_cons, zip_ents Z]
theorem vals_ents : ∀ {Z : List Ent}, (∀ z ∈ Z, RelV z.v z.u) → Vals (Z.map Ent.v) (Z.map Ent.u)
  | [], _ => .nil
  | z :: Z, h => .cons (h z List.mem_cons_self) (vals_ents fun y hy => h y (List.mem_cons_of_mem _ hy))
theorem reps_ents {K : PySem.W.Frag} : ∀ {Z : List Ent}, (∀ z ∈ Z, Rep K H z.t z.v) → Reps K H (Z.map Ent.t) (Z.map Ent.v)
  | [], _ => Reps.nil
  | z :: Z, h => Reps.cons (h z List.mem_cons_self) (reps_ents fun y hy => h y (List.mem_cons_of_mem _ hy))
def spKey (K : PySem.W.Frag) : Sp := fun vs H Q _ => ∃ v t, vs = [v] ∧ Rep K H t v ∧ Ok t ∧ size t ≤ 50000 ∧ ∀ p H', H p = none → Ex H H' → KeyL K H' p (pre t) → Q (.ref p) H'
def rSrt (K : PySem.W.Frag) (f : Addr) : List V → List V → Hp → VK → Prop := fun vs zs H Q => ∃ a xs ts, vs = [V.ref a] ∧ zs = [V.ref f] ∧ (SqL K H a xs ∨ SqT K H a xs) ∧ Reps K H ts xs ∧ Oks ts ∧ (∀ t ∈ ts, size t ≤ 50000) ∧ xs.length ≤ 1000 ∧
  ∀ p ys us H', H p = none → Ex H H' → H' p = some (.lst ys) → Reps K H' us ys → us.Perm ts → Rising us → Q (.ref p) H'
theorem cr_srt {k : Nat} {f : Addr} {fd : FuncData} {ps : List Str} (F : FnOk X.prog X.w X.K X.mg X.base CX0 k f fd ps (spKey X.K)) (hb : Binds X.K fd ps []) (hr : Room (k + 2) X.A) : CallRK X (.builtin "sorted") [Str.ofString "key"] (rSrt X.K f) := by
  intro pins s σ H vs zs us ws Q I r rz h
  obtain ⟨a, xs, ts, rfl, rfl, hS, hR, hO, hz0, hx, q⟩ := h
  have hz' : ∀ (t : Tm) {j : Nat}, ts[j]? = some t → size t ≤ 50000 := fun t j e => hz0 t (List.mem_of_getElem? e)
  obtain rfl := Vals.ref1 r
  obtain ⟨w1, rfl, e1⟩ := vals1 rz
  obtain rfl : w1 = Value.ref f := e1
  obtain ⟨its, rv, T, o, n, hT, ho, hc, hd⟩ : ∃ its, Vals xs its ∧ ∃ (T : String) (o : Obj) (n : Nat), (T = "list" ∨ T = "tuple") ∧ s.heap.get? a = some o ∧ o.cls = .type T ∧ o.data = .seq its.toArray n := by
    rcases hS with hS | hS
    · obtain ⟨its, rv, hl, _⟩ := I.list hS
      obtain ⟨o, ho, hc, n, hd⟩ := hl.isList
      exact ⟨its, rv, "list", o, n, .inl rfl, ho, hc, hd⟩
    · obtain ⟨its, rv, ⟨o, ho, hc, n, hd⟩, _⟩ := I.tuple hS
      exact ⟨its, rv, "tuple", o, n, .inr rfl, ho, hc, hd⟩
  have hlen : its.length ≤ 1000 := by rw [← rv.length]; exact hx
  have hsz : its.length ≤ sizeLine := Nat.le_trans hlen (by decide)
  refine call_function_entry_kw kind_sorted plain_sorted entry_sorted (ksk_s1 _ _) ?_
  unfold Builtin.«sorted»
  refine wpAny_bind (m := checkCount "sorted" 1 1 _) (wpAny_pure ?_)
  refine wpAny_bind (wpAny_collect_seq a hT ho hc hd (fun h1 k1 => ?_) (by rw [List.size_toArray]; exact hsz))
  have I1 : Inv X pins σ H { s with heap := h1 } := I.kept (t' := s.toks) k1
  rw [List.toList_toArray]
  refine wpAny_bind (wpAny_newList ?_ hsz)
  have fL : H h1.objs.size = none := I1.hok.fresh (Nat.le_refl _)
  have frL : Fre X pins h1.objs.size := Fre.of I1 (Nat.le_refl _)
  have hoL : (h1.push (seqObj "list" its.toArray 0)).get? h1.objs.size = some (seqObj "list" its.toArray 0) := Heap.get?_push_size _ rfl
  have I2 : Inv X pins σ H { s with heap := h1.push (seqObj "list" its.toArray 0) } := I1.kept (t' := s.toks) fun b u e => Heap.get?_push_of_some _ e
  generalize h1.objs.size = L at *
  refine wpAny_bind (wpAny_holding (wpAny_call_entry_kw slot_list_sort ⟨_, hoL, rfl⟩ entry_list_sort ?body (ksk_l1 _ _)))
  case body =>
    show wpAny (model X.prog X.w) X.A.in1.in1 (Builtin.«list.sort» ⟨[.ref L], [(Str.ofString "key", .ref f)]⟩) _ _ _
    rw [ksk_t1]
    unfold ksk_tree
    refine wpAny_bind (listItems_at hoL rfl ?_)
    refine wpAny_bind (listUpdate_at hoL rfl ?_ (by rw [List.size_toArray]; exact hsz) (Nat.zero_le _))
    obtain ⟨e1, ho1⟩ : ∃ e1, ((h1.push (seqObj "list" its.toArray 0)).update L (Obj.mapSeq fun _ => (#[] : Array Value))).get? L = some (seqObj "list" #[] e1) := ⟨_, get?_update_seq hoL fun _ => #[]⟩
    have I3 : Inv X pins σ H { s with heap := (h1.push (seqObj "list" its.toArray 0)).update L (Obj.mapSeq fun _ => (#[] : Array Value)) }     := touched (s := { s with heap := h1.push (seqObj "list" its.toArray 0) }) I2 frL fL fun b u hb hu => (Heap.get?_update_ne _ _ _ _ hb).trans hu
    refine wpAny_bind (seqEpoch_at ho1 rfl ?_)
    generalize (h1.push (seqObj "list" its.toArray 0)).update L (Obj.mapSeq fun _ => (#[] : Array Value)) = h3 at *
    refine wpAny_bind (wpAny_newTuple ?_ (by rw [List.toList_toArray]; exact hsz))
    refine wpAny_bind (wpAny_newList ?_ (Nat.zero_le _))
    refine wpAny_holding ?_
    rw [List.toList_toArray]
    have I4 : Inv X pins σ H { s with heap := h3.push (seqObj "tuple" its.toArray 0) } := I3.kept (t' := s.toks) fun b u e => Heap.get?_push_of_some _ e
    have ho4 : (h3.push (seqObj "tuple" its.toArray 0)).get? L = some (seqObj "list" #[] e1) := Heap.get?_push_of_some _ ho1
    generalize hh4 : h3.push (seqObj "tuple" its.toArray 0) = h4 at *
    have I4 := pinned I4 frL fL ho4 (fun v z => by cases z)
    have fK : H h4.objs.size = none := I4.hok.fresh (Nat.le_refl _)
    have hoK : (h4.push (seqObj "list" #[] 0)).get? h4.objs.size = some (seqObj "list" #[] 0) := Heap.get?_push_size _ rfl
    have I5 : Inv X ((L, seqObj "list" #[] e1) :: pins) σ (upd H h4.objs.size (.lst [])) { s with heap := h4.push (seqObj "list" #[] 0) } := I4.laid (t' := s.toks) (fun b u e => Heap.get?_push_of_some _ e) (Nat.le_refl _) ⟨Nat.zero_le _, [], 0, .nil, hoK⟩
    have hLK : L ≠ h4.objs.size := Nat.ne_of_lt (Heap.lt_size ho4)
    generalize h4.objs.size = kS at *
    unfold ksk_rest
    refine wpAny_bind (wpAny_rule ?_)
    rw [List.forIn_toArray]
    refine wpAny_bind (ksk_fold (fun j s' => ∃ (H' : Hp) (Z : List Ent), Inv X ((L, seqObj "list" #[] e1) :: pins) σ H' s' ∧ Ex H H' ∧ H' kS = some (.lst (Z.map fun z => V.ref z.p)) ∧ Z.map Ent.t = ts.take j ∧ Z.map Ent.u = its.take j ∧ (Z.map Ent.p).Nodup ∧ ∀ z ∈ Z, z.p ≠ kS ∧ KeyL X.K H' z.p (pre z.t) ∧ Rep X.K H z.t z.v ∧ RelV z.v z.u) its 0 _ ?init ?step ?done)
    case init =>
      exact ⟨_, [], I5, Ex.new fK, upd_same, rfl, rfl, List.nodup_nil, fun z hz => by cases hz⟩
    case step =>
      rintro j u s' hju ⟨H', Z, I', eH, hK', zt, zu, nd, hz⟩
      simp only [Nat.zero_add] at zt zu ⊢
      obtain ⟨x, hxj, hxu⟩ := vals_at rv hju
      obtain ⟨t, htj, hrt⟩ := hR.get hxj
      refine wpAny_bind (wpAny_attempt (wpAny_mono (run2 (Q := fun v H2 => ∃ p, v = .ref p ∧ H' p = none ∧ Ex H' H2 ∧ KeyL X.K H2 p (pre t)) F (hr.in1.in1) hb I' (.cons hxu .nil) ⟨x, t, rfl, hrt.mono (Tups.of eH), oks_get hO htj, hz' t htj, fun p H2 hp e2 hk => ⟨p, rfl, hp, e2, hk⟩⟩) (fun kv s2 he => ?_) fun _ _ hF => hF.elim))
      obtain ⟨v, H2, I6, rkv, p, rfl, hp, e2, hky⟩ := he
      have hK2 := e2 _ _ hK'
      have zlen : Z.length = j := by
        have := congrArg List.length zu
        rw [List.length_map, List.length_take] at this
        have hj : j < its.length := (List.getElem?_eq_some_iff.mp hju).1
        omega
      have hj : j < its.length := (List.getElem?_eq_some_iff.mp hju).1
      obtain ⟨hz2, kis, kn, kv2, hgK⟩ := I6.hok _ _ hK2
      obtain ⟨c2, hc2⟩ : ∃ c2, (s2.heap.update kS (Obj.mapSeq (·.push kv))).get? kS = some (seqObj "list" (kis.toArray.push kv) c2) := ⟨_, get?_update_seq hgK (·.push kv)⟩
      have kl : kis.length = j := by
        rw [← kv2.length, List.length_map, zlen]
      have e3 : kis.toArray.push kv = (kis ++ [kv]).toArray := by simp
      rw [e3] at hc2
      refine wpAny_bind (listUpdate_at hgK rfl ?_ (by rw [List.size_toArray, kl]; omega) (by rw [Array.size_push, List.size_toArray, kl]; omega))
      have hpK : p ≠ kS := (ne_of_none hK' hp).symm
      have I7 : Inv X ((L, seqObj "list" #[] e1) :: pins) σ (upd H2 kS (.lst ((Z ++ [(⟨p, x, u, t⟩ : Ent)]).map fun z => V.ref z.p))) { s2 with heap := s2.heap.update kS (Obj.mapSeq (·.push kv)) } :=
        I6.write (e := kS) (t' := s2.toks) (by rw [hK2]; trivial) (.inl rfl) (fun b u hb hu => (Heap.get?_update_ne _ _ _ _ hb).trans hu) ⟨_, hc2⟩ ⟨by rw [List.length_map, List.length_append, zlen]; show j + 1 ≤ _; omega, kis ++ [kv], c2, by rw [List.map_append]; exact kv2.append (.cons rkv .nil), hc2⟩
      refine wpAny_pure ⟨rfl, _, Z ++ [⟨p, x, u, t⟩], I7, Ex.mut (eH.trans e2) fK, upd_same, ?_, ?_, ?_, fun z hm => ?_⟩
      · rw [List.map_append, zt, List.take_add_one, htj]
        rfl
      · rw [List.map_append, zu, List.take_add_one, hju]
        rfl
      · rw [List.map_append, List.nodup_append]
        refine ⟨nd, by simp, fun y hy z hzz e => ?_⟩
        simp only [List.map_cons, List.map_nil, List.mem_singleton] at hzz
        subst hzz
        subst e
        obtain ⟨y, hy1, hy2⟩ := List.mem_map.mp hy
        obtain ⟨_, ⟨ws, hk, _⟩, _⟩ := hz y hy1
        rw [hy2, hp] at hk
        cases hk
      · rcases List.mem_append.mp hm with hm | hm
        · obtain ⟨a1, a3, a4, a5⟩ := hz z hm
          exact ⟨a1, (a3.ex e2).put hK2 a1, a4, a5⟩
        · have := List.mem_singleton.mp hm
          subst this
          exact ⟨hpK, hky.put hK2 hpK, hrt, hxu⟩
    case done =>
      rintro s' ⟨H', Z, I', eH, hK', zt, zu, nd, hz⟩
      simp only [Nat.zero_add] at zt zu
      have lts : ts.length = its.length := by rw [hR.len, rv.length]
      rw [List.take_of_length_le (by omega)] at zt zu
      obtain ⟨hz2, kis, kn, kv2, hgK⟩ := I'.hok _ _ hK'
      have ek := vals_refs kv2
      have lK : kis.length = its.length := by rw [ek, ← zu, List.length_map, List.length_map]
      obtain ⟨hgL, nL, _⟩ := I'.pin (L, seqObj "list" #[] e1) (List.mem_append_right _ List.mem_cons_self)
      have ez : (kis.toArray.zip its.toArray).toList = Z.map fun z => (Value.ref z.p, z.u) := by
        rw [ksk_zip, List.toList_toArray, ek, ← zu, zip_ents]
      have rd : ∀ z ∈ Z, ∃ as, Reads s'.heap (.ref z.p) (.list ((pre z.t).map hdD)) as := fun z hm => Dp.reads I' _ _ _ (hz z hm).2.1.dp rfl
      have okz : ∀ z ∈ Z, Ok z.t := fun z hm => by
        have : z.t ∈ ts := by rw [← zt]; exact List.mem_map_of_mem hm
        obtain ⟨i, hi, e⟩ := List.getElem_of_mem this
        exact oks_get hO (by rw [List.getElem?_eq_getElem hi, e])
      refine wpAny_bind (listItems_at hgK rfl ?_)
      refine srt_end (P := fun p => ∃ z ∈ Z, p.1 = .ref z.p) (lt := ltK Z) (ltK_swo Z) hLK.symm (by rw [List.size_toArray]; exact hsz) (by rw [List.size_toArray, List.size_toArray, lK]) hgK hgL (fun _ => ?_) (fun p hp => ?_) (fun v hv => ?_) fun out h1 h2 => ?_
      · rintro x y ⟨z, z1, z2⟩ ⟨z', z1', z2'⟩
        show wpAny _ _ (keyLt' oneType' x.1 y.1) (fun r s'' => s'' = s' ∧ r = ltK Z x y) _ s'
        have el : ltK Z x y = decide (kC (kcode z.t) (kcode z'.t) < 0) := by
          unfold ltK
          rw [z2, z2', code_at nd z1, code_at nd z1']
        rw [z2, z2', keyLt'_oneType, oneLt'_eq, el]
        simp only [if_true]
        obtain ⟨as, r1⟩ := rd z z1
        obtain ⟨bs, r2⟩ := rd z' z1'
        have un := hr.un
        have du : X.A.in1.in1.units = X.A.units + 2 := rfl
        cases r1 with
        | @list p1 o1 vs1 n1 _ as1 a1 a2 a3 a4 =>
          cases r2 with
          | @list p2 o2 vs2 n2 _ as2 b1 b2 b3 b4 =>
            refine wpAny_bind (wpAny_cRoomFor (by rw [du]; omega) ?_)
            refine wpAny_bind (wpAny_callSpecialIfBound?_slot (T := "list") ⟨_, a1, a2⟩ PySem.F.slot_list_lt (call_lst ⟨o1, a1, a2, n1, a3⟩ ⟨o2, b1, b2, n2, b3⟩ (heads_dec (A := X.A.in1.in1.in1) (by show X.A.units + 3 + 2 < _; omega) _ _ _ _ _ _ (ok_pre (okz z z1)) (ok_pre (okz z' z1')) a4 b4) ?_))
            exact wpAny_truthy_bool ⟨rfl, rfl⟩
      · rw [ez] at hp
        obtain ⟨z, hm, e⟩ := List.mem_map.mp hp
        exact ⟨z, hm, by rw [← e]⟩
      · rw [List.toList_toArray, ek] at hv
        obtain ⟨z, hm, e⟩ := List.mem_map.mp hv
        obtain ⟨as, r1⟩ := rd z hm
        rw [← e]
        exact looks_reads r1
      · rw [ez] at h2
        obtain ⟨Z', pZ, eZ⟩ := perm_back h2.perm Z rfl
        have hz3 : ∀ z ∈ Z', z ∈ Z := fun z hm => pZ.mem_iff.mp hm
        have eo : (out.map (·.2)) = Z'.map Ent.u := by rw [eZ, List.map_map]; rfl
        have lZ : Z'.length = its.length := by rw [pZ.length_eq, ← zu, List.length_map]
        obtain ⟨c2, hc2⟩ : ∃ c2, (s'.heap.update kS (Obj.mapSeq fun _ => (#[] : Array Value))).get? kS = some (seqObj "list" #[] c2) := ⟨_, get?_update_seq hgK fun _ => #[]⟩
        have I8 : Inv X pins σ (upd H' kS (.lst [])) { s' with heap := s'.heap.update kS (Obj.mapSeq fun _ => (#[] : Array Value)) } :=
          (unpinned I').write (e := kS) (t' := s'.toks) (by rw [hK']; trivial) (.inl rfl) (fun b u hb hu => (Heap.get?_update_ne _ _ _ _ hb).trans hu) ⟨_, hc2⟩ ⟨Nat.zero_le _, [], c2, .nil, hc2⟩
        have hgL8 : (s'.heap.update kS (Obj.mapSeq fun _ => (#[] : Array Value))).get? L = some (seqObj "list" #[] e1) := (Heap.get?_update_ne _ _ _ _ hLK).trans hgL
        have nL8 : upd H' kS (.lst []) L = none := by rw [upd_ne hLK]; exact nL
        obtain ⟨c3, hc3⟩ : ∃ c3, ((s'.heap.update kS (Obj.mapSeq fun _ => (#[] : Array Value))).update L (Obj.mapSeq fun _ => (out.map (·.2)).toArray)).get? L = some (seqObj "list" (out.map (·.2)).toArray c3) := ⟨_, get?_update_seq hgL8 fun _ => (out.map (·.2)).toArray⟩
        have I9 : Inv X pins σ (upd (upd H' kS (.lst [])) L (.lst (Z'.map Ent.v))) { s' with heap := (s'.heap.update kS (Obj.mapSeq fun _ => (#[] : Array Value))).update L (Obj.mapSeq fun _ => (out.map (·.2)).toArray) } :=
          adopt (s := { s' with heap := s'.heap.update kS (Obj.mapSeq fun _ => (#[] : Array Value)) }) I8 frL nL8 (fun b u hb hu => (Heap.get?_update_ne _ _ _ _ hb).trans hu) ⟨by rw [List.length_map, lZ]; exact hsz, out.map (·.2), c3, by rw [eo]; exact vals_ents fun z hm => (hz z (hz3 z hm)).2.2.2, hc3⟩
        have eH9 : Ex H (upd (upd H' kS (.lst [])) L (.lst (Z'.map Ent.v))) := Ex.mut (Ex.mut eH fK) fL
        refine ⟨_, rfl, wpAny_pure ⟨_, rfl, .ref L, _, I9, rfl, q L _ (Z'.map Ent.t) _ fL eH9 upd_same (reps_ents fun z hm => (hz z (hz3 z hm)).2.2.1.mono (Tups.of eH9)) (by rw [← zt]; exact pZ.map _) ?_⟩⟩
        have h1' := h1
        unfold Srtd at h1'
        rw [eZ, List.pairwise_map] at h1'
        refine List.pairwise_map.mpr (h1'.imp_of_mem fun {x y} hx hy g => ?_)
        unfold ltK at g
        have g2 := of_decide_eq_false g
        rw [code_at nd (hz3 y hy), code_at nd (hz3 x hx), ord_key] at g2
        have g3 := tord_ok.anti x.t y.t
        omega
end
end Hm

set_option Elab.async false
set_option linter.all false
set_option maxRecDepth 100000
set_option maxHeartbeats 1000000
namespace Hm
open PySem PySem.Spec PyProof.Rows L2 HT
open Evl (Ex)
/-! ## terms as data -/
mutual
def toD : Tm → PyData
  | .var k => .tuple [.int k]
  | .int i => .int i
  | .atom s => .str s
  | .comp f as => .tuple (.str f :: toDs as)
def toDs : List Tm → List PyData
  | [] => []
  | t :: ts => toD t :: toDs ts
end
section
variable {K : PySem.W.Frag} {H : Hp}
mutual
theorem dp_rep : ∀ {t : Tm} {v : V}, Rep K H t v → Dp K H v (toD t)
  | .var k, v, h => by
    unfold Rep at h
    obtain ⟨a, rfl, hT⟩ := h
    exact .tup hT (.cons (.int k) .nil)
  | .int i, v, h => by
    unfold Rep at h
    subst h
    exact .int i
  | .atom s, v, h => by
    unfold Rep at h
    subst h
    exact .str s
  | .comp f as, v, h => by
    unfold Rep at h
    obtain ⟨a, vs, rfl, hT, hA⟩ := h
    exact .tup hT (.cons (.str f) (dp_reps hA))
theorem dp_reps : ∀ {ts : List Tm} {vs : List V}, Reps K H ts vs → DpAll K H vs (toDs ts)
  | [], vs, h => by
    rw [h.nil_inv]
    exact .nil
  | t :: ts, vs, h => by
    obtain ⟨v, ws, rfl, h1, h2⟩ := h.cons_inv
    exact .cons (dp_rep h1) (dp_reps h2)
end
theorem dp_ints {p : Addr} {ns : List Int} (h : SqL K H p (ns.map V.int)) : Dp K H (.ref p) (.list (ns.map PyData.int)) := by
  refine .lst h ?_
  induction ns with
  | nil => exact .nil
  | cons n ns ih => exact .cons (.int n) (ih' ns)
where ih' : ∀ ns : List Int, DpAll K H (ns.map V.int) (ns.map PyData.int)
  | [] => .nil
  | n :: ns => .cons (.int n) (ih' ns)
end
theorem lay_ints : ∀ ns : List Int, PyData.canLayAll0 (ns.map PyData.int) = true
  | [] => rfl
  | n :: ns => by
    show (PyData.canLay0 (.int n) && PyData.canLayAll0 (ns.map PyData.int)) = true
    rw [lay_ints ns]
    rfl
theorem dep_ints : ∀ ns : List Int, PyData.depthAll (ns.map PyData.int) = 0
  | [] => rfl
  | n :: ns => by
    show max (PyData.depth (.int n)) (PyData.depthAll (ns.map PyData.int)) = 0
    rw [dep_ints ns]
    rfl
theorem shaped_ints (ns : List Int) : SeqAt.shaped (.list (ns.map PyData.int)) = true := by
  show (PyData.canLayAll0 (ns.map PyData.int) && decide (PyData.depthAll (ns.map PyData.int) + 1 ≤ 64)) = true
  rw [lay_ints, dep_ints]
  rfl
theorem eqv_ints (ns : List Int) : PyData.eqv (.list (ns.map PyData.int)) (.list (ns.map PyData.int)) = true := SeqAt.eqv_refl _ (lay_ints ns)
theorem strOk_of {s : Str} (h : AtomOk s) : (PyData.str s).canLay0 = true := by
  show (s.cps.all fun c => decide (c < 0x110000)) = true
  rw [← Array.all_toList, List.all_eq_true]
  intro c hc
  have := h.2 c hc
  exact decide_eq_true (by omega)
mutual
theorem lay_tm : ∀ {t : Tm}, Ok t → (toD t).canLay0 = true
  | .var k, _ => rfl
  | .int i, _ => rfl
  | .atom s, h => by
    unfold Ok at h
    exact strOk_of h
  | .comp f as, h => by
    unfold Ok at h
    unfold toD
    show ((PyData.str f).canLay0 && PyData.canLayAll0 (toDs as)) = true
    rw [strOk_of h.1, lay_tms h.2.2.2]
    rfl
theorem lay_tms : ∀ {ts : List Tm}, Oks ts → PyData.canLayAll0 (toDs ts) = true
  | [], _ => rfl
  | t :: ts, h => by
    rw [oks_cons] at h
    unfold toDs
    show ((toD t).canLay0 && PyData.canLayAll0 (toDs ts)) = true
    rw [lay_tm h.1, lay_tms h.2]
    rfl
end
mutual
theorem dep_tm : ∀ t : Tm, (toD t).depth ≤ depth t
  | .var k => by
    show max (PyData.depth (.int k)) (PyData.depthAll []) + 1 ≤ 1
    exact Nat.le_refl _
  | .int i => Nat.zero_le _
  | .atom s => Nat.zero_le _
  | .comp f as => by
    unfold toD depth
    have := dep_tms as
    show max (PyData.depth (.str f)) (PyData.depthAll (toDs as)) + 1 ≤ _
    have e : PyData.depth (.str f) = 0 := rfl
    omega
theorem dep_tms : ∀ ts : List Tm, PyData.depthAll (toDs ts) ≤ depths ts
  | [] => Nat.zero_le _
  | t :: ts => by
    unfold toDs
    rw [depths_cons]
    have h1 := dep_tm t
    have h2 := dep_tms ts
    show max (toD t).depth (PyData.depthAll (toDs ts)) ≤ _
    omega
end
theorem shaped_tm {t : Tm} (h : Ok t) (hd : depth t ≤ 64) : SeqAt.shaped (toD t) = true := by
  show ((toD t).canLay0 && decide ((toD t).depth ≤ 64)) = true
  rw [lay_tm h, decide_eq_true (Nat.le_trans (dep_tm t) hd)]
  rfl
theorem eqv_tm {t : Tm} (h : Ok t) : PyData.eqv (toD t) (toD t) = true := SeqAt.eqv_refl _ (lay_tm h)
mutual
theorem eqv_toD : ∀ s t : Tm, PyData.eqv (toD s) (toD t) = decide (tord s t = 0)
  | .var i, .var j => by
    show ((i == j : Bool) && true) = decide (hC [0, i] [0, j] = 0)
    rw [hC_two, intC_beq, Bool.and_true]
  | .int i, .int j => by
    show (i == j : Bool) = decide (hC [1, i] [1, j] = 0)
    rw [hC_two, intC_beq]
  | .atom i, .atom j => by
    show (i == j : Bool) = decide (hC (2 :: cpsI i) (2 :: cpsI j) = 0)
    rw [hC_str, sC_beq]
  | .comp f as, .comp g bs => by
    rw [tord]
    unfold toD
    show ((f == g : Bool) && PyData.eqvAll (toDs as) (toDs bs)) = _
    rw [eqv_toDs as bs, sC_beq]
    by_cases e1 : intC (as.length : Int) (bs.length : Int) = 0
    · have := intC_ok.eq _ _ e1
      rw [if_pos e1, decide_eq_true (show as.length = bs.length by omega), Bool.true_and]
      by_cases e2 : sC f g = 0
      · rw [if_pos e2, decide_eq_true e2, Bool.true_and]
      · rw [if_neg e2, decide_eq_false e2, Bool.false_and]
    · have hl : ¬ as.length = bs.length := fun z => e1 (by rw [z]; exact intC_ok.refl _)
      rw [if_neg e1, decide_eq_false e1, decide_eq_false hl, Bool.false_and, Bool.and_false]
  | .var i, .int j => by rw [decide_eq_false (show tord (.var i) (.int j) ≠ 0 from hC_rank (by simp [rank]))]; rfl
  | .var i, .atom j => by rw [decide_eq_false (show tord (.var i) (.atom j) ≠ 0 from hC_rank (by simp [rank]))]; rfl
  | .var i, .comp g bs => by
    rw [decide_eq_false (show tord (.var i) (.comp g bs) ≠ 0 from hC_rank (by simp [rank]))]
    unfold toD
    rfl
  | .int i, .var j => by rw [decide_eq_false (show tord (.int i) (.var j) ≠ 0 from hC_rank (by simp [rank]))]; rfl
  | .int i, .atom j => by rw [decide_eq_false (show tord (.int i) (.atom j) ≠ 0 from hC_rank (by simp [rank]))]; rfl
  | .int i, .comp g bs => by
    rw [decide_eq_false (show tord (.int i) (.comp g bs) ≠ 0 from hC_rank (by simp [rank]))]
    unfold toD
    rfl
  | .atom i, .var j => by rw [decide_eq_false (show tord (.atom i) (.var j) ≠ 0 from hC_rank (by simp [rank]))]; rfl
  | .atom i, .int j => by rw [decide_eq_false (show tord (.atom i) (.int j) ≠ 0 from hC_rank (by simp [rank]))]; rfl
  | .atom i, .comp g bs => by
    rw [decide_eq_false (show tord (.atom i) (.comp g bs) ≠ 0 from hC_rank (by simp [rank]))]
    unfold toD
    rfl
  | .comp g bs, .var j => by
    rw [decide_eq_false (show tord (.comp g bs) (.var j) ≠ 0 from hC_rank (by simp [rank]))]
    unfold toD
    rfl
  | .comp g bs, .int j => by
    rw [decide_eq_false (show tord (.comp g bs) (.int j) ≠ 0 from hC_rank (by simp [rank]))]
    unfold toD
    rfl
  | .comp g bs, .atom j => by
    rw [decide_eq_false (show tord (.comp g bs) (.atom j) ≠ 0 from hC_rank (by simp [rank]))]
    unfold toD
    rfl
theorem eqv_toDs : ∀ as bs : List Tm, PyData.eqvAll (toDs as) (toDs bs) = (decide (as.length = bs.length) && decide (tords as bs = 0))
  | [], [] => by simp [toDs, PyData.eqvAll, tords]
  | [], b :: bs => by simp [toDs, PyData.eqvAll]
  | a :: as, [] => by simp [toDs, PyData.eqvAll]
  | a :: as, b :: bs => by
    unfold toDs
    show (PyData.eqv (toD a) (toD b) && PyData.eqvAll (toDs as) (toDs bs)) = _
    rw [eqv_toD a b, eqv_toDs as bs, tords]
    have e : decide ((a :: as).length = (b :: bs).length) = decide (as.length = bs.length) := by simp
    rw [e]
    by_cases z : tord a b = 0
    · rw [if_pos z, decide_eq_true z, Bool.true_and]
    · rw [if_neg z, decide_eq_false z, Bool.false_and, Bool.and_false]
end
theorem tord_rank {s t : Tm} (h : rank s ≠ rank t) : tord s t = intC (rank s) (rank t) := by
  obtain ⟨x, e1⟩ := hcode_row s
  obtain ⟨y, e2⟩ := hcode_row t
  have e : tord s t = hC (hcode s) (hcode t) := by
    cases s <;> cases t <;> first | rfl | exact absurd rfl h
  rw [e, e1, e2, hC_tag' h]
theorem tord_var (i j : Int) : tord (.var i) (.var j) = intC i j := hC_two 0 i j
theorem tord_int (i j : Int) : tord (.int i) (.int j) = intC i j := hC_two 1 i j
theorem tord_atom (a b : Str) : tord (.atom a) (.atom b) = sC a b := hC_str a b
end Hm

set_option Elab.async false
set_option linter.all false
set_option maxRecDepth 100000
set_option maxHeartbeats 1000000
namespace Hm
open PySem PySem.Spec PyProof.Rows L2 HT
open Evl (Ex)
/-! ## objects of all sorts, by what is_term asks of them -/
inductive Od where
  | non
  | bl (b : Bool)
  | int (i : Int)
  | str (s : Str)
  | lst
  | dic
  | tup (ds : List Od)
mutual
def sizeD : Od → Nat
  | .non => 1
  | .bl _ => 1
  | .int _ => 1
  | .str s => 1 + s.length
  | .lst => 1
  | .dic => 1
  | .tup ds => 1 + sizesD ds
def sizesD : List Od → Nat
  | [] => 0
  | d :: ds => sizeD d + sizesD ds
end
mutual
inductive OdAt (K : PySem.W.Frag) (H : Hp) : V → Od → Prop
  | non : OdAt K H .non .non
  | bl (b : Bool) : OdAt K H (.bl b) (.bl b)
  | int (i : Int) : OdAt K H (.int i) (.int i)
  | str (s : Str) : OdAt K H (.str s) (.str s)
  | lst {a : Addr} {xs : List V} : SqL K H a xs → OdAt K H (.ref a) .lst
  | dic {a : Addr} {kvs : List (Key × V)} : H a = some (.dK kvs) → OdAt K H (.ref a) .dic
  | tup {a : Addr} {xs : List V} {ds : List Od} : SqT K H a xs → OdAll K H xs ds → OdAt K H (.ref a) (.tup ds)
inductive OdAll (K : PySem.W.Frag) (H : Hp) : List V → List Od → Prop
  | nil : OdAll K H [] []
  | cons {v : V} {vs : List V} {d : Od} {ds : List Od} : OdAt K H v d → OdAll K H vs ds → OdAll K H (v :: vs) (d :: ds)
end
def signOk (c : Nat) : Bool := decide (32 ≤ c ∧ c ≤ 126 ∧ c ≠ 37)
def atomD : Od → Bool
  | .str s => decide (s.length ≤ 40) && s.cps.toList.all signOk
  | _ => false
def intD : Od → Bool
  | .int _ => true
  | _ => false
def numD : Od → Bool
  | .int i => decide (0 ≤ i)
  | _ => false
def partD : Od → Bool
  | .int i => decide (-tooGreat < i) && decide (i < tooGreat)
  | .tup ds => match ds with
    | [] => false
    | [x] => numD x
    | x :: y :: r => decide (r.length ≤ 7) && atomD x
  | d => atomD d
def argsD : Od → List Od
  | .tup (_ :: ds) => ds
  | _ => []
mutual
def isT : Od → Bool
  | .non => false
  | .bl _ => false
  | .int i => decide (-tooGreat < i) && decide (i < tooGreat)
  | .str s => atomD (.str s)
  | .lst => false
  | .dic => false
  | .tup ds => partD (.tup ds) && isTq true ds
/-- all of them, or all but the first -/
def isTq : Bool → List Od → Bool
  | _, [] => true
  | true, _ :: ds => isTq false ds
  | false, d :: ds => isT d && isTq false ds
end
abbrev isTs (ds : List Od) : Bool := isTq false ds
theorem isTs_nil : isTs [] = true := rfl
theorem isTs_cons (d : Od) (ds : List Od) : isTs (d :: ds) = (isT d && isTs ds) := rfl
theorem isT_eq : ∀ d : Od, isT d = (partD d && isTs (argsD d))
  | .tup [] => rfl
  | .tup (x :: ds) => rfl
  | .non => rfl
  | .bl b => rfl
  | .int b => (Bool.and_true _).symm
  | .str b => (Bool.and_true _).symm
  | .lst => rfl
  | .dic => rfl
theorem isTs_app : ∀ xs ys : List Od, isTs (xs ++ ys) = (isTs xs && isTs ys)
  | [], ys => by rw [isTs_nil, Bool.true_and]; rfl
  | x :: xs, ys => by
    show isTs (x :: (xs ++ ys)) = _
    rw [isTs_cons, isTs_cons, isTs_app xs ys, Bool.and_assoc]
theorem sizesD_app : ∀ xs ys : List Od, sizesD (xs ++ ys) = sizesD xs + sizesD ys
  | [], ys => by rw [sizesD, Nat.zero_add]; rfl
  | x :: xs, ys => by
    show sizesD (x :: (xs ++ ys)) = _
    rw [sizesD, sizesD, sizesD_app xs ys, Nat.add_assoc]
theorem sizeD_pos : ∀ d : Od, 1 ≤ sizeD d
  | .non => Nat.le_refl _
  | .bl _ => Nat.le_refl _
  | .int _ => Nat.le_refl _
  | .str _ => Nat.le_add_right _ _
  | .lst => Nat.le_refl _
  | .dic => Nat.le_refl _
  | .tup _ => Nat.le_add_right _ _
theorem sizeD_args : ∀ d : Od, 1 + sizesD (argsD d) ≤ sizeD d
  | .tup [] => by rw [sizeD]; exact Nat.le_refl _
  | .tup (x :: ds) => by
    rw [sizeD, sizesD]
    show 1 + sizesD ds ≤ _
    omega
  | .non => sizeD_pos _
  | .bl b => sizeD_pos _
  | .int b => sizeD_pos _
  | .str b => sizeD_pos _
  | .lst => sizeD_pos _
  | .dic => sizeD_pos _
theorem len_sizesD : ∀ ds : List Od, ds.length ≤ sizesD ds
  | [] => Nat.zero_le _
  | d :: ds => by
    have h1 := len_sizesD ds
    have h2 := sizeD_pos d
    rw [sizesD, List.length_cons]
    omega
section
variable {K : PySem.W.Frag} {H : Hp}
/-- what an object that changes may do: lists and dicts stay such -/
structure Kind (K : PySem.W.Frag) (H H' : Hp) : Prop where
  t : Tups K H H'
  l : ∀ a xs, SqL K H a xs → ∃ ys, SqL K H' a ys
  d : ∀ a kvs, H a = some (.dK kvs) → ∃ ls, H' a = some (.dK ls)
theorem Kind.of {H H' : Hp} (e : Ex H H') : Kind K H H' := ⟨Tups.of e, fun a xs h => ⟨xs, Evl.ex_l e h⟩, fun a kvs h => ⟨kvs, e _ _ h⟩⟩
theorem Kind.trans {H H1 H2 : Hp} (p : Kind K H H1) (q : Kind K H1 H2) : Kind K H H2 := ⟨p.t.trans q.t, fun a xs h => (p.l a xs h).elim fun ys z => q.l a ys z, fun a xs h => (p.d a xs h).elim fun ys z => q.d a ys z⟩
theorem Kind.lst {H : Hp} {a : Addr} {xs ys : List V} (h : H a = some (.lst xs)) : Kind K H (upd H a (.lst ys)) := ⟨Tups.lst h, fun b zs z => by
  by_cases e : b = a
  · subst e
    exact ⟨ys, SqL.of upd_same⟩
  · rcases z with (z | ⟨o, z⟩) | z
    · exact ⟨zs, .inl (.inl (by rw [upd_ne e]; exact z))⟩
    · exact ⟨zs, .inl (.inr ⟨o, by rw [upd_ne e]; exact z⟩)⟩
    · exact ⟨zs, .inr z⟩, fun b kvs z => by
  by_cases e : b = a
  · subst e
    rw [h] at z
    cases z
  · exact ⟨kvs, by rw [upd_ne e]; exact z⟩⟩
mutual
theorem OdAt.mono {H H' : Hp} (m : Kind K H H') : ∀ {v : V} {d : Od}, OdAt K H v d → OdAt K H' v d
  | _, _, .non => .non
  | _, _, .bl b => .bl b
  | _, _, .int i => .int i
  | _, _, .str s => .str s
  | _, _, .lst h => (m.l _ _ h).elim fun ys z => .lst z
  | _, _, .dic h => (m.d _ _ h).elim fun ys z => .dic z
  | _, _, .tup h r => .tup (m.t _ _ h) (OdAll.mono m r)
theorem OdAll.mono {H H' : Hp} (m : Kind K H H') : ∀ {vs : List V} {ds : List Od}, OdAll K H vs ds → OdAll K H' vs ds
  | _, _, .nil => .nil
  | _, _, .cons h r => .cons (h.mono m) (OdAll.mono m r)
end
theorem OdAll.len : ∀ {vs : List V} {ds : List Od}, OdAll K H vs ds → ds.length = vs.length
  | _, _, .nil => rfl
  | _, _, .cons _ r => by rw [List.length_cons, List.length_cons, OdAll.len r]
theorem OdAll.app : ∀ {vs ws : List V} {ds es : List Od}, OdAll K H vs ds → OdAll K H ws es → OdAll K H (vs ++ ws) (ds ++ es)
  | _, _, _, _, .nil, h => h
  | _, _, _, _, .cons a r, h => .cons a (OdAll.app r h)
theorem OdAll.last : ∀ {ds : List Od} {d : Od} {vs : List V}, OdAll K H vs (ds ++ [d]) → ∃ ws v, vs = ws ++ [v] ∧ OdAll K H ws ds ∧ OdAt K H v d
  | [], d, _, .cons h .nil => ⟨[], _, rfl, .nil, h⟩
  | x :: ds, d, _, .cons h r => by
    obtain ⟨ws, v, rfl, h1, h2⟩ := OdAll.last r
    exact ⟨_ :: ws, v, rfl, .cons h h1, h2⟩
/-- its type's name -/
def tyN : Od → String
  | .non => "NoneType"
  | .bl _ => "bool"
  | .int _ => "int"
  | .str _ => "str"
  | .lst => "list"
  | .dic => "dict"
  | .tup _ => "tuple"
theorem ty_od {v : V} {d : Od} (h : OdAt K H v d) : TyX K H v (.type (tyN d)) := by
  cases h with
  | non => exact .base .non
  | bl b => exact .base (.bl b)
  | int i => exact .base (.int i)
  | str s => exact .base (.str s)
  | lst h =>
    rcases h with (h | ⟨o, h⟩) | ⟨o, its, n, h1, h2, _⟩
    · exact .base (.lst h)
    · exact .base (.frz h)
    · exact .kList h1 h2
  | dic h => exact .base (.dK h)
  | tup h _ =>
    rcases h with (h | ⟨o, h⟩) | ⟨o, its, n, h1, h2, _⟩
    · exact .base (.tup h)
    · exact .fTuple h
    · exact .kTuple h1 h2
end
/-! ### terms among them -/
mutual
def odT : Tm → Od
  | .var k => .tup [.int k]
  | .int i => .int i
  | .atom s => .str s
  | .comp f as => .tup (.str f :: odTs as)
def odTs : List Tm → List Od
  | [] => []
  | t :: ts => odT t :: odTs ts
end
theorem odTs_len : ∀ ts : List Tm, (odTs ts).length = ts.length
  | [] => rfl
  | t :: ts => by rw [odTs, List.length_cons, List.length_cons, odTs_len ts]
mutual
theorem od_rep {K : PySem.W.Frag} {H : Hp} : ∀ {t : Tm} {v : V}, Rep K H t v → OdAt K H v (odT t)
  | .var k, v, h => by
    unfold Rep at h
    obtain ⟨a, rfl, hT⟩ := h
    exact .tup hT (.cons (.int k) .nil)
  | .int i, v, h => by
    unfold Rep at h
    subst h
    exact .int i
  | .atom s, v, h => by
    unfold Rep at h
    subst h
    exact .str s
  | .comp f as, v, h => by
    unfold Rep at h
    obtain ⟨a, vs, rfl, hT, hA⟩ := h
    exact .tup hT (.cons (.str f) (od_reps hA))
theorem od_reps {K : PySem.W.Frag} {H : Hp} : ∀ {ts : List Tm} {vs : List V}, Reps K H ts vs → OdAll K H vs (odTs ts)
  | [], vs, h => by
    rw [h.nil_inv]
    exact .nil
  | t :: ts, vs, h => by
    obtain ⟨v, ws, rfl, h1, h2⟩ := h.cons_inv
    exact .cons (od_rep h1) (od_reps h2)
end
theorem atomD_ok {s : Str} (h : AtomOk s) : atomD (.str s) = true := by
  show (decide (s.length ≤ 40) && s.cps.toList.all signOk) = true
  rw [decide_eq_true (show s.length ≤ 40 from h.1), Bool.true_and, List.all_eq_true]
  exact fun c hc => decide_eq_true (h.2 c hc)
theorem atomD_is {s : Str} (h : atomD (.str s) = true) : AtomOk s := by
  have h' : (decide (s.length ≤ 40) && s.cps.toList.all signOk) = true := h
  rw [Bool.and_eq_true, List.all_eq_true] at h'
  exact ⟨of_decide_eq_true h'.1, fun c hc => of_decide_eq_true (h'.2 c hc)⟩
mutual
theorem isT_tm : ∀ {t : Tm}, Ok t → isT (odT t) = true
  | .var k, h => by
    unfold Ok at h
    show (decide (0 ≤ k) && true) = true
    rw [decide_eq_true h]
    rfl
  | .int i, h => by
    unfold Ok at h
    show (decide (-tooGreat < i) && decide (i < tooGreat)) = true
    rw [decide_eq_true h.1, decide_eq_true h.2]
    rfl
  | .atom s, h => by
    unfold Ok at h
    exact atomD_ok h
  | .comp f as, h => by
    unfold Ok at h
    obtain ⟨h1, h2, h3, h4⟩ := h
    show (partD (.tup (.str f :: odTs as)) && isTs (odTs as)) = true
    rw [isTs_tm h4, Bool.and_true]
    match as, h2, h3 with
    | a :: as, _, h3 =>
      show (decide ((odTs as).length ≤ 7) && atomD (.str f)) = true
      rw [atomD_ok h1, odTs_len, decide_eq_true (by rw [List.length_cons] at h3; omega)]
      rfl
theorem isTs_tm : ∀ {ts : List Tm}, Oks ts → isTs (odTs ts) = true
  | [], _ => rfl
  | t :: ts, h => by
    rw [oks_cons] at h
    show (isT (odT t) && isTs (odTs ts)) = true
    rw [isT_tm h.1, isTs_tm h.2]
    rfl
end
mutual
theorem sizeD_tm : ∀ {t : Tm}, Ok t → sizeD (odT t) ≤ 42 * size t
  | .var k, _ => by show 1 + (1 + 0) ≤ 42 * 1; decide
  | .int i, _ => by show 1 ≤ 42 * 1; decide
  | .atom s, h => by
    unfold Ok at h
    have h1 : s.length ≤ 40 := h.1
    show 1 + s.length ≤ 42 * 1
    omega
  | .comp f as, h => by
    unfold Ok at h
    have h1 : f.length ≤ 40 := h.1.1
    have h2 := sizesD_tm h.2.2.2
    show 1 + (1 + f.length + sizesD (odTs as)) ≤ 42 * size (.comp f as)
    rw [size]
    omega
theorem sizesD_tm : ∀ {ts : List Tm}, Oks ts → sizesD (odTs ts) ≤ 42 * sizes ts
  | [], _ => by rw [odTs, sizesD]; exact Nat.zero_le _
  | t :: ts, h => by
    rw [oks_cons] at h
    have h1 := sizeD_tm h.1
    have h2 := sizesD_tm h.2
    rw [odTs, sizesD, sizes_cons]
    omega
end
end Hm

set_option Elab.async false
set_option linter.all false
set_option maxRecDepth 100000
set_option maxHeartbeats 2000000
/-! defs that are called where no repr is under way: what they promise may speak of repr of data -/
namespace RG
open PySem PySem.Spec PyProof.Rows L2
/-- no object is being shown -/
abbrev Free (A : Around) : Prop := A.guards = some []
/-- a promise that holds where no object is being shown -/
structure FnG (P : Program) (w : World) (K : PySem.W.Frag) (mg : Str → Option Value) (base : Heap) (CC : CXT) (k : Nat) (f : Addr) (fd : FuncData) (ps : List Str) (sp : Sp) : Prop where
  arity : ∀ us H Q E, sp us H Q E → us.length = ps.length
  go : ∀ (B : Around) (es : List Env) (st : Shared) (H : Hp) (as : Args) (xs : List Value) (us : List V) (Q : VK) (E : XK), Free B → Room k B → Env0 P w K mg base B es st H → BindsTo st fd as (ps.zip xs) → Vals us xs → sp us H Q E →
    codeAny (model P w) B (.call (.ref f) as) (CR CC es P w H st Q E) st
section
variable {P : Program} {w : World} {K : PySem.W.Frag} {mg : Str → Option Value} {base : Heap}
theorem free_deeper {A : Around} {e : Env} (h : Free A) : Free (A.deeper e) := h
theorem fn_free {CC : CXT} {k : Nat} {f : Addr} {nm qual : Str} {pars : Arguments} {body : List Stmt} {sc : Scope} {dV kV doc pm cdv ct oc : Value} {an od : Option Addr} {osl : Array (Option Value)} {N ps : List Str} {sp : Sp}
    (lk : K.lookup f = some ⟨oc, od, .func (PySem.W.fnOf nm qual pars body sc dV kV doc pm an cdv ct), osl⟩) (hcd : PySem.W.codeIn K cdv qual = true) (S : FnScope N ps sc) (len : ∀ us H Q E, sp us H Q E → us.length = ps.length)
    (hb : ∀ (B : Around) (es : List Env) (st : Shared) (H : Hp) (us : List V) (Q : VK) (E : XK), Free B → Room k (B.deeper (envOfC qual sc st.heap.objs.size f cdv)) → sp us H Q E →
      ∃ t, PSs (cxOf CC P w K mg base N qual sc f cdv B es st H E) body t ∧ t { nx := fun _ G => Q .non G, rt := Q } (start N us) H) :
    FnG P w K mg base CC (k + 1) f (PySem.W.fnOf nm qual pars body sc dV kV doc pm an cdv ct) ps sp where
  arity := len
  go := by
    intro B es st H as xs us Q E hF hR he hB hV hs
    have n1 := len us H Q E hs
    have inK : K.In st.heap := he.mod.kin.keeps fun b o z => (he.bs b o z).1
    have noL : st.heap.NoLimit := he.mod.nolimit.keeps fun b o z => (he.bs b o z).1
    have kinds : ∀ y ∈ ps.zip xs, sc.names.lookup y.1 = some .local ∨ (sc.names.lookup y.1 = some .cell ∧ ((cellsFrom (st.heap.objs.size + 1) sc.names []).lookup y.1).isSome = true) := by
      rintro ⟨z, u⟩ hz
      cases S.par z (List.of_mem_zip hz).1 with
      | inl c => exact .inl c
      | inr c => exact .inr ⟨c, PySem.W.cellsFrom_some _ _ _ (.inl c)⟩
    apply codeAny_call_function hR.depth (inK _ _ lk) rfl S.co S.gen rfl (PySem.W.codeRec_of inK hcd)
    apply hB
    apply wpAny_newFunctionEnv_cells S.kind kinds
    intro env hE s1 hx
    subst hE
    refine ⟨noL.keeps hx.toInCall.keep, codeAny_func ?_⟩
    obtain ⟨t, hT, hQ⟩ := hb B es st H us Q E hF (hR.deeper _) hs
    have J := inv_start (CX := CC) (E := E) S hR.hd he n1 hV hx
    refine wpAny_mono (hT.run [] s1 (start N us) H _ J hQ) ?_ (fun _ _ z => z)
    rintro (_ | _ | _ | u) s2 h2
    · obtain ⟨σ, G, I2, q⟩ := h2
      exact ⟨.non, G, I2.os, I2.bare, I2.base, I2.hok, rfl, q⟩
    · exact h2.elim fun _ z => z.elim fun _ z => z.2.elim
    · exact h2.elim fun _ z => z.elim fun _ z => z.2.elim
    · obtain ⟨v, σ, G, I2, r, q⟩ := h2
      exact ⟨v, G, I2.os, I2.bare, I2.base, I2.hok, r, q⟩
theorem Fun.free {x qual : Str} {st : Stmt} {f : Addr} {fd : FuncData} {N ps : List Str} {k : Nat} {sp : Sp} (F : Fun K x qual st f fd) (S : FnScope N ps (defScope st)) (len : ∀ us H Q E, sp us H Q E → us.length = ps.length)
    (hb : ∀ (cdv : Value) (B : Around) (es : List Env) (s0 : Shared) (H : Hp) (us : List V) (Q : VK) (E : XK), Free (B.deeper (envOfC qual (defScope st) s0.heap.objs.size f cdv)) → Room k (B.deeper (envOfC qual (defScope st) s0.heap.objs.size f cdv)) → sp us H Q E →
      ∃ t, PSs (cxOf CX0 P w K mg base N qual (defScope st) f cdv B es s0 H E).nox (defBody st) t ∧ t { nx := fun _ G => Q .non G, rt := Q } (start N us) H) : FnG P w K mg base CX0 (k + 1) f fd ps sp := by
  obtain ⟨_, _, _, _, _, _, cdv, _, _, rfl, lk, hcd⟩ := F.ex
  exact fn_free lk hcd S len fun B es s0 H us Q E h1 h2 h3 => (hb cdv B es s0 H us Q E h1 h2 h3).elim fun t z => ⟨t, z.1.nox, z.2⟩
theorem FnG.of {CC : CXT} {k : Nat} {f : Addr} {fd : FuncData} {ps : List Str} {sp : Sp} (F : FnOk P w K mg base CC k f fd ps sp) : FnG P w K mg base CC k f fd ps sp := ⟨F.len, fun B es st H as xs us Q E _ h1 h2 h3 h4 h5 => F.run B es st H as xs us Q E h1 h2 h3 h4 h5⟩
end
/-- f(..), where nothing is being shown -/
theorem pe_callG {X : Cx} {CC : CXT} {k : Nat} {f : Addr} {fd : FuncData} {ps : List Str} {sp : Sp} {ws : List V} {ds : List Value} {E : XK} {x : Str} {p pos : Pos} {e : Expr} {es : List Expr} {t : TA}
    (F : FnG X.prog X.w X.K X.mg X.base CC k f fd ps sp) (free : Free X.A) (room : Room k X.A) (gl : Gl X x) (at_ : X.mg x = some (.ref f)) (kp : PySem.W.keepIn X.K (.ref f) = true) (bi : Binds X.K fd ps ds) (dv : Vals ws ds) (out : Passes CC X E) (ar : PA X (e :: es) t)
    (nd : (x == ("__debug__" : Str)) = false := by decide) (se : starEach (e :: es) X.env = (false, eval e X.env) :: starEach es X.env := by rfl) (pl : (backTo pos (starEach es X.env)).any (·.1) = false := by rfl) : PE X (.Call (.Name x p) (e :: es) [] pos) (tCall sp ws E t) where
  run := by
    intro pins s σ H Q I h
    apply wpAny_Call_Name_kw
    apply ld_glob I gl at_ _ nd
    apply PySem.W.callWith_K (h₀ := X.base) I.ok.mod.kin kp _ se pl
    refine thn (ar.run pos pins s σ H _ I h) fun us s1 ⟨vs, H1, J, r, q⟩ => ⟨J.kIn, ?_⟩
    have rr := r.append dv
    have n1 := (rr.length).symm.trans (F.arity _ _ _ _ q)
    apply wpAny_call
    refine codeAny_mono (F.go X.A X.stack s1 H1 ⟨us, []⟩ (us ++ ds) (vs ++ ws) Q E free room J.env0 (bi s1 us J.kIn n1) rr q) ?_
    rintro (er | (_ | _ | _ | u)) s2 h2
    · exact out pins σ H1 s1 er s2 J h2
    · exact h2.elim
    · exact h2.elim
    · exact h2.elim
    · exact J.after h2
end RG

set_option Elab.async false
set_option linter.all false
set_option maxRecDepth 100000
set_option maxHeartbeats 2000000
/-! an error of the program's own, whose __init__ calls that of its base by the base's name, and that has one field -/
namespace RG
open PySem PySem.Spec PyProof.Rows L2
/-- the base class: its __init__ is ValueError's -/
structure BaseE (K : PySem.W.Frag) (mg : Str → Option Value) (x : Str) (B : Addr) : Prop where
  at_ : mg x = some (.ref B)
  rd : PySem.W.readsIn K B (.type "type") = true
  ga : PySem.W.specialIn K (.ref B) "__getattribute__" = some (some (.builtin "type.__getattribute__"))
  ini : PySem.W.findCls K (.ref B) (.type "type") "__init__" = some (.val (.builtin "ValueError.__init__"))
/-- Base.__init__(self, ..) -/
theorem pe_hinit {X : Cx} {x : Str} {B : Addr} {e : Expr} {es : List Expr} {ta : TA} {p1 p2 pos : Pos} {pl : Sem Bool} (T : BaseE X.K X.mg x B) (gl : Gl X x) (ar : PA X (e :: es) ta) (nd : (x == ("__debug__" : Str)) = false := by decide)
    (ev : eval (.Call (.Attribute (.Name x p1) "__init__" p2) (e :: es) [] pos) X.env = (do
      let cv ← eval (.Name x p1) X.env
      standAt p2.atName
      let (g, fst) ← holding [cv] (getMethod cv "__init__" pl)
      callWith pos g fst (backTo pos (starEach (e :: es) X.env)) (backToKw pos (keywordEach [] X.env))) := by rfl)
    (se : starEach (e :: es) X.env = (false, eval e X.env) :: starEach es X.env := by rfl) (pn : (backTo pos (starEach es X.env)).any (·.1) = false := by rfl) :
    PE X (.Call (.Attribute (.Name x p1) "__init__" p2) (e :: es) [] pos) (tVeI X.K ta) where
  run := by
    intro pins s σ H Q I h
    refine PySem.W.methodCall_KW (ld_glob I gl T.at_ ?_ nd) ev
    refine PySem.W.method_cls I.kIn T.ga (PySem.W.cls_value I.kIn T.rd T.ini (by decide +kernel) ?_)
    show wpAny _ _ (callWith pos (Value.builtin "ValueError.__init__") [] (backTo pos (starEach (e :: es) X.env)) []) _ _ _
    refine PyProof.Rows.callWith_method1 (thn (ar.run pos pins _ σ H _ (I.tok _) h) fun us s1 z => ?_) se pn
    obtain ⟨vs, H1, J, rv, a, C, ws, rfl, few, oe, ha, q⟩ := z
    cases rv with
    | @cons _ u _ ur ra rr =>
      cases (ra : u = Value.ref a)
      have n1 : ur.length ≤ sizeLine := Nat.le_trans (Nat.le_of_eq (Paired.length rr).symm) (Nat.le_trans few (by decide))
      exact oinit_ok oe J ha n1 fun s2 J2 => ⟨.non, H1, J2, rfl, q⟩
/-- what the text says of an error class with one field -/
structure ErrE (K : PySem.W.Frag) (mg : Str → Option Value) (x f : Str) (C fI : Addr) : Prop where
  at_ : mg x = some (.ref C)
  oex : OexC K C
  xf : XfC K C
  noF : PySem.W.findIn K (.ref C) f = some none
  iC : PySem.W.findIn K (.ref C) "__init__" = some (some (.ref fI))
  tI : PySem.W.typeIn K (.ref fI) = some (.type "function")
  ex : PySem.W.exmOne K (.ref C) (.ref C) = some true
/-- what __init__(self, v) does -/
def spIni (C : Addr) (f : Str) : Sp := fun vs H Q _ => ∃ (a : Addr) (v : V), vs = [.ref a, v] ∧ H a = some (exo a C none) ∧ ∀ d, H d = none → d ≠ a → Q .non (upd (upd H d (exd d [(f, v)])) a (exo a C (some d)))
/-- how such an error comes: its dict is new and holds the field, all that was stands -/
def Comes (C : Addr) (f : Str) (v : V) (H : Hp) (E : XK) : Prop := ∀ d H', H d = none → Evl.Ex H H' → H' d = some (.xd [(f, v)]) → E (.ref C) (some d) H'
theorem made_err {C : Addr} {f : Str} {v : V} {H : Hp} {Q : XK} (q : ∀ d H', H d = none → Evl.Ex H H' → H' d = some (.xd [(f, v)]) → Q (.ref C) (some d) H') : ([v].length ≤ 1000 ∧ ∀ a, H a = none → spIni C f (.ref a :: ([v] ++ [])) (upd H a (exo a C none))
    (fun u H2 => u = .non ∧ ∃ (d : Addr) (fs : List (Str × V)), H2 a = some (exo a C (some d)) ∧ H2 d = some (exd d fs) ∧ H d = none ∧ Q (.ref C) (some d) (upd (del H2 a) d (.xd fs))) (fun _ _ _ => False)) := by
  refine ⟨by simp, fun a ha => ⟨a, v, rfl, upd_same, fun d hd ne => ⟨rfl, d, _, upd_same, ?_, ?_, q d _ ?_ ?_ upd_same⟩⟩⟩
  · rw [upd_ne ne, upd_same]
  · rw [upd_ne ne] at hd
    exact hd
  · rw [upd_ne ne] at hd
    exact hd
  · intro b o hb
    rw [upd_ne ne] at hd
    have n1 : b ≠ d := fun z => by subst z; rw [hd] at hb; cases hb
    have n2 : b ≠ a := fun z => by subst z; rw [ha] at hb; cases hb
    rw [upd_ne n1, del_ne n2, upd_ne n2, upd_ne n1, upd_ne n2]
    exact hb
/-- isinstance(e, c), e the error with a dict that the suite holds -/
structure IsE (K : PySem.W.Frag) (D : Addr) : Prop where
  cl : (PySem.W.clsIn K D).isSome = true
  hg : PySem.W.findIn K (.ref D) "__getattribute__" = some (some (.builtin "BaseException.__getattribute__"))
  hk : PySem.W.findIn K (.ref D) "__getattr__" = some none
  hs : PySem.W.subIn K (.ref D) (.type "BaseException") = some true
  ha : PySem.W.findIn K (.ref D) "__class__" = some (some (.builtin "object.__class__"))
  hn : PySem.W.specialIn K (.builtin "object.__class__") "__get__" = some (some (.builtin "getset_descriptor.__get__"))
  ht : PySem.W.takesIn K (.builtin "object.__class__") = some true
  hm : PySem.W.mroIn K D (.type "object") = some true
def rIsD (K : PySem.W.Frag) (D a : Addr) (cls : Value) (d : Option Addr) : List V → Hp → VK → Prop := fun xs H Q => ∃ (c : V) (cv : Value) (b : Bool) (dd : Addr) (fs : List (Str × V)), xs = [.ref a, c] ∧ (∀ u, RelV c u → u = cv) ∧ cls = .ref D ∧ d = some dd ∧ H dd = some (.xd fs) ∧ PySem.W.kitOne K (.ref D) cv = some b ∧ Q (.bl b) H
theorem call_isD {X : Cx} {a D : Addr} {cls : Value} {d : Option Addr} {oe : Obj} {pn : List (Addr × Obj)} (C : IsE X.K D) (hz : Zc cls d oe) (hf : ∃ vs, oe.data = .fields vs) : CallR (X.suite a ((a, oe) :: pn)) (.builtin "isinstance") (rIsD X.K D a cls d) := by
  intro pins s σ H xs us Q I r h
  obtain ⟨c, cv, b, dd, fs, rfl, hcv, rfl, rfl, hd, e, q⟩ := h
  obtain ⟨u1, u2, rfl, r1, r2⟩ := vals2 r
  cases (r1 : u1 = Value.ref a)
  cases hcv _ r2
  obtain ⟨at_, _⟩ := I.pin (a, oe) (List.mem_append_left _ List.mem_cons_self)
  obtain ⟨vs, hv⟩ := hf
  have hx : ObjOk X.prog X.w H s.heap dd (.xd fs) := I.hok dd _ hd
  obtain ⟨mA, hns, _⟩ := hx
  obtain ⟨od, ho, _⟩ := lookIn_ns hns
  have J : PySem.W.InstAt s.heap a oe D (some od) := ⟨at_, hz.1, by unfold PySem.W.notCls; rw [hv] <;> rfl, by rw [hz.2]; exact ho⟩
  exact PySem.W.kia_one (PySem.W.kitx_exc C.cl C.hg C.hk C.hs C.ha C.hn C.ht C.hm) I.kIn J e (fun z => nomatch z) fun tk => ⟨.bl b, H, I.kept (t' := tk) fun _ _ z => z, rfl, q⟩
end RG

set_option Elab.async false
set_option linter.all false
set_option maxRecDepth 100000
set_option maxHeartbeats 2000000
/-! repr of data -/
namespace RG
open PySem PySem.Spec PyProof.Rows L2
/-- repr(x), x data without dicts -/
def rReprD (K : PySem.W.Frag) : List V → Hp → VK → Prop := fun xs H Q => ∃ v d, xs = [v] ∧ Dp K H v d ∧ d.showable = true ∧ d.hasDict = false ∧ d.depth ≤ 60 ∧ d.shown.length ≤ sizeLine ∧ Q (.str d.shown) H
/-- the same, or an empty dict -/
def rReprE (K : PySem.W.Frag) : List V → Hp → VK → Prop := fun xs H Q => rReprD K xs H Q ∨ ∃ a, xs = [.ref a] ∧ H a = some (.dK []) ∧ Q (.str "{}") H
theorem call_reprD {X : Cx} (free : Free X.A) (hu : X.A.units + 64 < cLine) : CallR X (.builtin "repr") (rReprD X.K) := by
  intro pins s σ H xs us Q I r h
  obtain ⟨v, d, rfl, hd, hs, hn, hp, hl, q⟩ := h
  obtain ⟨u, rfl, rv⟩ := vals1 r
  obtain ⟨as, rd⟩ := Dp.reads I d v u hd rv
  cases hd with
  | non =>
    cases rv
    exact PySem.P.repr_of_none ⟨.str _, H, I.tok _, ⟨_, rfl⟩, q⟩
  | bl b =>
    cases rv
    exact PySem.P.repr_of_bool ⟨.str _, H, I.tok _, ⟨_, rfl⟩, q⟩
  | int i =>
    obtain ⟨t, rfl⟩ := rv
    exact PySem.P.repr_of_int (of_decide_eq_true hs) ⟨.str _, H, I.tok _, ⟨_, rfl⟩, q⟩
  | str x =>
    obtain ⟨t, rfl⟩ := rv
    exact PySem.P.repr_of_str ⟨.str _, H, I.tok _, ⟨_, rfl⟩, q⟩ hl
  | lst _ _ =>
    cases rv
    exact repr_of_reads' rd hs (fun z => by rw [hn] at z; cases z) free (by omega) (fun _ _ e => e) (fun h' u tk k => ⟨.str _, H, I.kept k, ⟨_, rfl⟩, q⟩) hl
  | tup _ _ =>
    cases rv
    exact repr_of_reads' rd hs (fun z => by rw [hn] at z; cases z) free (by omega) (fun _ _ e => e) (fun h' u tk k => ⟨.str _, H, I.kept k, ⟨_, rfl⟩, q⟩) hl
theorem call_reprE {X : Cx} (free : Free X.A) (hu : X.A.units + 64 < cLine) : CallR X (.builtin "repr") (rReprE X.K) := by
  intro pins s σ H xs us Q I r h
  rcases h with h | ⟨a, rfl, ha, q⟩
  · exact call_reprD free hu pins s σ H xs us Q I r h
  obtain ⟨u, rfl, rv⟩ := vals1 r
  cases rv
  obtain ⟨_, hn, vs, kv, o, es, ep, e1, ⟨e2, _⟩, e3, _, e4, _⟩ := I.hok a _ ha
  cases kv
  have n1 : es.toList = [] := List.length_eq_zero_iff.mp (by rw [Array.length_toList]; exact e4.length.trans rfl)
  have rd : Reads s.heap (.ref a) (.dict []) ([a] ++ [] ++ []) := Reads.dict e1 e2 e3 (by rw [n1]; exact ReadsAll.nil) (by rw [n1]; exact ReadsAll.nil)
  have ne : a ≠ sysModules := by simpa using hn
  exact repr_of_reads' rd rfl (fun _ z => ne (by simp at z; exact z.symm)) free (by show X.A.units + (1 + 1) < cLine; omega) (fun _ _ e => e) (fun h' u tk k => ⟨.str _, H, I.kept k, ⟨_, rfl⟩, q⟩) (by decide +kernel)
end RG

set_option Elab.async false
set_option linter.all false
set_option maxRecDepth 100000
set_option maxHeartbeats 2000000
/-! the end of a law whose defs show data: at the caller nothing is being shown -/
namespace RG
open PySem PySem.Spec PyProof.Rows L2
/-- the script's list -/
abbrev scr (vs : List Value) : Obj := { cls := .type "list", data := .seq vs.toArray }
/-- what is tracked at the start: the script, if it is not the module's -/
def trk0 (K : PySem.W.Frag) (a : Addr) (vs : List Value) (ns : List Int) : Hp := fun b => if b = a ∧ K.lookup a = none then some (.frz (scr vs) (.lst (ns.map V.int))) else none
theorem trk0_at {K : PySem.W.Frag} {a b : Addr} {vs : List Value} {ns : List Int} {u : HO} (h : trk0 K a vs ns b = some u) : b = a ∧ K.lookup a = none ∧ u = .frz (scr vs) (.lst (ns.map V.int)) := by
  unfold trk0 at h
  split at h
  · rename_i c
    cases h
    exact ⟨c.1, c.2, rfl⟩
  · cases h
theorem law_free {P : Program} {w : World} {K : PySem.W.Frag} {mg mb : Str → Option Value} {CC : CXT} {k : Nat} {fa a : Addr} {fd : FuncData} {x : Str} {sp : Sp} {st : Shared} {vs : List Value} {ns : List Int}
    (inK : K.In st.heap) (gl : st.heap.Ns mainGlobals mg) (bn : st.heap.Ns builtinsNs mb) (boot : ∀ y : Str, y ≠ "__name__" → mb y = bootBuiltins y) (noL : st.heap.NoLimit) (noG : st.gens = #[])
    (at_ : st.heap.get? a = some (scr vs)) (inz : IntsAre vs ns) (few : ns.length ≤ sizeLine) (room : Room k callerA)
    (F : ∀ base : Heap, K.In base → base.Ns mainGlobals mg → FnG P w K mg base CC k fa fd [x] sp) (bind : ∀ (s : Shared) (u : Value), BindsTo s fd ⟨[u], []⟩ [(x, u)])
    (told : ∀ H : Hp, SqL K H a (ns.map V.int) → sp [.ref a] H (fun v _ => v = .bl true) fun _ _ _ => False)
    (calm : ∀ H e s', CC [] H st (fun _ _ _ => False) e s' → False) :
    codeAny (model P w) callerA (.call (.ref fa) ⟨[.ref a], []⟩) (fun r s' => r = .ok (.ret (.bool true)) ∧ OldK st.heap s'.heap ∧ s'.os = st.os ∧ AllBare s'.gens) st := by
  have rv := vals_ints inz
  have hlen := inz.length
  let H := trk0 K a vs ns
  have hS : SqL K H a (ns.map V.int) := by
    cases e : K.lookup a with
    | none => exact .inl (.inr ⟨scr vs, if_pos ⟨rfl, e⟩⟩)
    | some o =>
      have e2 := inK a o e
      rw [at_] at e2
      cases e2
      exact .inr ⟨_, vs.toArray, _, e, rfl, rfl, rfl, by rw [List.size_toArray, hlen]; exact few, by simpa using rv⟩
  have hOk : HOk P w H st.heap := fun b u z => by
    obtain ⟨rfl, _, rfl⟩ := trk0_at z
    exact ⟨at_, by rw [List.length_map]; exact few, vs, _, rv, at_⟩
  have keepB : ∀ {b : Addr} {o : Obj}, st.heap.get? b = some o → H b = none → (hidT st.heap H).get? b = some o := fun e n => hidT_get e n
  have dicts : ∀ {b : Addr} {m : Str → Option Value}, st.heap.Ns b m → (hidT st.heap H).Ns b m := by
    rintro b m ⟨o, es, ep, e, d, r⟩
    refine ⟨o, es, ep, keepB e ?_, d, r⟩
    cases q : H b with
    | none => rfl
    | some u =>
      obtain ⟨rfl, _, _⟩ := trk0_at q
      rw [at_] at e
      cases e
      cases d
  have inB : K.In (hidT st.heap H) := fun b o e => keepB (inK b o e) (by
    cases q : H b with
    | none => rfl
    | some u =>
      obtain ⟨rfl, z, _⟩ := trk0_at q
      rw [z] at e
      cases e)
  obtain ⟨mc, c1, c2⟩ := noL
  have md : Mod K mg (hidT st.heap H) := ⟨inB, dicts gl, ⟨mb, dicts bn, boot⟩, mc, dicts c1, c2⟩
  have e0 : Env0 P w K mg (hidT st.heap H) callerA [] st H := {
    frames := rfl, mod := md, bs := fun b o e => of_hidT e, bsz := Nat.le_of_eq (hidT_size _ _), funs := trivial
    frf := fun b hb => (List.not_mem_nil hb).elim, hok := hOk, bare := .of_eq noG }
  refine codeAny_mono ((F _ inB (dicts gl)).go callerA [] st H ⟨[.ref a], []⟩ [.ref a] [.ref a] _ _ rfl room e0 (bind st (.ref a)) (.cons rfl .nil) (told H hS)) ?_
  rintro (er | (_ | _ | _ | u)) s2 h2
  · exact (calm H er s2 h2).elim
  · exact h2.elim
  · exact h2.elim
  · exact h2.elim
  · obtain ⟨v, G, ho, hb, un, ok2, r, rfl⟩ := h2
    cases (r : u = Value.bool true)
    refine ⟨rfl, OldK.of_keep fun b o e => ?_, ho, hb⟩
    cases q : H b with
    | none => exact un.keep b o e q (fun z => List.not_mem_nil z) (by simp)
    | some t =>
      obtain ⟨rfl, _, rfl⟩ := trk0_at q
      have z2 := un.frzs b (scr vs) _ q
      obtain ⟨k1, _⟩ := ok2 b _ z2
      rw [at_] at e
      cases e
      exact k1
/-- the goal that k_head leaves, from a law's promise where nothing is being shown -/
theorem walk_free {l : PySem.W.OpenLaw} {n k : Nat} {q : Program} {loose : List Str} {XP : (Str → Option Value) → Heap → Prop} {YP : World → Heap → Prop} {d : DefRec} {K : Params → PySem.W.Frag} {CC : World → CXT} {sp : World → Sp} {x : Str}
    (most : l.most = some n) (few : n ≤ sizeLine) (nodef : d.params.defaults = []) (room : Room k callerA) (inK : ∀ (w : World) (h : Heap), YP w h → (K w.params).In h)
    (F : ∀ (w : World) (mg : Str → Option Value) (fa : Addr) (h : Heap), (K w.params).In h → h.Ns mainGlobals mg → mg d.name = some (.ref fa) →
      ∃ fd : FuncData, (∀ (s : Shared) (u : Value), BindsTo s fd ⟨[u], []⟩ [(x, u)]) ∧ ∀ base : Heap, (K w.params).In base → base.Ns mainGlobals mg → FnG l.prog w (K w.params) mg base (CC w) k fa fd [x] (sp w))
    (told : ∀ (w : World) (H : Hp) (a : Addr) (ns : List Int), ns.length ≤ n → SqL (K w.params) H a (ns.map V.int) → sp w [.ref a] H (fun v _ => v = .bl true) fun _ _ _ => False)
    (calm : ∀ (w : World) (H : Hp) (s : Shared) (e : Value) (s' : Shared), CC w [] H s (fun _ _ _ => False) e s' → False) : PySem.W.WalkO q loose XP YP l.row.toRowW d [] (fun f vs => PySem.call f vs) := by
  apply Att.attach_call most nodef
  intro w s0 s1 mg mb fa o pm cd doc a vs ns G Y ho hd hcd hmg hob hin hle hgn
  obtain ⟨fd, hbi, hF⟩ := F w mg fa s1.heap (inK w _ Y) G.T.g hmg
  exact law_free (inK w _ Y) G.T.g G.T.b G.T.builtins G.T.nolimit hgn hob hin (Nat.le_trans hle few) room hF hbi (fun H hS => told w H a ns hle hS) fun H e s2 => calm w H s1 e s2
end RG

set_option Elab.async false
set_option linter.all false
set_option maxRecDepth 100000
set_option maxHeartbeats 1000000
namespace Hm
open PySem PySem.Spec PyProof.Rows L2 HT
open PySem.AutoSeq1 (wpAny_loadPart')
/-! list + list where the left one may be the script itself -/
theorem list_add_any (l b : Addr) (xs ys : Array Value) (n m : Nat) (sl : Array (Option Value)) (hz : xs.size + ys.size ≤ sizeLine) :
    Meets (Builtin.«list.__add__» ⟨[.ref l, .ref b], []⟩) fun _ R s =>
      s.heap.get? l = some { cls := .type "list", dict := none, data := .seq xs n, slots := sl } ∧
      s.heap.get? b = some { cls := .type "list", data := .seq ys m } ∧
      R (.ok (.ret (.ref s.heap.objs.size))) { s with heap := s.heap.push { cls := .type "list", data := .seq (xs ++ ys) } } := by
  refine .of_wp fun pr wo ar re st hh => ?_
  obtain ⟨heap, gens, drawn, toks, os⟩ := st
  obtain ⟨e1, e2, k⟩ := hh
  have q1 := AutoSeq1.idx_int
  have q2 := AutoSeq1.sub_tuple_tuple
  have q3 := AutoSeq1.sub_list_list
  have q4 := AutoSeq1.sub_tuple_list
  have q5 := AutoSeq1.sub_list_tuple
  wp_walk using wpAny_loadPart' e1, wpAny_loadPart' e2
  exact ⟨_, rfl, k⟩
def rCatL (K : PySem.W.Frag) : R2 := fun x y H Q => ∃ l b xs zs, x = .ref l ∧ y = .ref b ∧ SqL K H l xs ∧ H b = some (.lst zs) ∧ xs.length + zs.length ≤ sizeLine ∧ ∀ p, H p = none → Q (.ref p) (upd H p (.lst (xs ++ zs)))
theorem op_catL {X : Cx} : OpR X (binaryOp .Add) (rCatL X.K) := by
  intro pins s σ H x y v u Q I rx ry h
  obtain ⟨l, b, xs, zs, rfl, rfl, hH, hB, hz, q⟩ := h
  cases rx
  cases ry
  obtain ⟨its, r, ⟨o, n, e, h1, h2, h3⟩, hz1⟩ := I.list hH
  obtain ⟨z2, its2, n2, r2, hl2, e2⟩ := I.lstM hB
  have hlen := r.length
  have eo : o = { cls := .type "list", dict := none, data := .seq its.toArray n, slots := o.slots } := by
    cases o
    simp only at h1 h2 h3
    subst h1
    subst h2
    subst h3
    rfl
  rw [eo] at e
  refine concat_meets ⟨_, e, rfl⟩ ⟨_, e2, rfl⟩ noFill_list_add seq_list_add F.slot_list_add F.entry_list_add (F.args_list_add_2 _ _) (list_add_any l b its.toArray its2.toArray n n2 _ (by rw [List.size_toArray, List.size_toArray]; omega)) ⟨e, e2, ?_⟩
  have ea : its.toArray ++ its2.toArray = (its ++ its2).toArray := by simp
  rw [ea]
  exact ⟨.ref _, _, I.lnew (t' := s.toks) (r.append r2) (by rw [List.length_append]; omega), rfl, q _ I.fresh⟩
end Hm

set_option Elab.async false
set_option linter.all false
set_option maxRecDepth 100000
set_option maxHeartbeats 4000000
namespace Hm
open PySem PySem.Spec PyProof.Rows L2 HT
/-! t[:0:-1] of a tuple -/
section
variable {prog : Program} {w : World} {A : Around} {E : Value → Shared → Prop} {s : Shared}
theorem sliceApplied_back0 {sl : Addr} {n : Nat} {ti tj : Tok} {Q : Int × Int × Nat → Shared → Prop} (h1 : 1 ≤ n) (hs : s.heap.IsSliceOf sl .none (.int 0 tj) (.int (-1) ti))
    (h : Q ((n : Int) - 1, -1, n - 1) s) : wpAny (model prog w) A (Builtin.Slice.sliceApplied (.ref sl) (pure (n : Int))) Q E s := by
  obtain ⟨os, hos, hcs, hds⟩ := id hs
  unfold Builtin.Slice.sliceApplied Builtin.Slice.sliceFields
  refine wpAny_bind (wpAny_bind (wpAny_field hos hds (x := .none) rfl (wpAny_bind (wpAny_field hos hds (x := .int 0 tj) rfl (wpAny_bind (wpAny_field hos hds (x := .int (-1) ti) rfl (wpAny_pure ?_)))))))
  refine wpAny_bind (slicePart_ (.int (-1) ti) ?_)
  show wpAny _ _ (if ((-1 : Int) == 0) = true then _ else _) _ _ s
  rw [if_neg (by decide)]
  refine wpAny_bind (slicePart_ .none (wpAny_bind (slicePart_ (.int 0 tj) (wpAny_bind (wpAny_pure ?_)))))
  have e : Builtin.Slice.slicePlaces ((n : Int) - 1) 0 (-1) = n - 1 := by
    unfold Builtin.Slice.slicePlaces
    rw [if_neg (by decide)]
    by_cases hn : (n : Int) - 1 > 0
    · rw [if_pos hn]
      have : -(-1 : Int) = 1 := by decide
      rw [this, Int.ediv_one]
      omega
    · rw [if_neg hn]
      omega
  have ea : Builtin.Slice.sliceAdjust none (some 0) (-1) (n : Int) = ((n : Int) - 1, 0) := by
    unfold Builtin.Slice.sliceAdjust
    simp
    omega
  show wpAny _ _ (match Builtin.Slice.sliceAdjust none (some 0) (-1) (n : Int) with
    | (lo, hi) => pure (lo, (-1 : Int), Builtin.Slice.slicePlaces lo hi (-1))) _ _ s
  rw [ea]
  show wpAny _ _ (pure ((n : Int) - 1, (-1 : Int), Builtin.Slice.slicePlaces ((n : Int) - 1) 0 (-1))) _ _ s
  rw [e]
  exact wpAny_pure h
theorem pick_back0 (xs : List Value) : ((List.range (xs.toArray.size - 1)).filterMap fun (k : Nat) => xs.toArray[(((xs.toArray.size : Nat) : Int) - 1 + (k : Int) * -1).toNat]?).toArray = (xs.drop 1).reverse.toArray := by
  apply congrArg List.toArray
  have key : ∀ m : Nat, m ≤ xs.length → ((List.range m).filterMap fun (k : Nat) => xs[xs.length - 1 - k]?) = xs.reverse.take m := by
    intro m
    induction m with
    | zero => intro _; simp
    | succ m ih =>
      intro hm
      rw [List.range_succ, List.filterMap_append, ih (by omega), List.take_add_one]
      congr 1
      have hlt : xs.length - 1 - m < xs.length := by omega
      rw [List.getElem?_reverse (by omega)]
      simp [List.getElem?_eq_getElem hlt]
  have k2 := key (xs.length - 1) (by omega)
  have e2 : xs.reverse.take (xs.length - 1) = (xs.drop 1).reverse := by rw [List.take_reverse]; by_cases h : xs.length = 0
                                                                        · have := List.length_eq_zero_iff.mp h; subst this; rfl
                                                                        · rw [show xs.length - (xs.length - 1) = 1 by omega]
  rw [← e2, ← k2, List.size_toArray]
  refine fm_congr _ fun k hk => ?_
  have hk' : k < xs.length - 1 := List.mem_range.mp hk
  have e : (((xs.length : Nat) : Int) - 1 + (k : Int) * -1).toNat = xs.length - 1 - k := by omega
  rw [e]
  simp
theorem getItem_tuple_back0 {t sl : Addr} {items : List Value} {ti tj : Tok} {Q : Value → Shared → Prop} (h1 : 1 ≤ items.length) (ht : IsTup s.heap t items.toArray) (hs : s.heap.IsSliceOf sl .none (.int 0 tj) (.int (-1) ti))
    (h : Q (.ref s.heap.objs.size) { s with heap := s.heap.push { cls := .type "tuple", data := .seq (items.drop 1).reverse.toArray } })
    (hsz : items.length ≤ sizeLine) : wpAny (model prog w) A (getItem (.ref t) (.ref sl)) Q E s := by
  have htake : sizeOk (.seq (items.drop 1).reverse.toArray) := by
    show (items.drop 1).reverse.toArray.size ≤ sizeLine
    rw [List.size_toArray, List.length_reverse, List.length_drop]
    omega
  obtain ⟨os, hos, hcs, hds⟩ := id hs
  have hTs : s.TypeIs (.ref sl) "slice" := ⟨os, hos, hcs⟩
  unfold getItem
  try with_reducible refine wpAny_holding ?_
  first | refine wpAny_bind (wpAny_pure ?_) | skip
  refine wpAny_bind (wpAny_sequenceKey ht.typeIs (by decide) ?_)
  refine wpAny_bind (wpAny_callSpecial?_slot (name := Str.ofString "__getitem__") ht.typeIs PyProof.Rows.slot_tuple_getitem
    (wpAny_call_entry PyProof.Rows.slot_tuple_getitem ht.typeIs entry_tuple_getitem ?_ (args_tuple_getitem _ _)))
  show wpAny _ _ (Builtin.Tuple.tupleItemsOf (.ref t) >>= _) _ _ s
  refine wpAny_bind (tupleItemsOf_ ht ?_)
  refine wpAny_bind (wpAny_typeOf hTs ?_)
  rw [if_pos (by decide)]
  refine wpAny_bind (sliceApplied_back0 (by rw [List.size_toArray]; exact h1) hs ?_)
  have hno : ¬ ((((items.toArray.size : Nat) : Int) - 1 == 0 && (-1 : Int) == 1 && items.toArray.size - 1 == items.toArray.size) = true) := by
    intro q
    rw [Bool.and_eq_true, Bool.and_eq_true] at q
    exact absurd q.1.2 (by decide)
  show wpAny _ _ (if (((items.toArray.size : Nat) : Int) - 1 == 0 && (-1 : Int) == 1 && items.toArray.size - 1 == items.toArray.size) = true then _ else _) _ _ s
  rw [if_neg hno, pick_back0]
  first
    | exact wpAny_bind (m := Builtin.Tuple.tupleExact _) (wpAny_newObj_type (wpAny_pure ⟨_, rfl, wpAny_pure h⟩) htake)
    | exact wpAny_bind (m := Builtin.Tuple.tupleExact _) (wpAny_newObj_type (wpAny_bind (wpAny_pure (wpAny_pure ⟨_, rfl, wpAny_pure h⟩))) htake)
    | exact wpAny_bind (wpAny_bind (m := Builtin.Tuple.tupleExact _) (wpAny_newObj_type (wpAny_pure (wpAny_pure ⟨_, rfl, wpAny_pure h⟩)) htake))
    | exact wpAny_bind (wpAny_bind (m := Builtin.Tuple.tupleExact _) (wpAny_newObj_type (wpAny_pure ⟨_, rfl, wpAny_pure h⟩) htake))
end
/-- t[:0:-1] of a tuple: all but the first, the last one first -/
def tRevT0 (K : PySem.W.Frag) (te : TE) : TE := fun σ H Q => te σ H fun x H1 => ∃ a xs, x = .ref a ∧ SqT K H1 a xs ∧ 1 ≤ xs.length ∧ ∀ p, H1 p = none → Q (.ref p) (upd H1 p (.tup (xs.drop 1).reverse))
section
variable {X : Cx}
theorem pe_revT0 {e : Expr} {te : TE} {k : Nat} {p0 p1 p2 p3 pos : Pos} (he : PE X e te) : PE X (.Subscript e (.Slice none (some (.Constant (.int 0) k p0)) (some (.UnaryOp .USub (.Constant (.int 1) k p1) p2)) p3) pos) (tRevT0 X.K te) := by
  refine ⟨fun pins s σ H Q I h => ?_⟩
  refine Subscript_ (thn (he.run pins s σ H _ I h) fun v s1 ⟨x, H1, I1, r1, q1⟩ => ?_)
  obtain ⟨a, xs, ex, hx, h1, q⟩ := q1
  subst ex
  cases r1
  have hup : PO X (some (.Constant (.int 0) k p0)) (tPart (tC (.int 0))) := po_some pe_int
  have hst : PO X (some (.UnaryOp .USub (.Constant (.int 1) k p1) p2)) (tPart (tUn (rU fun i => .int (-i)) (tC (.int 1)))) := po_some (pe_un un_neg pe_int)
  refine wpAny_Slice (thn (po_none.run pins s1 σ H1 (fun o H2 => o = none ∧ H2 = H1) I1 ⟨rfl, rfl⟩) fun vl s2 ⟨l, H2, I2, pl, el, e2⟩ => ?_)
  subst el e2
  refine thn (hup.run pins s2 σ H2 (fun o H3 => o = some 0 ∧ H3 = H2) I2 ⟨0, rfl, rfl, rfl⟩) fun vu s3 ⟨u, H3, I3, pu, eu, e3⟩ => ?_
  subst eu e3
  refine thn (hst.run pins s3 σ H3 (fun o H4 => o = some (-1) ∧ H4 = H3) I3 ⟨1, rfl, -1, rfl, rfl, rfl⟩) fun vs s4 ⟨o, H4, I4, ps, eo, e4⟩ => ?_
  subst eo e4
  cases pl
  obtain ⟨tj, rfl⟩ : ∃ ti, vu = Value.int 0 ti := by
    cases pu
    exact ⟨_, rfl⟩
  obtain ⟨ti, rfl⟩ : ∃ ti, vs = Value.int (-1) ti := by
    cases ps
    exact ⟨_, rfl⟩
  have I5 : Inv X pins σ H4 { s4 with heap := s4.heap.push { cls := .type "slice", data := .fields #[Value.none, Value.int 0 tj, Value.int (-1) ti] } } := I4.kept (t' := s4.toks) fun b ob q => Heap.get?_push_of_some _ q
  obtain ⟨its, r, ht, hz⟩ := I5.tuple hx
  have hlen := r.length
  show wpAny (model X.prog X.w) X.A (subscriptTail e (.Slice none (some (.Constant (.int 0) k p0)) (some (.UnaryOp .USub (.Constant (.int 1) k p1) p2)) p3) (.ref a) (.ref s4.heap.objs.size)) (EP X pins σ Q) X.xe { s4 with heap := s4.heap.push { cls := .type "slice", data := .fields #[Value.none, Value.int 0 tj, Value.int (-1) ti] } }
  refine tail_any (ops := [.ref a, .ref s4.heap.objs.size]) ht.typeIs (PyProof.Rows.slot_tuple_getitem.lookup) ?_ (by with_unfolding_all rfl)
  refine getItem_tuple_back0 (by omega) ht (Heap.IsSliceOf.new _ Value.none (Value.int 0 tj) (Value.int (-1) ti)) ?_ (by rw [← hlen]; exact hz)
  refine ⟨.ref _, _, I5.laid (t' := s4.toks) (o := .tup (xs.drop 1).reverse) (fun b ob q => Heap.get?_push_of_some _ q) (Nat.le_refl _) ?_, rfl, q _ (I5.hok.fresh (Nat.le_refl _))⟩
  exact ⟨by rw [List.length_reverse, List.length_drop]; omega, _, (r.drop 1).reverse, IsTup.new _ _⟩
end
end Hm

set_option Elab.async false
set_option linter.all false
set_option maxRecDepth 100000
set_option maxHeartbeats 1000000
/-! keys of dicts: whole numbers, texts, and tuples of keys at any depth -/
namespace Hm
open PySem PySem.Spec L2
inductive DK where
  | leaf (k : Key) : DK
  | tup (ks : List DK) : DK
mutual
def DK.beq : DK → DK → Bool
  | .leaf a, .leaf b => decide (a = b)
  | .tup xs, .tup ys => DK.beqs xs ys
  | .leaf _, .tup _ => false
  | .tup _, .leaf _ => false
def DK.beqs : List DK → List DK → Bool
  | [], [] => true
  | x :: xs, y :: ys => DK.beq x y && DK.beqs xs ys
  | [], _ :: _ => false
  | _ :: _, [] => false
end
mutual
theorem DK.beq_iff : ∀ a b, DK.beq a b = true ↔ a = b
  | .leaf a, .leaf b => by
    unfold DK.beq
    simp
  | .tup xs, .tup ys => by
    unfold DK.beq
    rw [DK.beqs_iff xs ys]
    simp
  | .leaf _, .tup _ => by simp [DK.beq]
  | .tup _, .leaf _ => by simp [DK.beq]
theorem DK.beqs_iff : ∀ xs ys, DK.beqs xs ys = true ↔ xs = ys
  | [], [] => by simp [DK.beqs]
  | x :: xs, y :: ys => by
    unfold DK.beqs
    rw [Bool.and_eq_true, DK.beq_iff x y, DK.beqs_iff xs ys]
    simp
  | [], _ :: _ => by simp [DK.beqs]
  | _ :: _, [] => by simp [DK.beqs]
end
instance : DecidableEq DK := fun a b => decidable_of_iff _ (DK.beq_iff a b)
mutual
def DK.pd : DK → PyData
  | .leaf (.inl i) => .int i
  | .leaf (.inr s) => .str s
  | .tup ks => .tuple (DK.pds ks)
def DK.pds : List DK → List PyData
  | [] => []
  | k :: ks => DK.pd k :: DK.pds ks
end
mutual
def DK.dep : DK → Nat
  | .leaf _ => 0
  | .tup ks => DK.deps ks + 1
def DK.deps : List DK → Nat
  | [] => 0
  | k :: ks => max (DK.dep k) (DK.deps ks)
end
mutual
theorem pd_dep : ∀ k : DK, (DK.pd k).depth = DK.dep k
  | .leaf (.inl _) => rfl
  | .leaf (.inr _) => rfl
  | .tup ks => by
    unfold DK.pd DK.dep
    show PyData.depthAll (DK.pds ks) + 1 = _
    rw [pds_dep ks]
theorem pds_dep : ∀ ks : List DK, PyData.depthAll (DK.pds ks) = DK.deps ks
  | [] => rfl
  | k :: ks => by
    unfold DK.pds DK.deps
    show max (DK.pd k).depth (PyData.depthAll (DK.pds ks)) = _
    rw [pd_dep k, pds_dep ks]
end
mutual
theorem pd_eqv : ∀ x y : DK, PyData.eqv (DK.pd x) (DK.pd y) = DK.beq x y
  | .leaf (.inl a), .leaf (.inl b) => by
    show (a == b) = decide ((Sum.inl a : Key) = Sum.inl b)
    by_cases h : a = b
    · subst h; simp
    · rw [decide_eq_false (by intro z; injection z with z; exact h z)]
      simpa using h
  | .leaf (.inr a), .leaf (.inr b) => by
    show (a == b) = decide ((Sum.inr a : Key) = Sum.inr b)
    by_cases h : a = b
    · subst h; simp
    · rw [decide_eq_false (by intro z; injection z with z; exact h z)]
      exact beq_eq_false_iff_ne.mpr h
  | .leaf (.inl a), .leaf (.inr b) => by
    show false = decide ((Sum.inl a : Key) = Sum.inr b)
    rw [decide_eq_false (by intro z; cases z)]
  | .leaf (.inr a), .leaf (.inl b) => by
    show false = decide ((Sum.inr a : Key) = Sum.inl b)
    rw [decide_eq_false (by intro z; cases z)]
  | .tup xs, .tup ys => by
    unfold DK.pd DK.beq
    exact pds_eqv xs ys
  | .leaf (.inl _), .tup _ => by
    unfold DK.pd DK.beq
    rfl
  | .leaf (.inr _), .tup _ => by
    unfold DK.pd DK.beq
    rfl
  | .tup _, .leaf (.inl _) => by
    unfold DK.pd DK.beq
    rfl
  | .tup _, .leaf (.inr _) => by
    unfold DK.pd DK.beq
    rfl
theorem pds_eqv : ∀ xs ys : List DK, PyData.eqvAll (DK.pds xs) (DK.pds ys) = DK.beqs xs ys
  | [], [] => rfl
  | x :: xs, y :: ys => by
    unfold DK.pds DK.beqs
    show (PyData.eqv (DK.pd x) (DK.pd y) && PyData.eqvAll (DK.pds xs) (DK.pds ys)) = _
    rw [pd_eqv x y, pds_eqv xs ys]
  | [], _ :: _ => rfl
  | _ :: _, [] => rfl
end
theorem beq_dec (x y : DK) : DK.beq x y = decide (x = y) := by
  by_cases h : x = y
  · rw [decide_eq_true h]
    exact (DK.beq_iff x y).mpr h
  · rw [decide_eq_false h]
    cases e : DK.beq x y with
    | false => rfl
    | true => exact absurd ((DK.beq_iff x y).mp e) h
section
variable {P : Program} {w : World}
mutual
inductive KIs (P : Program) (w : World) (h : Heap) : DK → Value → Prop
  | leaf {k : Key} {v : Value} : (mixKind P w).is k v = true → KIs P w h (.leaf k) v
  | tup {ks : List DK} {a : Addr} {o : Obj} {items : Array Value} {n : Nat} : h.get? a = some o → o.cls = .type "tuple" → o.data = .seq items n → KAll P w h ks items.toList → KIs P w h (.tup ks) (.ref a)
inductive KAll (P : Program) (w : World) (h : Heap) : List DK → List Value → Prop
  | nil : KAll P w h [] []
  | cons {k : DK} {v : Value} {ks : List DK} {vs : List Value} : KIs P w h k v → KAll P w h ks vs → KAll P w h (k :: ks) (v :: vs)
end
theorem leaf_ref {k : Key} {a : Addr} (h : (mixKind P w).is k (.ref a) = true) : False := by
  have := (mixKind P w).byValue _ _ h
  simp [carriedByValue] at this
mutual
theorem kis_inj {h : Heap} : ∀ {x y : DK} {v : Value}, KIs P w h x v → KIs P w h y v → x = y
  | .leaf a, .leaf b, v, .leaf ha, .leaf hb => by rw [(mixKind P w).inj _ _ _ ha hb]
  | .leaf a, .tup ks, _, .leaf ha, .tup _ _ _ _ => (leaf_ref ha).elim
  | .tup ks, .leaf b, _, .tup _ _ _ _, .leaf hb => (leaf_ref hb).elim
  | .tup xs, .tup ys, _, .tup h1 _ h3 h4, .tup g1 _ g3 g4 => by
    rw [h1] at g1
    cases g1
    rw [h3] at g3
    injection g3 with g3 _
    subst g3
    rw [kall_inj h4 g4]
theorem kall_inj {h : Heap} : ∀ {xs ys : List DK} {vs : List Value}, KAll P w h xs vs → KAll P w h ys vs → xs = ys
  | [], [], _, _, _ => rfl
  | x :: xs, y :: ys, _, .cons h1 h2, .cons g1 g2 => by rw [kis_inj h1 g1, kall_inj h2 g2]
  | [], _ :: _, [], _, g => nomatch g
  | [], _ :: _, _ :: _, h, _ => nomatch h
  | _ :: _, [], [], h, _ => nomatch h
  | _ :: _, [], _ :: _, _, g => nomatch g
end
mutual
theorem kis_reads {h : Heap} : ∀ {x : DK} {v : Value}, KIs P w h x v → ∃ as, Reads h v (DK.pd x) as
  | .leaf (.inl i), v, .leaf hv => by
    rcases keyIs_shape (show keyIs (Sum.inl i) v = true from hv) with ⟨j, t, e, rfl⟩ | ⟨y, t, e, rfl⟩
    · injection e with e
      subst e
      exact ⟨_, Reads.int _ _⟩
    · exact nomatch e
  | .leaf (.inr z), v, .leaf hv => by
    rcases keyIs_shape (show keyIs (Sum.inr z) v = true from hv) with ⟨j, t, e, rfl⟩ | ⟨y, t, e, rfl⟩
    · exact nomatch e
    · injection e with e
      subst e
      exact ⟨_, Reads.str _ _⟩
  | .tup ks, _, .tup h1 h2 h3 h4 => by
    obtain ⟨as, r⟩ := kall_reads h4
    unfold DK.pd
    exact ⟨as, Reads.tuple h1 h2 h3 r⟩
theorem kall_reads {h : Heap} : ∀ {xs : List DK} {vs : List Value}, KAll P w h xs vs → ∃ as, ReadsAll h vs (DK.pds xs) as
  | [], _, .nil => ⟨_, ReadsAll.nil⟩
  | x :: xs, _, .cons h1 h2 => by
    obtain ⟨as, r⟩ := kis_reads h1
    obtain ⟨bs, r2⟩ := kall_reads h2
    exact ⟨_, ReadsAll.cons r r2⟩
end
mutual
theorem kis_keeps {h h' : Heap} {d : Addr} {o : Obj} {es ep} (ho : h.get? d = some o) (hd : o.data = .dict es ep) (hs : Heap.SameBut d h h') : ∀ {x : DK} {v : Value}, KIs P w h x v → KIs P w h' x v
  | .leaf _, _, .leaf hv => .leaf hv
  | .tup ks, _, .tup (a := a) h1 h2 h3 h4 => by
    refine .tup ?_ h2 h3 (kall_keeps ho hd hs h4)
    have hne : a ≠ d := by
      rintro rfl
      rw [h1] at ho
      cases ho
      rw [h3] at hd
      exact nomatch hd
    exact (hs.2 a hne).trans h1
theorem kall_keeps {h h' : Heap} {d : Addr} {o : Obj} {es ep} (ho : h.get? d = some o) (hd : o.data = .dict es ep) (hs : Heap.SameBut d h h') : ∀ {xs : List DK} {vs : List Value}, KAll P w h xs vs → KAll P w h' xs vs
  | [], _, .nil => .nil
  | x :: xs, _, .cons h1 h2 => .cons (kis_keeps ho hd hs h1) (kall_keeps ho hd hs h2)
end
mutual
def kh (P : Program) (w : World) : DK → Int
  | .leaf k => (mixKind P w).hash k
  | .tup ks => reduceHash (Builtin.Tuple.tupleHashOf (khs P w ks))
def khs (P : Program) (w : World) : List DK → List Int
  | [] => []
  | k :: ks => kh P w k :: khs P w ks
end
mutual
def kdr : DK → Nat
  | .leaf _ => 1
  | .tup ks => kdrs ks + 1
def kdrs : List DK → Nat
  | [] => 0
  | k :: ks => kdr k + kdrs ks
end
theorem khs_app (a b : List DK) : khs P w (a ++ b) = khs P w a ++ khs P w b := by
  induction a with
  | nil => rfl
  | cons k a ih =>
    show kh P w k :: khs P w (a ++ b) = kh P w k :: (khs P w a ++ khs P w b)
    rw [ih]
theorem kdrs_app (a b : List DK) : kdrs (a ++ b) = kdrs a + kdrs b := by
  induction a with
  | nil => show kdrs b = 0 + kdrs b; omega
  | cons k a ih =>
    show kdr k + kdrs (a ++ b) = (kdr k + kdrs a) + kdrs b
    rw [ih]
    omega
theorem kis_hash : ∀ (n : Nat) {A : Around} {E : Value → Shared → Prop} {s : Shared} {k : DK} {v : Value} {Q : Int → Shared → Prop}, k.dep ≤ n → A.units + n < cLine → KIs P w s.heap k v → Q (kh P w k) { s with toks := s.toks + kdr k } → wpAny (model P w) A (PySem.pyHash v) Q E s := by
  intro n
  induction n with
  | zero =>
    intro A E s k v Q hn hu hk h
    cases hk with
    | leaf hv => exact (mixKind P w).pyHash hv h
    | tup _ _ _ _ =>
      unfold DK.dep at hn
      omega
  | succ n ih =>
    intro A E s k v Q hn hu hk h
    cases hk with
    | leaf hv => exact (mixKind P w).pyHash hv h
    | @tup ks a o items m ho hc hd hi =>
      have hT : s.TypeIs (.ref a) "tuple" := ⟨o, ho, hc⟩
      unfold DK.dep at hn
      unfold kh kdr at h
      unfold pyHash
      first | unfold pyHashByItsType | skip
      first | refine wpAny_bind (wpAny_cRoomFor_or (.inr (by omega)) ?_) | skip
      refine wpAny_bind (wpAny_specialOf hT F.slot_tuple_hash.lookup ?_)
      show wpAny _ _ (if (some (Value.builtin "tuple.__hash__") == some Value.none) = true then _ else _) Q E s
      rw [if_neg (by rw [beq_builtin_none]; exact Bool.false_ne_true)]
      refine wpAny_bind (wpAny_specialOf hT F.slot_tuple_hash.lookup ?_)
      show wpAny _ _ (callSpecialIfBoundUnlessNone? (.ref a) "__hash__" _ >>= _) Q E s
      refine wpAny_bind (wpAny_callSpecialIfBoundUnlessNone?_slot hT F.slot_tuple_hash (wpAny_call_entry F.slot_tuple_hash hT F.entry_tuple_hash ?_ (F.args_tuple_hash_1 _)))
      show wpAny _ _ (Builtin.Tuple.tupleItemsOf (.ref a) >>= _) _ _ s
      refine wpAny_bind (wpAny_tupleItemsOf ho hd ?_)
      refine wpAny_bind ?_
      rw [← Array.forIn_toList]
      refine wpAny_forIn_list _
        (fun rest (b : Array Int) s' => ∃ done left, ks = done ++ left ∧ KAll P w s.heap left rest ∧ b.toList = khs P w done ∧ s' = { s with toks := s.toks + kdrs done })
        _ ?_ ?_ _ _ ⟨[], ks, rfl, hi, rfl, rfl⟩
      · rintro x rest b s' ⟨done, left, rfl, hl, hb, rfl⟩
        cases hl with
        | @cons k _ ks' _ h1 hl' =>
          have hdk : k.dep ≤ n := by
            have : ∀ xs : List DK, DK.deps (xs ++ k :: ks') ≥ k.dep := fun xs => by
              induction xs with
              | nil => show max _ _ ≥ _; omega
              | cons y xs ih2 =>
                show max _ (DK.deps (xs ++ k :: ks')) ≥ _
                omega
            have := this done
            omega
          refine wpAny_bind (ih (A := A.in1) hdk (by show A.units + 1 + n < cLine; omega) h1 ?_)
          have fin : ∃ done' left', done ++ k :: ks' = done' ++ left' ∧ KAll P w s.heap left' rest ∧ (b.push (kh P w k)).toList = khs P w done' ∧ ({ s with toks := s.toks + kdrs done + kdr k } : Shared) = { s with toks := s.toks + kdrs done' } :=
            ⟨done ++ [k], ks', by simp, hl', by rw [khs_app, Array.toList_push, hb]; rfl, by rw [kdrs_app]; show _ = ({ s with toks := s.toks + (kdrs done + (kdr k + 0)) } : Shared); rw [Nat.add_zero, Nat.add_assoc]⟩
          first
            | exact wpAny_pure fin
            | exact wpAny_bind (wpAny_pure (wpAny_pure fin))
      · rintro b s' ⟨done, left, rfl, hl, hb, rfl⟩
        cases hl
        rw [List.append_nil] at h
        show wpAny _ _ (retInt (Builtin.Tuple.tupleHashOf b.toList)) _ _ _
        rw [hb]
        refine wpAny_ret_mkInt ?_
        show wpAny _ _ (if (decide (-(2 : Int) ^ 63 ≤ Builtin.Tuple.tupleHashOf (khs P w done)) && decide (Builtin.Tuple.tupleHashOf (khs P w done) < 2 ^ 63)) = true then _ else _) Q E _
        unfold reduceHash at h
        by_cases hr : (decide (-(2 : Int) ^ 63 ≤ Builtin.Tuple.tupleHashOf (khs P w done)) && decide (Builtin.Tuple.tupleHashOf (khs P w done) < 2 ^ 63)) = true
        · rw [if_pos hr]
          rw [if_pos hr] at h
          exact wpAny_pure (by simpa [Nat.add_assoc] using h)
        · rw [if_neg hr]
          rw [if_neg hr] at h
          exact wpAny_bind (wpAny_rule (wpAny_pure (by simpa [Nat.add_assoc] using h)))
theorem dep_mid {k : DK} {ks' : List DK} : ∀ xs : List DK, k.dep ≤ DK.deps (xs ++ k :: ks')
  | [] => by show _ ≤ max _ _; omega
  | y :: xs => by
    have := dep_mid (k := k) (ks' := ks') xs
    show _ ≤ max _ (DK.deps (xs ++ k :: ks'))
    omega
theorem kis_quiet : ∀ (n : Nat) {A : Around} {E : Value → Shared → Prop} {s : Shared} {k : DK} {v : Value} {Q : Bool → Shared → Prop}, k.dep ≤ n → KIs P w s.heap k v → Q true s → wpAny (model P w) A (eqIsQuiet n v) Q E s := by
  intro n
  induction n with
  | zero =>
    intro A E s k v Q hn hk h
    cases hk with
    | leaf hv =>
      rw [eqIsQuiet_byValue _ ((mixKind P w).byValue _ _ hv)]
      exact wpAny_pure h
    | tup _ _ _ _ =>
      unfold DK.dep at hn
      omega
  | succ n ih =>
    intro A E s k v Q hn hk h
    cases hk with
    | leaf hv =>
      rw [eqIsQuiet_byValue _ ((mixKind P w).byValue _ _ hv)]
      exact wpAny_pure h
    | @tup ks a o items m ho hc hd hi =>
      have hT : s.TypeIs (.ref a) "tuple" := ⟨o, ho, hc⟩
      unfold DK.dep at hn
      unfold eqIsQuiet
      refine wpAny_bind (wpAny_specialOf hT F.slot_tuple_eq.lookup ?_)
      show wpAny _ _ (isInstance (.ref a) (.type "tuple") >>= _) _ _ s
      refine wpAny_bind (wpAny_isInstance hT isSubtype_tuple_tuple ?_)
      simp only [Bool.not_true, Bool.false_eq_true, if_false]
      refine wpAny_bind (wpAny_seqItems ho hd ?_)
      refine wpAny_bind ?_
      show wpAny _ _ (forIn items _ _) _ _ s
      rw [← Array.forIn_toList]
      refine wpAny_forIn_list _ (fun rest r s' => r.1 = none ∧ s' = s ∧ ∃ done left, ks = done ++ left ∧ KAll P w s.heap left rest) _ ?_ ?_ _ _ ⟨rfl, rfl, [], ks, rfl, hi⟩
      · rintro v rest r s' ⟨hr, rfl, done, left, rfl, hl⟩
        cases hl with
        | @cons k _ ks' _ h1 hl' =>
          have hdk := dep_mid (k := k) (ks' := ks') done
          refine wpAny_bind (ih (show k.dep ≤ n by omega) h1 ?_)
          simp only [Bool.not_true, Bool.false_eq_true, if_false]
          exact wpAny_pure ⟨rfl, rfl, done ++ [k], ks', by simp, hl'⟩
      · rintro ⟨r1, r2⟩ s' ⟨hr, rfl, _⟩
        simp only at hr
        subst hr
        exact wpAny_pure h
/-- the keys a dict may have: tuples in tuples, six deep at most -/
def KOk (k : DK) : Prop := k.dep ≤ 6 ∧ (DK.pd k).canLay0 = true
def nestKind (P : Program) (w : World) : HeapKind P w DK where
  is := fun h k a => KIs P w h k (.ref a) ∧ KOk k
  hash := kh P w
  draws := kdr
  room := fun A => A.units + 8 < cLine
  inj := fun hx hy => kis_inj hx.1 hy.1
  keeps := fun x ho hd hs => ⟨kis_keeps ho hd hs x.1, x.2⟩
  pyHash := fun hu hk h => kis_hash 6 hk.2.1 (by omega) hk.1 h
  eqBool := fun {A E s x y a b Q} hu hx hy h => by
    obtain ⟨as, r1⟩ := kis_reads hx.1
    obtain ⟨bs, r2⟩ := kis_reads hy.1
    have hd := hx.2.1
    have hp := pd_dep x
    have e := SeqAt.eqAt_reads (DK.pd x) (DK.pd y) A s _ _ as bs r1 r2 hx.2.2 hy.2.2 (by omega)
    rw [pd_eqv, beq_dec] at e
    exact e _ _ _ _ h
  quiet := fun hk h => kis_quiet 8 (Nat.le_trans hk.2.1 (by decide)) hk.1 h
end
end Hm

set_option Elab.async false
set_option linter.all false
set_option maxRecDepth 100000
set_option maxHeartbeats 1000000
/-! dicts whose keys are tuples in tuples: the layer's rules -/
namespace Hm
open PySem PySem.Spec PyProof.Rows L2
mutual
/-- a key as it lies in the heap -/
def KRep (K : PySem.W.Frag) (H : Hp) : DK → V → Prop
  | .leaf (.inl i), v => v = .int i
  | .leaf (.inr s), v => v = .str s
  | .tup ks, v => ∃ a vs, v = .ref a ∧ SqT K H a vs ∧ KReps K H ks vs
def KReps (K : PySem.W.Frag) (H : Hp) : List DK → List V → Prop
  | [], vs => vs = []
  | k :: ks, vs => ∃ v ws, vs = v :: ws ∧ KRep K H k v ∧ KReps K H ks ws
end
section
variable {X : Cx} {pins : List (Addr × Obj)} {σ : L2.St} {H : Hp} {s : Shared}
mutual
theorem kis_of (I : Inv X pins σ H s) : ∀ {k : DK} {v : V} {u : Value}, KRep X.K H k v → RelV v u → KIs X.prog X.w s.heap k u
  | .leaf (.inl i), v, u, h, r => by
    unfold KRep at h
    subst h
    exact .leaf (kV_is (k := Sum.inl i) r)
  | .leaf (.inr z), v, u, h, r => by
    unfold KRep at h
    subst h
    exact .leaf (kV_is (k := Sum.inr z) r)
  | .tup ks, v, u, h, r => by
    unfold KRep at h
    obtain ⟨a, vs, rfl, hT, hk⟩ := h
    obtain rfl : u = Value.ref a := r
    obtain ⟨its, rv, ⟨o, ho, hc, n, hd⟩, _⟩ := I.tuple hT
    exact .tup ho hc hd (by rw [List.toList_toArray]; exact kall_of I hk rv)
theorem kall_of (I : Inv X pins σ H s) : ∀ {ks : List DK} {vs : List V} {us : List Value}, KReps X.K H ks vs → Vals vs us → KAll X.prog X.w s.heap ks us
  | [], vs, us, h, r => by
    unfold KReps at h
    subst h
    cases r
    exact .nil
  | k :: ks, vs, us, h, r => by
    unfold KReps at h
    obtain ⟨v, ws, rfl, h1, h2⟩ := h
    cases r with
    | cons r1 r2 => exact .cons (kis_of I h1 r1) (kall_of I h2 r2)
end
end
abbrev NKV := DK × Addr × V
def NT : List NKV → List (DK × Addr × Value) → Prop := PySem.Paired (fun (p : NKV) (q : DK × Addr × Value) => p.1 = q.1 ∧ p.2.1 = q.2.1 ∧ RelV p.2.2 q.2.2)
/-- the dict at d, its entries told: key, the key's tuple, value -/
def DN (P : Program) (w : World) (d : Addr) (kvs : List NKV) : HO := .ext fun h => kvs.length ≤ sizeLine ∧ (d == sysModules) = false ∧ ∃ xs, NT kvs xs ∧
  ∃ o es ep, h.get? d = some o ∧ o.ExactDict ∧ o.data = .dict es ep ∧ es.toList = xs.map (entryOfKey (nestKind P w)) ∧ (xs.map (·.1)).Nodup
def valN (kvs : List NKV) (k : DK) : Option V := (kvs.find? fun e => decide (e.1 = k)).map (·.2.2)
def putN (kvs : List NKV) (k : DK) (a : Addr) (v : V) : List NKV := if (valN kvs k).isSome = true then kvs.map (fun e => if e.1 = k then (e.1, e.2.1, v) else e) else kvs ++ [(k, a, v)]
def KeysOk (K : PySem.W.Frag) (H : Hp) (kvs : List NKV) : Prop := ∀ e ∈ kvs, KRep K H e.1 (.ref e.2.1) ∧ KOk e.1
theorem NT.val {kvs : List NKV} {xs : List (DK × Addr × Value)} (r : NT kvs xs) (k : DK) : RelO (valN kvs k) ((atKey xs k).map (·.2)) := by
  unfold NT at r
  induction r with
  | nil => exact True.intro
  | @cons p q ps qs h t ih =>
    obtain ⟨h1, _, h2⟩ := h
    by_cases e : p.1 = k
    · have e' : q.1 = k := h1.symm.trans e
      have b : atKey (q :: qs) k = some q.2 := by simp [atKey, List.find?_cons, e']
      have c : valN (p :: ps) k = some p.2.2 := by simp [valN, List.find?_cons, e]
      rw [b, c]; exact h2
    · have e' : ¬ q.1 = k := fun z => e (h1.trans z)
      have b : atKey (q :: qs) k = atKey qs k := by simp [atKey, List.find?_cons, e']
      have c : valN (p :: ps) k = valN ps k := by simp [valN, List.find?_cons, e]
      rw [b, c]; exact ih
theorem NT.some_eq {kvs : List NKV} {xs : List (DK × Addr × Value)} (r : NT kvs xs) (k : DK) : (valN kvs k).isSome = (atKey xs k).isSome := by
  have q := (r.val k).isSome_eq
  rw [Option.isSome_map] at q
  exact q
theorem NT.put {kvs : List NKV} {xs : List (DK × Addr × Value)} (r : NT kvs xs) (k : DK) {a : Addr} {v : V} {u : Value} (rv : RelV v u) : NT (putN kvs k a v) (storedH xs k a u) := by
  unfold putN storedH
  rw [r.some_eq k]
  by_cases q : (atKey xs k).isSome = true
  · rw [if_pos q, if_pos q]
    clear q
    unfold NT at r ⊢
    induction r with
    | nil => exact .nil
    | @cons p q ps qs h t ih =>
      rw [List.map_cons, List.map_cons]
      refine .cons ?_ ih
      obtain ⟨h1, h2, h3⟩ := h
      unfold putAt
      by_cases e : p.1 = k
      · rw [if_pos e, if_pos (h1.symm.trans e)]; exact ⟨h1, h2, rv⟩
      · rw [if_neg e, if_neg (fun z => e (h1.trans z))]; exact ⟨h1, h2, h3⟩
  · rw [if_neg q, if_neg q]
    exact Paired.snoc r ⟨rfl, rfl, rv⟩
theorem putN_len (kvs : List NKV) (k : DK) (a : Addr) (v : V) : (putN kvs k a v).length ≤ kvs.length + 1 := by
  unfold putN
  split
  · rw [List.length_map]; omega
  · rw [List.length_append]; exact Nat.le_refl _
section
variable {X : Cx} {pins : List (Addr × Obj)} {σ : L2.St} {H : Hp} {s : Shared} {A : Around} {E : Value → Shared → Prop} {d a : Addr} {kvs : List NKV} {k : DK}
theorem dn_of (I : Inv X pins σ H s) (e : H d = some (DN X.prog X.w d kvs)) (ok : KeysOk X.K H kvs) : kvs.length ≤ sizeLine ∧ (d == sysModules) = false ∧ ∃ xs, NT kvs xs ∧ s.heap.DictOfH (nestKind X.prog X.w) d xs := by
  obtain ⟨⟨z, y, xs, r, o, es, ep, h1, h2, h3, h4, h5⟩, _, _⟩ := I.hok d _ e
  refine ⟨z, y, xs, r, o, es, ep, h1, h2, h3, h4, fun x hx => ?_, h5⟩
  have all : ∀ {l : List NKV} {m : List (DK × Addr × Value)}, NT l m → (∀ e ∈ l, KRep X.K H e.1 (.ref e.2.1) ∧ KOk e.1) → ∀ x ∈ m, (nestKind X.prog X.w).is s.heap x.1 x.2.1 := by
    intro l m q
    unfold NT at q
    induction q with
    | nil => intro _ x hx; exact nomatch hx
    | @cons p q ps qs hq t ih =>
      intro hl x hx
      rcases List.mem_cons.mp hx with e | hx
      · subst e
        have := hl p List.mem_cons_self
        rw [hq.1, hq.2.1] at this
        exact ⟨kis_of I this.1 rfl, this.2⟩
      · exact ih (fun e he => hl e (List.mem_cons_of_mem _ he)) x hx
  exact all r ok x hx
theorem dn_in {Q : Value → Shared → Prop} (hu : A.units + 16 < cLine) (I : Inv X pins σ H s) (e : H d = some (DN X.prog X.w d kvs)) (ok : KeysOk X.K H kvs) (hk : KRep X.K H k (.ref a)) (ho : KOk k) (h : ∀ s', Inv X pins σ H s' → Q (.bool (valN kvs k).isSome) s') :
    wpAny (model X.prog X.w) A (compareOp .In (.ref a) (.ref d)) Q E s := by
  obtain ⟨z, hd, xs, rel, dd⟩ := dn_of I e ok
  refine wpAny_in_heap (knd := nestKind X.prog X.w) (show A.units + 1 + 8 < cLine by omega) ⟨kis_of I hk rfl, ho⟩ hd dd ?_
  rw [← rel.some_eq k]
  exact h _ (I.tok _)
theorem dn_notIn {Q : Value → Shared → Prop} (hu : A.units + 16 < cLine) (I : Inv X pins σ H s) (e : H d = some (DN X.prog X.w d kvs)) (ok : KeysOk X.K H kvs) (hk : KRep X.K H k (.ref a)) (ho : KOk k) (h : ∀ s', Inv X pins σ H s' → Q (.bool (!(valN kvs k).isSome)) s') :
    wpAny (model X.prog X.w) A (compareOp .NotIn (.ref a) (.ref d)) Q E s := by
  obtain ⟨z, hd, xs, rel, dd⟩ := dn_of I e ok
  refine wpAny_notIn_heap (knd := nestKind X.prog X.w) (show A.units + 1 + 8 < cLine by omega) ⟨kis_of I hk rfl, ho⟩ hd dd ?_
  rw [← rel.some_eq k]
  exact h _ (I.tok _)
theorem dn_get {v : V} {Q : Value → Shared → Prop} (hu : A.units + 16 < cLine) (I : Inv X pins σ H s) (e : H d = some (DN X.prog X.w d kvs)) (ok : KeysOk X.K H kvs) (hk : KRep X.K H k (.ref a)) (ho : KOk k) (hv : valN kvs k = some v) (h : ∀ w' s', Inv X pins σ H s' → RelV v w' → Q w' s') :
    wpAny (model X.prog X.w) A (getItem (.ref d) (.ref a)) Q E s := by
  obtain ⟨z, hd, xs, rel, dd⟩ := dn_of I e ok
  obtain ⟨w', hw, rw'⟩ := RelO.some_of (v := v) (o := (atKey xs k).map (·.2)) (by rw [← hv]; exact rel.val k)
  obtain ⟨p, hp, hp2⟩ := Option.map_eq_some_iff.mp hw
  refine wpAny_getItem_heap (knd := nestKind X.prog X.w) (show A.units + 1 + 8 < cLine by omega) ⟨kis_of I hk rfl, ho⟩ dd hp ?_
  rw [hp2]
  exact h w' _ (I.tok _) rw'
theorem dn_set {v : V} {r : Value} {Q : Unit → Shared → Prop} (hu : A.units + 16 < cLine) (I : Inv X pins σ H s) (e : H d = some (DN X.prog X.w d kvs)) (ok : KeysOk X.K H kvs) (hk : KRep X.K H k (.ref a)) (ho : KOk k) (hl : kvs.length < sizeLine) (rv : RelV v r)
    (h : ∀ s', Inv X pins σ (upd H d (DN X.prog X.w d (putN kvs k a v))) s' → Q () s') : wpAny (model X.prog X.w) A (setItem (.ref d) (.ref a) r) Q E s := by
  obtain ⟨z, hd, xs, rel, dd⟩ := dn_of I e ok
  have hz : xs.length ≤ sizeLine := by rw [← Paired.length rel]; exact z
  refine wpAny_setItem_heap (knd := nestKind X.prog X.w) (hsz := hz) (show A.units + 1 + 8 < cLine by omega) ⟨kis_of I hk rfl, ho⟩ dd fun h' dd' hs => h _ ?_
  obtain ⟨q, es, ep, hq, h2, h3, h4, _, h5⟩ := dd'
  have hl2 := putN_len kvs k a v
  refine d_write I (by rw [e]; exact True.intro) hs ⟨q, hq⟩ ⟨⟨by omega, hd, _, rel.put k rv, q, es, ep, hq, h2, h3, h4, h5⟩, ⟨q, hq⟩, fun h1 h2 ⟨g1, g2, ys, g3, o, es, ep, g4, g5⟩ st => ⟨g1, g2, ys, g3, o, es, ep, st _ g4, g5⟩⟩
end
/-! ### the rules, by expression -/
def tNNew (P : Program) (w : World) : TE := fun _ H Q => ∀ p, H p = none → Q (.ref p) (upd H p (DN P w p []))
/-- what is asked of a dict d and a key's tuple -/
def NAsk (P : Program) (w : World) (K : PySem.W.Frag) (H : Hp) (x y : V) (d a : Addr) (kvs : List NKV) (k : DK) : Prop := x = .ref d ∧ y = .ref a ∧ H d = some (DN P w d kvs) ∧ KeysOk K H kvs ∧ KRep K H k (.ref a) ∧ KOk k
def tNIn (P : Program) (w : World) (K : PySem.W.Frag) (ty td : TE) : TE := fun σ H Q => ty σ H fun y H1 => td σ H1 fun x H2 => ∃ d a kvs k, NAsk P w K H2 x y d a kvs k ∧ Q (.bl (valN kvs k).isSome) H2
def tNNotIn (P : Program) (w : World) (K : PySem.W.Frag) (ty td : TE) : TE := fun σ H Q => ty σ H fun y H1 => td σ H1 fun x H2 => ∃ d a kvs k, NAsk P w K H2 x y d a kvs k ∧ Q (.bl (!(valN kvs k).isSome)) H2
def tNGet (P : Program) (w : World) (K : PySem.W.Frag) (td ty : TE) : TE := fun σ H Q => td σ H fun x H1 => ty σ H1 fun y H2 => ∃ d a kvs k v, NAsk P w K H2 x y d a kvs k ∧ valN kvs k = some v ∧ Q v H2
def sNPut (P : Program) (w : World) (K : PySem.W.Frag) (td ty tv : TE) : TS := fun D σ H => tv σ H fun v H1 => td σ H1 fun x H2 => ty σ H2 fun y H3 => ∃ d a kvs k, NAsk P w K H3 x y d a kvs k ∧ kvs.length < sizeLine ∧ D.nx σ (upd H3 d (DN P w d (putN kvs k a v)))
section
variable {X : Cx} {o i value : Expr} {td ty tv : TE} {pos pos' : Pos}
theorem dn_empty {P : Program} {w : World} {H : Hp} (h : Heap) (hb : sysModules < h.objs.size) : ObjOk P w H (h.push { cls := .type "dict", data := .dict #[] }) h.objs.size (DN P w h.objs.size []) :=
  ⟨⟨Nat.zero_le _, beq_eq_false_iff_ne.mpr (Ne.symm (Nat.ne_of_lt hb)), [], .nil, _, #[], 0, Heap.get?_push_size _ rfl, ⟨rfl, rfl, rfl⟩, rfl, rfl, List.nodup_nil⟩, ⟨_, Heap.get?_push_size _ rfl⟩,
    fun h1 h2 ⟨g1, g2, ys, g3, o, es, ep, g4, g5⟩ st => ⟨g1, g2, ys, g3, o, es, ep, st _ g4, g5⟩⟩
theorem pe_nnew : PE X (.Dict [] [] pos) (tNNew X.prog X.w) := ⟨fun pins s σ H Q I h =>
  wpAny_Dict_empty ⟨.ref s.heap.objs.size, _, I.laid (a := s.heap.objs.size) (o := DN X.prog X.w s.heap.objs.size []) (t' := s.toks) (fun _ _ q => Heap.get?_push_of_some _ q) (Nat.le_refl _) (dn_empty s.heap I.big), rfl, h _ (I.hok.fresh (Nat.le_refl _))⟩⟩
theorem pc_nin (hu : X.A.units + 16 < cLine) (hi : PE X i ty) (ho : PE X o td) : PC X .In i o (tNIn X.prog X.w X.K ty td) := by
  refine ⟨fun pins s σ H Q I h => ?_⟩
  refine thn (hi.run pins s σ H _ I h) fun iv s1 ⟨y, H1, I1, ry, q1⟩ => thn (ho.run pins s1 σ H1 _ I1 q1) fun u s2 ⟨x, H2, I2, rx, d, a, kvs, k, ⟨ex, ey, e, ok, hk, hko⟩, q2⟩ => ?_
  subst ex ey
  obtain rfl : u = Value.ref d := rx
  obtain rfl : iv = Value.ref a := ry
  exact dn_in hu I2 e ok hk hko fun s3 I3 => ⟨.bl (valN kvs k).isSome, H2, I3, rfl, q2⟩
theorem pc_nnotin (hu : X.A.units + 16 < cLine) (hi : PE X i ty) (ho : PE X o td) : PC X .NotIn i o (tNNotIn X.prog X.w X.K ty td) := by
  refine ⟨fun pins s σ H Q I h => ?_⟩
  refine thn (hi.run pins s σ H _ I h) fun iv s1 ⟨y, H1, I1, ry, q1⟩ => thn (ho.run pins s1 σ H1 _ I1 q1) fun u s2 ⟨x, H2, I2, rx, d, a, kvs, k, ⟨ex, ey, e, ok, hk, hko⟩, q2⟩ => ?_
  subst ex ey
  obtain rfl : u = Value.ref d := rx
  obtain rfl : iv = Value.ref a := ry
  exact dn_notIn hu I2 e ok hk hko fun s3 I3 => ⟨.bl (!(valN kvs k).isSome), H2, I3, rfl, q2⟩
theorem pe_nget (hu : X.A.units + 16 < cLine) (ho : PE X o td) (hi : PE X i ty) (hs : NoSl i) : PE X (.Subscript o i pos) (tNGet X.prog X.w X.K td ty) := by
  refine ⟨fun pins s σ H Q I h => ?_⟩
  refine subD_of PySem.F.slot_dict_getitem.lookup hs (thn (ho.run pins s σ H _ I h) fun u s1 ⟨x, H1, I1, rx, q1⟩ => thn (hi.run pins s1 σ H1 _ I1 q1) fun iv s2 ⟨y, H2, I2, ry, d, a, kvs, k, v, ⟨ex, ey, e, ok, hk, hko⟩, hv, q2⟩ => ?_)
  subst ex ey
  obtain rfl : u = Value.ref d := rx
  obtain rfl : iv = Value.ref a := ry
  obtain ⟨_, _, _, _, dd⟩ := dn_of I2 e ok
  exact ⟨dd.typeIs, dn_get hu I2 e ok hk hko hv fun w' s3 I3 rw' => ⟨v, H2, I3, rw', q2⟩⟩
theorem ps_nput (hu : X.A.units + 16 < cLine) (ho : PE X o td) (hi : PE X i ty) (hv : PE X value tv) (hs : swapsWith value (some (.Subscript o i pos')) pos.line X.env = pure false) :
    PS X (.Assign [.Subscript o i pos'] value pos) (sNPut X.prog X.w X.K td ty tv) := by
  refine ⟨fun pins s σ H D I h => ?_⟩
  refine wpAny_Assign_Subscript (thn (hv.run pins s σ H _ I h) fun r s1 ⟨v, H1, I1, rv, q1⟩ => thn (ho.run pins s1 σ H1 _ I1 q1) fun u s2 ⟨x, H2, I2, rx, q2⟩ => thn (hi.run pins s2 σ H2 _ I2 q2) fun iv s3 ⟨y, H3, I3, ry, d, a, kvs, k, ⟨ex, ey, e, ok, hk, hko⟩, hl, q3⟩ => ?_) hs
  subst ex ey
  obtain rfl : u = Value.ref d := rx
  obtain rfl : iv = Value.ref a := ry
  exact dn_set hu I3 e ok hk hko hl rv fun s4 I4 => ⟨σ, _, I4, q3⟩
end
end Hm

set_option Elab.async false
set_option linter.all false
set_option maxRecDepth 100000
set_option maxHeartbeats 4000000
namespace Hm
open PySem PySem.Spec PyProof.Rows L2 HT
/-- a def of the text as it stands behind the top -/
structure Df (K : PySem.W.Frag) (mg : Str → Option Value) (x : Str) (st : Stmt) (ps : List Str) (ds : List Value) (f : Addr) (fd : FuncData) : Prop where
  F : Fun K x x st f fd
  b : Binds K fd ps ds
  m : mg x = some (.ref f)
theorem cl {X : Cx} {x : Str} {f : Addr} {fd : FuncData} {ps : List Str} {sp : Sp} {j k : Nat} {st : Stmt} {e : Expr} {es : List Expr} {t : TA} {p pos : Pos} (G : FnOk X.prog X.w X.K X.mg X.base CX0 k f fd ps sp) (D : Df X.K X.mg x st ps [] f fd) (hr : Room j X.A) (ha : PA X (e :: es) t)
    (hj : k ≤ j := by first | decide | omega) (hg : Gl X x := by rfl) (hd : (x == ("__debug__" : Str)) = false := by decide) (hs : starEach (e :: es) X.env = (false, eval e X.env) :: starEach es X.env := by rfl) (hst : (backTo pos (starEach es X.env)).any (·.1) = false := by rfl) : PE X (.Call (.Name x p) (e :: es) [] pos) (tCall sp [] E0 t) :=
  pe_call G (hr.mono hj) hg D.m D.F.kp D.b .nil pass0 ha (hdb := hd) (he := hs) (hpl := hst)
/-- a def with default values -/
structure DfD (K : PySem.W.Frag) (mg : Str → Option Value) (x : Str) (st : Stmt) (ps : List Str) (dvs : List V) (f : Addr) (fd : FuncData) : Prop where
  F : FunD K x x (defArgs st) (defBody st) (defScope st) dvs [] f fd
  m : mg x = some (.ref f)
  b : ∃ ds, Vals dvs ds ∧ Binds K fd ps ds
theorem cld {X : Cx} {x : Str} {f : Addr} {fd : FuncData} {ps : List Str} {sp : Sp} {j k : Nat} {st : Stmt} {dvs : List V} {e : Expr} {es : List Expr} {t : TA} {p pos : Pos} (G : FnOk X.prog X.w X.K X.mg X.base CX0 k f fd ps sp) (D : DfD X.K X.mg x st ps dvs f fd) (hr : Room j X.A) (ha : PA X (e :: es) t)
    (hj : k ≤ j := by first | decide | omega) (hg : Gl X x := by rfl) (hd : (x == ("__debug__" : Str)) = false := by decide) (hs : starEach (e :: es) X.env = (false, eval e X.env) :: starEach es X.env := by rfl) (hst : (backTo pos (starEach es X.env)).any (·.1) = false := by rfl) : PE X (.Call (.Name x p) (e :: es) [] pos) (tCall sp dvs E0 t) := by
  obtain ⟨ds, hv, hb⟩ := D.b
  exact pe_call G (hr.mono hj) hg D.m D.F.kp hb hv pass0 ha (hdb := hd) (he := hs) (hpl := hst)
/-- a def of the text whose code object is told -/
structure DfC (K : PySem.W.Frag) (mg : Str → Option Value) (x : Str) (st : Stmt) (ps : List Str) (f : Addr) (fd : FuncData) (c : Addr) : Prop where
  F : Fun K x x st f fd
  b : Binds K fd ps []
  m : mg x = some (.ref f)
  x : ∃ (oc : Value) (od : Option Addr) (kV doc pm : Value) (an : Option Addr) (ct : Value) (osl : Array (Option Value)),
    fd = PySem.W.fnOf x x (defArgs st) (defBody st) (defScope st) .none kV doc pm an (.ref c) ct ∧ K.lookup f = some ⟨oc, od, .func fd, osl⟩ ∧ PySem.W.codeIn K (.ref c) x = true
theorem DfC.df {K : PySem.W.Frag} {mg : Str → Option Value} {x : Str} {st : Stmt} {ps : List Str} {f : Addr} {fd : FuncData} {c : Addr} (D : DfC K mg x st ps f fd c) : Df K mg x st ps [] f fd := ⟨D.F, D.b, D.m⟩
theorem DfC.ok {P : Program} {w : World} {K : PySem.W.Frag} {mg : Str → Option Value} {base : Heap} {x : Str} {st : Stmt} {ps N : List Str} {f : Addr} {fd : FuncData} {c : Addr} {k : Nat} {sp : Sp} (D : DfC K mg x st ps f fd c) (S : FnScope N ps (defScope st)) (len : ∀ vs H Q E, sp vs H Q E → vs.length = ps.length)
    (hbody : ∀ (A : Around) (outer : List Env) (s : Shared) (H : Hp) (vs : List V) (Q : VK) (E : XK), Room k (A.deeper (envOfC x (defScope st) s.heap.objs.size f (.ref c))) → sp vs H Q E →
      ∃ t, PSs (cxOf CX0 P w K mg base N x (defScope st) f (.ref c) A outer s H E).nox (defBody st) t ∧ t { nx := fun _ H' => Q .non H', rt := Q } (start N vs) H) : FnOk P w K mg base CX0 (k + 1) f fd ps sp := by
  obtain ⟨oc, od, kV, doc, pm, an, ct, osl, rfl, lk, hcd⟩ := D.x
  refine fn_of lk hcd S len fun A outer s H vs Q E hr hsp => ?_
  obtain ⟨t, h, q⟩ := hbody A outer s H vs Q E hr hsp
  exact ⟨t, h.nox, q⟩
theorem DfC.free {P : Program} {w : World} {K : PySem.W.Frag} {mg : Str → Option Value} {base : Heap} {x : Str} {st : Stmt} {ps N : List Str} {f : Addr} {fd : FuncData} {c : Addr} {k : Nat} {sp : Sp} (D : DfC K mg x st ps f fd c) (S : FnScope N ps (defScope st)) (len : ∀ vs H Q E, sp vs H Q E → vs.length = ps.length)
    (hbody : ∀ (A : Around) (outer : List Env) (s : Shared) (H : Hp) (vs : List V) (Q : VK) (E : XK), RG.Free (A.deeper (envOfC x (defScope st) s.heap.objs.size f (.ref c))) → Room k (A.deeper (envOfC x (defScope st) s.heap.objs.size f (.ref c))) → sp vs H Q E →
      ∃ t, PSs (cxOf CX0 P w K mg base N x (defScope st) f (.ref c) A outer s H E).nox (defBody st) t ∧ t { nx := fun _ H' => Q .non H', rt := Q } (start N vs) H) : RG.FnG P w K mg base CX0 (k + 1) f fd ps sp := by
  obtain ⟨oc, od, kV, doc, pm, an, ct, osl, rfl, lk, hcd⟩ := D.x
  refine RG.fn_free lk hcd S len fun A outer s H vs Q E h1 hr hsp => ?_
  obtain ⟨t, h, q⟩ := hbody A outer s H vs Q E h1 hr hsp
  exact ⟨t, h.nox, q⟩

def top (i : Nat) : Stmt := PySem.Challenge.pw_hornmill_k44_whole_solutions_grouped.main.body.getD i (.Pass ⟨0, 0, 0, 0⟩)
abbrev s_is_integer : Stmt := top 14
theorem sc_is_integer : FnScope ["thing"] ["thing"] (defScope s_is_integer) := ⟨rfl, rfl, rfl, by decide +kernel, rfl, by decide +kernel, by decide +kernel⟩
abbrev s_is_sign : Stmt := top 15
theorem sc_is_sign : FnScope ["sign"] ["sign"] (defScope s_is_sign) := ⟨rfl, rfl, rfl, by decide +kernel, rfl, by decide +kernel, by decide +kernel⟩
abbrev s_is_atom : Stmt := top 16
theorem sc_is_atom : FnScope ["thing", "sign"] ["thing"] (defScope s_is_atom) := ⟨rfl, rfl, rfl, by decide +kernel, rfl, by decide +kernel, by decide +kernel⟩
abbrev s_is_number : Stmt := top 17
theorem sc_is_number : FnScope ["thing"] ["thing"] (defScope s_is_number) := ⟨rfl, rfl, rfl, by decide +kernel, rfl, by decide +kernel, by decide +kernel⟩
abbrev s_is_term : Stmt := top 18
theorem sc_is_term : FnScope ["thing", "waiting", "part"] ["thing"] (defScope s_is_term) := ⟨rfl, rfl, rfl, by decide +kernel, rfl, by decide +kernel, by decide +kernel⟩
abbrev s_is_part : Stmt := top 19
theorem sc_is_part : FnScope ["thing"] ["thing"] (defScope s_is_part) := ⟨rfl, rfl, rfl, by decide +kernel, rfl, by decide +kernel, by decide +kernel⟩
abbrev s_demand_term : Stmt := top 20
theorem sc_demand_term : FnScope ["term"] ["term"] (defScope s_demand_term) := ⟨rfl, rfl, rfl, by decide +kernel, rfl, by decide +kernel, by decide +kernel⟩
abbrev s_is_variable : Stmt := top 21
theorem sc_is_variable : FnScope ["part"] ["part"] (defScope s_is_variable) := ⟨rfl, rfl, rfl, by decide +kernel, rfl, by decide +kernel, by decide +kernel⟩
abbrev s_arguments_of : Stmt := top 22
theorem sc_arguments_of : FnScope ["part"] ["part"] (defScope s_arguments_of) := ⟨rfl, rfl, rfl, by decide +kernel, rfl, by decide +kernel, by decide +kernel⟩
abbrev s_parts_of : Stmt := top 23
theorem sc_parts_of : FnScope ["term", "found", "waiting", "part"] ["term"] (defScope s_parts_of) := ⟨rfl, rfl, rfl, by decide +kernel, rfl, by decide +kernel, by decide +kernel⟩
abbrev s_head_of : Stmt := top 24
theorem sc_head_of : FnScope ["part"] ["part"] (defScope s_head_of) := ⟨rfl, rfl, rfl, by decide +kernel, rfl, by decide +kernel, by decide +kernel⟩
abbrev s_folded : Stmt := top 25
theorem sc_folded : FnScope ["row", "done", "what", "many", "inner"] ["row"] (defScope s_folded) := ⟨rfl, rfl, rfl, by decide +kernel, rfl, by decide +kernel, by decide +kernel⟩
abbrev s_replaced : Stmt := top 26
theorem sc_replaced : FnScope ["term", "table", "row", "part"] ["term", "table"] (defScope s_replaced) := ⟨rfl, rfl, rfl, by decide +kernel, rfl, by decide +kernel, by decide +kernel⟩
abbrev s_numbers_in : Stmt := top 27
theorem sc_numbers_in : FnScope ["term", "seen", "part"] ["term"] (defScope s_numbers_in) := ⟨rfl, rfl, rfl, by decide +kernel, rfl, by decide +kernel, by decide +kernel⟩
abbrev s_renumbered : Stmt := top 28
theorem sc_renumbered : FnScope ["term", "place", "k"] ["term"] (defScope s_renumbered) := ⟨rfl, rfl, rfl, by decide +kernel, rfl, by decide +kernel, by decide +kernel⟩
abbrev s_demand_pairs : Stmt := top 30
theorem sc_demand_pairs : FnScope ["pairs", "pair"] ["pairs"] (defScope s_demand_pairs) := ⟨rfl, rfl, rfl, by decide +kernel, rfl, by decide +kernel, by decide +kernel⟩
abbrev s_is_pair : Stmt := top 31
theorem sc_is_pair : FnScope ["pair"] ["pair"] (defScope s_is_pair) := ⟨rfl, rfl, rfl, by decide +kernel, rfl, by decide +kernel, by decide +kernel⟩
abbrev s_order_key : Stmt := top 33
theorem sc_order_key : FnScope ["term", "part"] ["term"] (defScope s_order_key) := ⟨rfl, rfl, rfl, by decide +kernel, rfl, by decide +kernel, by decide +kernel⟩
abbrev s_free_of : Stmt := top 38
theorem sc_free_of : FnScope ["template", "goal", "bound", "k"] ["template", "goal"] (defScope s_free_of) := ⟨rfl, rfl, rfl, by decide +kernel, rfl, by decide +kernel, by decide +kernel⟩
abbrev s_grouped : Stmt := top 39
theorem sc_grouped : FnScope ["word", "pairs", "groups", "parts", "witness", "solution", "form", "first", "solutions", "names", "k"] ["word", "pairs"] (defScope s_grouped) := ⟨rfl, rfl, rfl, by decide +kernel, rfl, by decide +kernel, by decide +kernel⟩
abbrev s_witness_key : Stmt := top 40
theorem sc_witness_key : FnScope ["pair"] ["pair"] (defScope s_witness_key) := ⟨rfl, rfl, rfl, by decide +kernel, rfl, by decide +kernel, by decide +kernel⟩
abbrev s_sorted_once : Stmt := top 41
theorem sc_sorted_once : FnScope ["terms", "found", "last", "term", "this"] ["terms"] (defScope s_sorted_once) := ⟨rfl, rfl, rfl, by decide +kernel, rfl, by decide +kernel, by decide +kernel⟩
abbrev s_law_source_of : Stmt := top 43
theorem sc_law_source_of : FnScope ["_law_cell"] ["_law_cell"] (defScope s_law_source_of) := ⟨rfl, rfl, rfl, by decide +kernel, rfl, by decide +kernel, by decide +kernel⟩
abbrev s_law_next : Stmt := top 44
theorem sc_law_next : FnScope ["_law_source", "_law_many", "_law_found", "_law_prime", "_law_number"] ["_law_source", "_law_many"] (defScope s_law_next) := ⟨rfl, rfl, rfl, by decide +kernel, rfl, by decide +kernel, by decide +kernel⟩
abbrev s_law_one : Stmt := top 45
theorem sc_law_one : FnScope ["_law_source", "_law_some"] ["_law_source", "_law_some"] (defScope s_law_one) := ⟨rfl, rfl, rfl, by decide +kernel, rfl, by decide +kernel, by decide +kernel⟩
abbrev s_law_term : Stmt := top 46
theorem sc_law_term : FnScope ["_law_source", "_law_deep", "_law_kind", "_law_many", "_law_name", "_law_k"] ["_law_source", "_law_deep"] (defScope s_law_term) := ⟨rfl, rfl, rfl, by decide +kernel, rfl, by decide +kernel, by decide +kernel⟩
abbrev s_law_is_open : Stmt := top 47
theorem sc_law_is_open : FnScope ["_law_term_here"] ["_law_term_here"] (defScope s_law_is_open) := ⟨rfl, rfl, rfl, by decide +kernel, rfl, by decide +kernel, by decide +kernel⟩
abbrev s_law_numbers : Stmt := top 48
theorem sc_law_numbers : FnScope ["_law_terms", "_law_found", "_law_term_here", "_law_some", "_law_number"] ["_law_terms"] (defScope s_law_numbers) := ⟨rfl, rfl, rfl, by decide +kernel, rfl, by decide +kernel, by decide +kernel⟩
abbrev s_law_put : Stmt := top 49
theorem sc_law_put : FnScope ["_law_term_here", "_law_numbers_here", "_law_places", "_law_one_here"] ["_law_term_here", "_law_numbers_here", "_law_places"] (defScope s_law_put) := ⟨rfl, rfl, rfl, by decide +kernel, rfl, by decide +kernel, by decide +kernel⟩
abbrev s_law_rank : Stmt := top 50
theorem sc_law_rank : FnScope ["_law_term_here", "_law_one_here"] ["_law_term_here"] (defScope s_law_rank) := ⟨rfl, rfl, rfl, by decide +kernel, rfl, by decide +kernel, by decide +kernel⟩
abbrev s_law_ahead_by : Stmt := top 51
theorem sc_law_ahead_by : FnScope ["_law_mine", "_law_its", "_law_left", "_law_right"] ["_law_mine", "_law_its"] (defScope s_law_ahead_by) := ⟨rfl, rfl, rfl, by decide +kernel, rfl, by decide +kernel, by decide +kernel⟩
abbrev s_law_placed : Stmt := top 52
theorem sc_law_placed : FnScope ["_law_some", "_law_spot", "_law_found", "_law_one_here", "_law_mine", "_law_ahead", "_law_other"] ["_law_some", "_law_spot"] (defScope s_law_placed) := ⟨rfl, rfl, rfl, by decide +kernel, rfl, by decide +kernel, by decide +kernel⟩
abbrev s_law_groups : Stmt := top 53
theorem sc_law_groups : FnScope ["_law_word", "_law_some", "_law_left", "_law_found", "_law_turn", "_law_witness", "_law_mine", "_law_rest", "_law_numbers_here", "_law_shape", "_law_own", "_law_solution", "_law_its", "_law_k", "_law_one_here"] ["_law_word", "_law_some"] (defScope s_law_groups) := ⟨rfl, rfl, rfl, by decide +kernel, rfl, by decide +kernel, by decide +kernel⟩
abbrev s_law_free_right : Stmt := top 54
theorem sc_law_free_right : FnScope ["_law_source", "_law_template", "_law_bare", "_law_marks", "_law_called", "_law_k", "_law_known", "_law_due", "_law_found", "_law_number"] ["_law_source"] (defScope s_law_free_right) := ⟨rfl, rfl, rfl, by decide +kernel, rfl, by decide +kernel, by decide +kernel⟩
abbrev s_law_caught : Stmt := top 55
theorem sc_law_caught : FnScope ["_law_ask", "e"] ["_law_ask"] (defScope s_law_caught) := ⟨rfl, rfl, rfl, by decide +kernel, rfl, by decide +kernel, by decide +kernel⟩
abbrev s_law_refused_right : Stmt := top 56
theorem sc_law_refused_right : FnScope ["_law_some", "_law_wrong", "_law_odd", "_law_word"] ["_law_some"] (defScope s_law_refused_right) := ⟨rfl, rfl, rfl, by decide +kernel, rfl, by decide +kernel, by decide +kernel⟩
abbrev s_law : Stmt := top 57
theorem sc_law : FnScope ["_law_script", "_law_cell", "_law_source", "_law_turn", "_law_deep", "_law_some", "_law_stood", "_law_word", "_law_due", "_law_found", "_law_witness", "_law_solutions", "_law_k"] ["_law_script"] (defScope s_law) := ⟨rfl, rfl, rfl, by decide +kernel, rfl, by decide +kernel, by decide +kernel⟩
abbrev s_St_init : Stmt := inClass (top 35) 0
theorem sc_St_init : FnScope ["self"] ["self"] (defScope s_St_init) := ⟨rfl, rfl, rfl, by decide +kernel, rfl, by decide +kernel, by decide +kernel⟩
abbrev s_St_number_of : Stmt := inClass (top 35) 1
theorem sc_St_number_of : FnScope ["self", "row"] ["self", "row"] (defScope s_St_number_of) := ⟨rfl, rfl, rfl, by decide +kernel, rfl, by decide +kernel, by decide +kernel⟩
abbrev s_St_number : Stmt := inClass (top 35) 2
theorem sc_St_number : FnScope ["self", "term", "known", "done", "part", "many", "inner"] ["self", "term", "known"] (defScope s_St_number) := ⟨rfl, rfl, rfl, by decide +kernel, rfl, by decide +kernel, by decide +kernel⟩
abbrev s_BadTerm_init : Stmt := inClass (top 3) 0
theorem sc_BadTerm_init : FnScope ["self", "term"] ["self", "term"] (defScope s_BadTerm_init) := ⟨rfl, rfl, rfl, by decide +kernel, rfl, by decide +kernel, by decide +kernel⟩
abbrev s_BadPairs_init : Stmt := inClass (top 4) 0
theorem sc_BadPairs_init : FnScope ["self", "pairs"] ["self", "pairs"] (defScope s_BadPairs_init) := ⟨rfl, rfl, rfl, by decide +kernel, rfl, by decide +kernel, by decide +kernel⟩
/-- a method of the class at C -/
structure Me (K : PySem.W.Frag) (C : Addr) (m : Str) (st : Stmt) (ps : List Str) (f : Addr) (fd : FuncData) : Prop where
  F : Fun K m ("Parts." ++ m) st f fd
  b : Binds K fd ps []
  m : Meth K C m f
structure Tx (K : PySem.W.Frag) (mg : Str → Option Value) where
  f_is_integer : Addr
  d_is_integer : FuncData
  h_is_integer : Df K mg "is_integer" s_is_integer ["thing"] [] f_is_integer d_is_integer
  f_is_sign : Addr
  d_is_sign : FuncData
  h_is_sign : Df K mg "is_sign" s_is_sign ["sign"] [] f_is_sign d_is_sign
  f_is_atom : Addr
  d_is_atom : FuncData
  h_is_atom : Df K mg "is_atom" s_is_atom ["thing"] [] f_is_atom d_is_atom
  f_is_number : Addr
  d_is_number : FuncData
  h_is_number : Df K mg "is_number" s_is_number ["thing"] [] f_is_number d_is_number
  f_is_term : Addr
  d_is_term : FuncData
  h_is_term : Df K mg "is_term" s_is_term ["thing"] [] f_is_term d_is_term
  f_is_part : Addr
  d_is_part : FuncData
  h_is_part : Df K mg "_is_part" s_is_part ["thing"] [] f_is_part d_is_part
  f_demand_term : Addr
  d_demand_term : FuncData
  h_demand_term : Df K mg "demand_term" s_demand_term ["term"] [] f_demand_term d_demand_term
  f_is_variable : Addr
  d_is_variable : FuncData
  h_is_variable : Df K mg "is_variable" s_is_variable ["part"] [] f_is_variable d_is_variable
  f_arguments_of : Addr
  d_arguments_of : FuncData
  h_arguments_of : Df K mg "arguments_of" s_arguments_of ["part"] [] f_arguments_of d_arguments_of
  f_parts_of : Addr
  d_parts_of : FuncData
  h_parts_of : Df K mg "parts_of" s_parts_of ["term"] [] f_parts_of d_parts_of
  f_head_of : Addr
  d_head_of : FuncData
  h_head_of : Df K mg "head_of" s_head_of ["part"] [] f_head_of d_head_of
  f_folded : Addr
  d_folded : FuncData
  h_folded : Df K mg "folded" s_folded ["row"] [] f_folded d_folded
  f_replaced : Addr
  d_replaced : FuncData
  h_replaced : Df K mg "replaced" s_replaced ["term", "table"] [] f_replaced d_replaced
  f_numbers_in : Addr
  d_numbers_in : FuncData
  h_numbers_in : Df K mg "numbers_in" s_numbers_in ["term"] [] f_numbers_in d_numbers_in
  f_renumbered : Addr
  d_renumbered : FuncData
  h_renumbered : Df K mg "renumbered" s_renumbered ["term"] [] f_renumbered d_renumbered
  f_demand_pairs : Addr
  d_demand_pairs : FuncData
  h_demand_pairs : Df K mg "demand_pairs" s_demand_pairs ["pairs"] [] f_demand_pairs d_demand_pairs
  f_is_pair : Addr
  d_is_pair : FuncData
  h_is_pair : Df K mg "_is_pair" s_is_pair ["pair"] [] f_is_pair d_is_pair
  f_order_key : Addr
  d_order_key : FuncData
  h_order_key : Df K mg "order_key" s_order_key ["term"] [] f_order_key d_order_key
  f_free_of : Addr
  d_free_of : FuncData
  h_free_of : Df K mg "free_of" s_free_of ["template", "goal"] [] f_free_of d_free_of
  f_grouped : Addr
  d_grouped : FuncData
  h_grouped : Df K mg "grouped" s_grouped ["word", "pairs"] [] f_grouped d_grouped
  f_witness_key : Addr
  d_witness_key : FuncData
  h_witness_key : Df K mg "_witness_key" s_witness_key ["pair"] [] f_witness_key d_witness_key
  f_sorted_once : Addr
  d_sorted_once : FuncData
  h_sorted_once : Df K mg "sorted_once" s_sorted_once ["terms"] [] f_sorted_once d_sorted_once
  f_law_source_of : Addr
  d_law_source_of : FuncData
  h_law_source_of : Df K mg "_law_source_of" s_law_source_of ["_law_cell"] [] f_law_source_of d_law_source_of
  f_law_next : Addr
  d_law_next : FuncData
  h_law_next : Df K mg "_law_next" s_law_next ["_law_source", "_law_many"] [] f_law_next d_law_next
  f_law_one : Addr
  d_law_one : FuncData
  h_law_one : Df K mg "_law_one" s_law_one ["_law_source", "_law_some"] [] f_law_one d_law_one
  f_law_term : Addr
  d_law_term : FuncData
  h_law_term : Df K mg "_law_term" s_law_term ["_law_source", "_law_deep"] [] f_law_term d_law_term
  f_law_is_open : Addr
  d_law_is_open : FuncData
  h_law_is_open : Df K mg "_law_is_open" s_law_is_open ["_law_term_here"] [] f_law_is_open d_law_is_open
  f_law_numbers : Addr
  d_law_numbers : FuncData
  h_law_numbers : Df K mg "_law_numbers" s_law_numbers ["_law_terms"] [] f_law_numbers d_law_numbers
  f_law_put : Addr
  d_law_put : FuncData
  h_law_put : Df K mg "_law_put" s_law_put ["_law_term_here", "_law_numbers_here", "_law_places"] [] f_law_put d_law_put
  f_law_rank : Addr
  d_law_rank : FuncData
  h_law_rank : Df K mg "_law_rank" s_law_rank ["_law_term_here"] [] f_law_rank d_law_rank
  f_law_ahead_by : Addr
  d_law_ahead_by : FuncData
  h_law_ahead_by : Df K mg "_law_ahead_by" s_law_ahead_by ["_law_mine", "_law_its"] [] f_law_ahead_by d_law_ahead_by
  f_law_placed : Addr
  d_law_placed : FuncData
  h_law_placed : Df K mg "_law_placed" s_law_placed ["_law_some", "_law_spot"] [] f_law_placed d_law_placed
  f_law_groups : Addr
  d_law_groups : FuncData
  h_law_groups : Df K mg "_law_groups" s_law_groups ["_law_word", "_law_some"] [] f_law_groups d_law_groups
  f_law_free_right : Addr
  d_law_free_right : FuncData
  h_law_free_right : Df K mg "_law_free_right" s_law_free_right ["_law_source"] [] f_law_free_right d_law_free_right
  f_law_caught : Addr
  d_law_caught : FuncData
  h_law_caught : Df K mg "_law_caught" s_law_caught ["_law_ask"] [] f_law_caught d_law_caught
  cc : Addr
  f_law_refused_right : Addr
  d_law_refused_right : FuncData
  h_law_refused_right : DfC K mg "_law_refused_right" s_law_refused_right ["_law_some"] f_law_refused_right d_law_refused_right cc
  f_law : Addr
  d_law : FuncData
  h_law : Df K mg "law" s_law ["_law_script"] [] f_law d_law
  C : Addr
  cl : Cls K C
  mgC : mg "Parts" = some (.ref C)
  n_rows : NoAttr K C "rows"
  n_places : NoAttr K C "places"
  f_St_init : Addr
  d_St_init : FuncData
  F_St_init : Fun K "__init__" "Parts.__init__" s_St_init f_St_init d_St_init
  b_St_init : Binds K d_St_init ["self"] []
  mkS : Mk K C f_St_init
  f_St_number_of : Addr
  d_St_number_of : FuncData
  h_St_number_of : Me K C "number_of" s_St_number_of ["self", "row"] f_St_number_of d_St_number_of
  f_St_number : Addr
  d_St_number : FuncData
  h_St_number : Me K C "number" s_St_number ["self", "term", "known"] f_St_number d_St_number
  c_VARIABLE : ∃ t, mg "VARIABLE" = some (.int 0 t)
  c_INTEGER : ∃ t, mg "INTEGER" = some (.int 1 t)
  c_ATOM : ∃ t, mg "ATOM" = some (.int 2 t)
  c_COMPOUND : ∃ t, mg "COMPOUND" = some (.int 3 t)
  c_MOST_SIGNS : ∃ t, mg "MOST_SIGNS" = some (.int 40 t)
  c_MOST_ARGUMENTS : ∃ t, mg "MOST_ARGUMENTS" = some (.int 8 t)
  c_BARRED_SIGN : ∃ t, mg "BARRED_SIGN" = some (.int 37 t)
  c_TOO_GREAT : ∃ t, mg "TOO_GREAT" = some (.int tooGreat t)
  b_all : mg "all" = none
  b_bool : mg "bool" = none
  b_dict : mg "dict" = none
  b_enumerate : mg "enumerate" = none
  b_int : mg "int" = none
  b_isinstance : mg "isinstance" = none
  b_len : mg "len" = none
  b_list : mg "list" = none
  b_ord : mg "ord" = none
  b_range : mg "range" = none
  b_repr : mg "repr" = none
  b_reversed : mg "reversed" = none
  b_sorted : mg "sorted" = none
  b_str : mg "str" = none
  b_tuple : mg "tuple" = none
  b_zip : mg "zip" = none
  a_Wds : Addr
  m_Wds : mg "WORDS" = some (.ref a_Wds)
  r_Wds : ∀ H : Hp, SqT K H a_Wds [.str (Str.ofString "bagof"), .str (Str.ofString "setof")]
  a_Horn : Addr
  e_Horn : RG.BaseE K mg "HornError" a_Horn
  a_Bad : Addr
  i_Bad : Addr
  d_Bad : FuncData
  e_Bad : RG.ErrE K mg "BadTerm" "term" a_Bad i_Bad
  F_Bad : Fun K "__init__" "BadTerm.__init__" s_BadTerm_init i_Bad d_Bad
  b_Bad : Binds K d_Bad ["self", "term"] []
  x_Bad : RG.IsE K a_Bad
  y_Bad : PySem.W.kitOne K (.ref a_Bad) (.ref a_Horn) = some true
  a_Bap : Addr
  i_Bap : Addr
  d_Bap : FuncData
  e_Bap : RG.ErrE K mg "BadPairs" "pairs" a_Bap i_Bap
  F_Bap : Fun K "__init__" "BadPairs.__init__" s_BadPairs_init i_Bap d_Bap
  b_Bap : Binds K d_Bap ["self", "pairs"] []
  x_Bap : RG.IsE K a_Bap
  y_Bap : PySem.W.kitOne K (.ref a_Bap) (.ref a_Horn) = some true
  q_BB : PySem.W.exmOne K (.ref a_Bad) (.ref a_Bap) = some false
end Hm

set_option Elab.async false
set_option linter.all false
set_option maxRecDepth 100000
set_option maxHeartbeats 4000000
namespace Hm
open PySem PySem.Spec PyProof.Rows L2 HT
open Evl (Ex)
section
variable {P : Program} {w : World} {K : PySem.W.Frag} {mg : Str → Option Value} {base : Heap}
theorem tk_succ {α β : Type} {l : List α} {i : Nat} {x : α} (f : α → β) (h : l[i]? = some x) : (l.take (i + 1)).map f = (l.take i).map f ++ [f x] := by
  rw [List.take_add_one, h]
  simp
theorem yesI {σ : L2.St} {H : Hp} {A B : Hp → Prop} (h : A H) : tYes σ H (fun b H3 => if b = true then A H3 else B H3) := by
  show (if true = true then A H else B H)
  exact iteT h
theorem small5 {n : Nat} (h : n ≤ 100000) : n ≤ sizeLine := Nat.le_trans h (by decide)
theorem small5' {n : Nat} (h : n ≤ 100000) : n < sizeLine := Nat.lt_of_le_of_lt h (by decide)
theorem tyx_tup {H : Hp} {a : Addr} {xs : List V} (h : SqT K H a xs) : TyX K H (.ref a) (.type "tuple") := by
  rcases h with (h | ⟨o, h⟩) | ⟨o, its, n, h1, h2, _⟩
  · exact .base (.tup h)
  · exact .fTuple h
  · exact .kTuple h1 h2
theorem cut1 (x : V) (vs : List V) : cutV (x :: vs) (some 1) none = vs := by
  unfold cutV
  have e : sIx (x :: vs).length 0 (some 1) = 1 := by
    show (if (1 : Int) < 0 then ((1 : Int) + ((x :: vs).length : Int)).toNat else min (1 : Int).toNat (x :: vs).length) = 1
    rw [if_neg (by decide), List.length_cons]
    show min 1 (vs.length + 1) = 1
    omega
  rw [e, sIx_none]
  show (vs.take ((x :: vs).length - 1)) = vs
  rw [List.length_cons]
  exact List.take_of_length_le (by omega)
theorem cut1_ne (x : V) (vs : List V) : ¬ (sIx (x :: vs).length 0 (some 1) = 0 ∧ sIx (x :: vs).length (x :: vs).length none = (x :: vs).length) := by
  intro h
  have e : sIx (x :: vs).length 0 (some 1) = 1 := by
    show (if (1 : Int) < 0 then ((1 : Int) + ((x :: vs).length : Int)).toNat else min (1 : Int).toNat (x :: vs).length) = 1
    rw [if_neg (by decide), List.length_cons]
    show min 1 (vs.length + 1) = 1
    omega
  rw [e] at h
  exact absurd h.1 (by decide)

/-! ### is_integer -/
def spInt (K : PySem.W.Frag) : Sp := fun vs H Q _ => ∃ v d, vs = [v] ∧ OdAt K H v d ∧ Q (.bl (intD d)) H
theorem ok_is_integer (T : Tx K mg) : FnOk P w K mg base CX0 1 T.f_is_integer T.d_is_integer ["thing"] (spInt K) := by
  refine T.h_is_integer.F.ok sc_is_integer (fun vs H Q E h => ?_) (fun cdv A outer s H vs Q E hr h => ?_)
  · obtain ⟨v, d, rfl, _⟩ := h
    rfl
  obtain ⟨v, d, rfl, hv, q⟩ := h
  have ty := ty_od hv
  refine ⟨_, (pss_one (ps_ret (pe_and (pe_callB call_isi rfl T.b_isinstance (by decide +kernel) (pa_cons (pv 0) (pa_cons (pe_bltn (v := .ty "int") (u := .type "int") rfl T.b_int (by decide +kernel) rfl) pa_nil))) (pe_one (pe_not (pe_callB call_isi rfl T.b_isinstance (by decide +kernel) (pa_cons (pv 0) (pa_cons (pe_bltn (v := .ty "bool") (u := .type "bool") rfl T.b_bool (by decide +kernel) rfl) pa_nil)))))))), ?_⟩
  cases hv with
  | int i => exact ⟨_, rfl, _, _, _, _, true, rfl, .ty "int", ty, kit_ty (a := "int") (by decide +kernel), true, rfl, iteT ⟨_, rfl, _, _, _, _, false, rfl, .ty "bool", ty, kit_ty (a := "int") (by decide +kernel), false, rfl, q⟩⟩
  | bl i => exact ⟨_, rfl, _, _, _, _, true, rfl, .ty "int", ty, kit_ty (a := "bool") (by decide +kernel), true, rfl, iteT ⟨_, rfl, _, _, _, _, true, rfl, .ty "bool", ty, kit_ty (a := "bool") (by decide +kernel), true, rfl, q⟩⟩
  | non => exact ⟨_, rfl, _, _, _, _, false, rfl, .ty "int", ty, kit_ty (a := "NoneType") (by decide +kernel), false, rfl, iteF q⟩
  | str s => exact ⟨_, rfl, _, _, _, _, false, rfl, .ty "int", ty, kit_ty (a := "str") (by decide +kernel), false, rfl, iteF q⟩
  | lst h => exact ⟨_, rfl, _, _, _, _, false, rfl, .ty "int", ty, kit_ty (a := "list") (by decide +kernel), false, rfl, iteF q⟩
  | dic h => exact ⟨_, rfl, _, _, _, _, false, rfl, .ty "int", ty, kit_ty (a := "dict") (by decide +kernel), false, rfl, iteF q⟩
  | tup h r => exact ⟨_, rfl, _, _, _, _, false, rfl, .ty "int", ty, kit_ty (a := "tuple") (by decide +kernel), false, rfl, iteF q⟩

/-! ### is_sign, of one sign -/
def spSign : Sp := fun vs H Q _ => ∃ c : Nat, vs = [.str ⟨#[c]⟩] ∧ Q (.bl (signOk c)) H
theorem one_lt {a b : Nat} : (([a] : List Nat) < [b]) ↔ a < b := by
  constructor
  · intro h
    cases h with
    | rel h => exact h
    | cons h => cases h
  · intro h
    exact List.Lex.rel h
theorem ok_is_sign (T : Tx K mg) : FnOk P w K mg base CX0 1 T.f_is_sign T.d_is_sign ["sign"] spSign := by
  refine T.h_is_sign.F.ok sc_is_sign (fun vs H Q E h => ?_) (fun cdv A outer s H vs Q E hr h => ?_)
  · obtain ⟨c, rfl, _⟩ := h
    rfl
  obtain ⟨c, rfl, q⟩ := h
  obtain ⟨tk, hc_BARRED_SIGN⟩ := T.c_BARRED_SIGN
  refine ⟨_, (pss_one (ps_ret (pe_and (pe_chain op_le_str op_le_str pe_str (pv 0) pe_str) (pe_one (pe_cmpR op_ne (pe_callB call_ord rfl T.b_ord (by decide +kernel) (pa_cons (pv 0) pa_nil)) (pe_glob (v := .int 37) rfl hc_BARRED_SIGN ⟨_, rfl⟩) (nomark _)))))), ?_⟩
  refine ⟨_, rfl, _, _, rfl, rfl, _, rfl, ?_⟩
  have e1 : (!decide ((⟨#[c]⟩ : Str).cps.toList < (" " : Str).cps.toList)) = decide (32 ≤ c) := by
    show (!decide (([c] : List Nat) < [32])) = _
    by_cases h : c < 32
    · rw [decide_eq_true (one_lt.mpr h), decide_eq_false (by omega)]
      rfl
    · rw [decide_eq_false (fun z => h (one_lt.mp z)), decide_eq_true (by omega)]
      rfl
  have e2 : (!decide (("~" : Str).cps.toList < (⟨#[c]⟩ : Str).cps.toList)) = decide (c ≤ 126) := by
    show (!decide (([126] : List Nat) < [c])) = _
    by_cases h : 126 < c
    · rw [decide_eq_true (one_lt.mpr h), decide_eq_false (by omega)]
      rfl
    · rw [decide_eq_false (fun z => h (one_lt.mp z)), decide_eq_true (by omega)]
      rfl
  rw [e1]
  by_cases h1 : 32 ≤ c
  · rw [decide_eq_true h1]
    refine iteT ⟨_, _, rfl, rfl, _, rfl, ?_⟩
    rw [e2]
    by_cases h2 : c ≤ 126
    · rw [decide_eq_true h2]
      refine iteT ⟨_, rfl, _, rfl, rfl, rfl, ?_⟩
      have e3 : (!decide (V.int (((#[c] : Array Nat).getD 0 0 : Nat) : Int) = V.int 37)) = signOk c := by
        show (!decide (V.int (c : Int) = V.int 37)) = _
        unfold signOk
        by_cases h3 : c = 37
        · subst h3
          decide
        · rw [decide_eq_false (by intro z; injection z with z; omega), decide_eq_true ⟨h1, h2, h3⟩]
          rfl
      exact e3 ▸ q
    · rw [decide_eq_false h2]
      refine iteF ?_
      have : signOk c = false := decide_eq_false (fun z => h2 z.2.1)
      exact this ▸ q
  · rw [decide_eq_false h1]
    refine iteF ⟨_, rfl, iteF ?_⟩
    have : signOk c = false := decide_eq_false (fun z => h1 z.1)
    exact this ▸ q

/-! ### is_atom -/
def spAtom (K : PySem.W.Frag) : Sp := fun vs H Q _ => ∃ v d, vs = [v] ∧ OdAt K H v d ∧ sizeD d ≤ 60000 ∧ ∀ H', Ex H H' → Q (.bl (atomD d)) H'
theorem ok_is_atom (T : Tx K mg) : FnOk P w K mg base CX0 2 T.f_is_atom T.d_is_atom ["thing"] (spAtom K) := by
  refine T.h_is_atom.F.ok sc_is_atom (fun vs H Q E h => ?_) (fun cdv A outer s H vs Q E hr h => ?_)
  · obtain ⟨x, d, rfl, _⟩ := h
    rfl
  obtain ⟨x, d, rfl, hv, hz, q⟩ := h
  obtain ⟨tk, hc_MOST_SIGNS⟩ := T.c_MOST_SIGNS
  have ty := ty_od hv
  refine ⟨_, (pss_one (ps_ret (pe_and (pe_callB call_isi rfl T.b_isinstance (by decide +kernel) (pa_cons (pv 0) (pa_cons (pe_bltn (v := .ty "str") (u := .type "str") rfl T.b_str (by decide +kernel) rfl) pa_nil))) (pe_and (pe_cmpR op_le (pe_callB call_len_str rfl T.b_len (by decide +kernel) (pa_cons (pv 0) pa_nil)) (pe_glob (v := .int 40) rfl hc_MOST_SIGNS ⟨_, rfl⟩) (nomark _)) (pe_one (pe_callB (cr_all rfl) rfl T.b_all (by decide +kernel) (pa_cons (pe_lc (own := [("sign", 1)]) (g := gName 1) rfl sc_is_atom.nd (pi_str (pv 0)) (blkOk_by (own := [("sign", 1)]) (N := ["thing", "sign"]) (sc := defScope s_is_atom) (by decide +kernel)) (fun _ _ _ _ _ => pg_name (i := 1) sc_is_atom.nd rfl (Or.inl rfl)) (fun _ _ _ _ _ => pts_nil) (fun _ _ _ _ _ => (cl (ok_is_sign T) T.h_is_sign hr (pa_cons (pv 1) pa_nil)))) pa_nil))))))), ?_⟩
  cases hv with
  | str z =>
    have hz' : 1 + z.length ≤ 60000 := hz
    refine ⟨_, rfl, _, _, _, _, true, rfl, .ty "str", ty, kit_ty (a := "str") (by decide +kernel), true, rfl, iteT ?_⟩
    refine ⟨_, rfl, z, rfl, small5 (by omega), _, _, rfl, rfl, _, rfl, ?_⟩
    have ed : atomD (.str z) = (decide (z.length ≤ 40) && z.cps.toList.all signOk) := rfl
    rw [ed] at q
    by_cases hl : z.length ≤ 40
    · rw [decide_eq_true (show ((z.length : Nat) : Int) ≤ 40 by omega)]
      rw [decide_eq_true hl, Bool.true_and] at q
      refine iteT ⟨_, rfl, z, rfl, fun D hD => lc_it walk_str (fun i H' => Ex H H' ∧ H' D = some (.lst ((z.cps.toList.take i).map fun c => V.bl (signOk c)))) ⟨Ex.new hD, upd_same⟩ (fun _ _ _ _ => trivial) ?_ ?_⟩
      · rintro i x H1 H2 hi ⟨e1, hL⟩ ⟨rfl, c, hc', rfl⟩
        have hcl : z.cps.toList.length = z.length := by rw [Array.length_toList]; rfl
        refine ⟨rfl, yesI ⟨_, rfl, c, rfl, _, hL, ?_, Ex.mut e1 hD, ?_⟩⟩
        · rw [List.length_map, List.length_take]
          exact small5' (by omega)
        · rw [upd_same, tk_succ (x := c)]
          rw [← hc', Array.getElem?_toList]
      · rintro H1 ⟨e1, hL⟩
        refine ⟨D, z.cps.toList.map signOk, rfl, SqL.of ?_, ?_⟩
        · rw [hL, List.take_of_length_le (by simp), List.map_map]
          rfl
        · have : (z.cps.toList.map signOk).all id = z.cps.toList.all signOk := by
            rw [List.all_map]
            rfl
          rw [this]
          exact q _ e1
    · rw [decide_eq_false (show ¬ ((z.length : Nat) : Int) ≤ 40 by omega)]
      rw [decide_eq_false hl, Bool.false_and] at q
      exact iteF (q _ (Ex.refl _))
  | int i => exact ⟨_, rfl, _, _, _, _, false, rfl, .ty "str", ty, kit_ty (a := "int") (by decide +kernel), false, rfl, iteF (q _ (Ex.refl _))⟩
  | bl i => exact ⟨_, rfl, _, _, _, _, false, rfl, .ty "str", ty, kit_ty (a := "bool") (by decide +kernel), false, rfl, iteF (q _ (Ex.refl _))⟩
  | non => exact ⟨_, rfl, _, _, _, _, false, rfl, .ty "str", ty, kit_ty (a := "NoneType") (by decide +kernel), false, rfl, iteF (q _ (Ex.refl _))⟩
  | lst h => exact ⟨_, rfl, _, _, _, _, false, rfl, .ty "str", ty, kit_ty (a := "list") (by decide +kernel), false, rfl, iteF (q _ (Ex.refl _))⟩
  | dic h => exact ⟨_, rfl, _, _, _, _, false, rfl, .ty "str", ty, kit_ty (a := "dict") (by decide +kernel), false, rfl, iteF (q _ (Ex.refl _))⟩
  | tup h r => exact ⟨_, rfl, _, _, _, _, false, rfl, .ty "str", ty, kit_ty (a := "tuple") (by decide +kernel), false, rfl, iteF (q _ (Ex.refl _))⟩

/-! ### is_number -/
def spNum (K : PySem.W.Frag) : Sp := fun vs H Q _ => ∃ v d, vs = [v] ∧ OdAt K H v d ∧ Q (.bl (numD d)) H
theorem ok_is_number (T : Tx K mg) : FnOk P w K mg base CX0 2 T.f_is_number T.d_is_number ["thing"] (spNum K) := by
  refine T.h_is_number.F.ok sc_is_number (fun vs H Q E h => ?_) (fun cdv A outer s H vs Q E hr h => ?_)
  · obtain ⟨x, d, rfl, _⟩ := h
    rfl
  obtain ⟨v, d, rfl, hv, q⟩ := h
  refine ⟨_, (pss_one (ps_ret (pe_and (cl (ok_is_integer T) T.h_is_integer hr (pa_cons (pv 0) pa_nil)) (pe_one (pe_cmpR op_ge (pv 0) pe_int (nomark _)))))), ?_⟩
  refine ⟨_, rfl, v, d, rfl, hv, intD d, rfl, ?_⟩
  cases hv with
  | int i => exact iteT ⟨_, rfl, _, _, rfl, rfl, q⟩
  | bl i => exact iteF q
  | non => exact iteF q
  | str s => exact iteF q
  | lst h => exact iteF q
  | dic h => exact iteF q
  | tup h r => exact iteF q

/-! ### arguments_of, of what may be a part of a term -/
def spArgs (K : PySem.W.Frag) : Sp := fun vs H Q _ => ∃ v d, vs = [v] ∧ OdAt K H v d ∧ partD d = true ∧ ∀ p ws H', H p = none → Ex H H' → H' p = some (.tup ws) → OdAll K H' ws (argsD d) → Q (.ref p) H'
theorem ok_arguments_of (T : Tx K mg) : FnOk P w K mg base CX0 1 T.f_arguments_of T.d_arguments_of ["part"] (spArgs K) := by
  refine T.h_arguments_of.F.ok sc_arguments_of (fun vs H Q E h => ?_) (fun cdv A outer s H vs Q E hr h => ?_)
  · obtain ⟨v, t, rfl, _⟩ := h
    rfl
  obtain ⟨v, d, rfl, hv, hp, q⟩ := h
  have ty := ty_od hv
  refine ⟨_, (pss_one (ps_ret (pe_ifExp (pt_val (pe_callB call_isi rfl T.b_isinstance (by decide +kernel) (pa_cons (pv 0) (pa_cons (pe_bltn (v := .ty "tuple") (u := .type "tuple") rfl T.b_tuple (by decide +kernel) rfl) pa_nil)))) (pe_slice sl_tup (pv 0) (po_some pe_int) po_none) (pe_tup pa_nil)))), ?_⟩
  cases hv with
  | tup hT hA =>
    refine ⟨_, rfl, _, _, _, _, true, rfl, .ty "tuple", ty, kit_ty (a := "tuple") (by decide +kernel), true, rfl, iteT ?_⟩
    cases hA with
    | nil => cases hp
    | cons h r =>
      refine ⟨_, rfl, _, rfl, _, _, rfl, hT, cut1_ne _ _, fun p hp => ?_⟩
      rw [cut1]
      exact q p _ _ hp (Ex.new hp) upd_same (r.mono (Kind.of (Ex.new hp)))
  | int i => exact ⟨_, rfl, _, _, _, _, false, rfl, .ty "tuple", ty, kit_ty (a := "int") (by decide +kernel), false, rfl, iteF ⟨Nat.zero_le _, fun p hp => q p _ _ hp (Ex.new hp) upd_same .nil⟩⟩
  | bl i => exact ⟨_, rfl, _, _, _, _, false, rfl, .ty "tuple", ty, kit_ty (a := "bool") (by decide +kernel), false, rfl, iteF ⟨Nat.zero_le _, fun p hp => q p _ _ hp (Ex.new hp) upd_same .nil⟩⟩
  | non => exact ⟨_, rfl, _, _, _, _, false, rfl, .ty "tuple", ty, kit_ty (a := "NoneType") (by decide +kernel), false, rfl, iteF ⟨Nat.zero_le _, fun p hp => q p _ _ hp (Ex.new hp) upd_same .nil⟩⟩
  | str s => exact ⟨_, rfl, _, _, _, _, false, rfl, .ty "tuple", ty, kit_ty (a := "str") (by decide +kernel), false, rfl, iteF ⟨Nat.zero_le _, fun p hp => q p _ _ hp (Ex.new hp) upd_same .nil⟩⟩
  | lst h => exact ⟨_, rfl, _, _, _, _, false, rfl, .ty "tuple", ty, kit_ty (a := "list") (by decide +kernel), false, rfl, iteF ⟨Nat.zero_le _, fun p hp => q p _ _ hp (Ex.new hp) upd_same .nil⟩⟩
  | dic h => exact ⟨_, rfl, _, _, _, _, false, rfl, .ty "tuple", ty, kit_ty (a := "dict") (by decide +kernel), false, rfl, iteF ⟨Nat.zero_le _, fun p hp => q p _ _ hp (Ex.new hp) upd_same .nil⟩⟩

/-! ### is_variable, of a term -/
def isVar : Tm → Bool
  | .var _ => true
  | _ => false
def spIsVar (K : PySem.W.Frag) : Sp := fun vs H Q _ => ∃ v t, vs = [v] ∧ Rep K H t v ∧ Ok t ∧ Q (.bl (isVar t)) H
theorem dec_len {n m : Nat} : decide (V.int (n : Int) = V.int (m : Int)) = decide (n = m) := by
  by_cases h : n = m
  · subst h
    simp
  · rw [decide_eq_false h, decide_eq_false]
    intro z
    injection z with z
    omega
theorem ok_is_variable (T : Tx K mg) : FnOk P w K mg base CX0 1 T.f_is_variable T.d_is_variable ["part"] (spIsVar K) := by
  refine T.h_is_variable.F.ok sc_is_variable (fun vs H Q E h => ?_) (fun cdv A outer s H vs Q E hr h => ?_)
  · obtain ⟨v, t, rfl, _⟩ := h
    rfl
  obtain ⟨v, t, rfl, hR, hO, q⟩ := h
  refine ⟨_, (pss_one (ps_ret (pe_and (pe_callB call_isi rfl T.b_isinstance (by decide +kernel) (pa_cons (pv 0) (pa_cons (pe_bltn (v := .ty "tuple") (u := .type "tuple") rfl T.b_tuple (by decide +kernel) rfl) pa_nil))) (pe_one (pe_cmpR op_eq (pe_callB call_len_seq rfl T.b_len (by decide +kernel) (pa_cons (pv 0) pa_nil)) pe_int (nomark _)))))), ?_⟩
  cases t with
  | var k =>
    unfold Rep at hR
    obtain ⟨a, rfl, hT⟩ := hR
    refine ⟨_, rfl, _, _, _, _, true, rfl, .ty "tuple", tyx_tup hT, kit_ty (by decide +kernel), true, rfl, iteT ?_⟩
    exact ⟨_, rfl, a, _, rfl, .inr hT, rfl, q⟩
  | int i =>
    unfold Rep at hR
    subst hR
    exact ⟨_, rfl, _, _, _, _, false, rfl, .ty "tuple", .base (.int i), kit_ty (by decide +kernel), false, rfl, iteF q⟩
  | atom z =>
    unfold Rep at hR
    subst hR
    exact ⟨_, rfl, _, _, _, _, false, rfl, .ty "tuple", .base (.str z), kit_ty (by decide +kernel), false, rfl, iteF q⟩
  | comp f as =>
    unfold Rep at hR
    obtain ⟨a, ws, rfl, hT, hA⟩ := hR
    refine ⟨_, rfl, _, _, _, _, true, rfl, .ty "tuple", tyx_tup hT, kit_ty (by decide +kernel), true, rfl, iteT ?_⟩
    refine ⟨_, rfl, a, _, rfl, .inr hT, rfl, ?_⟩
    have hl := hA.len
    unfold Ok at hO
    have e : decide (V.int (((V.str f :: ws).length : Nat) : Int) = V.int 1) = false := by
      rw [show (V.int 1) = V.int ((1 : Nat) : Int) from rfl, dec_len, decide_eq_false]
      rw [List.length_cons]
      omega
    rw [e]
    exact q
end
end Hm

set_option Elab.async false
set_option linter.all false
set_option maxRecDepth 100000
set_option maxHeartbeats 4000000
namespace Hm
open PySem PySem.Spec PyProof.Rows L2 HT
open Evl (Ex)
section
variable {P : Program} {w : World} {K : PySem.W.Frag} {mg : Str → Option Value} {base : Heap}
theorem dec1 {n : Nat} : decide (V.int (n : Int) = V.int 1) = decide (n = 1) := dec_len (m := 1)
theorem at0 {α : Type} {x : α} {xs : List α} : atI (x :: xs) 0 = some x := atI_nat (j := 0) rfl
theorem ex_none {H H1 : Hp} {p : Addr} (e1 : Ex H H1) (hp : H1 p = none) : H p = none := by
  cases hq : H p with
  | none => rfl
  | some o => rw [e1 _ _ hq] at hp; cases hp
/-! ### _is_part -/
def spPart (K : PySem.W.Frag) : Sp := fun vs H Q _ => ∃ v d, vs = [v] ∧ OdAt K H v d ∧ sizeD d ≤ 60000 ∧ ∀ H', Ex H H' → Q (.bl (partD d)) H'
theorem ok_is_part (T : Tx K mg) : FnOk P w K mg base CX0 3 T.f_is_part T.d_is_part ["thing"] (spPart K) := by
  refine T.h_is_part.F.ok sc_is_part (fun vs H Q E h => ?_) (fun cdv A outer s H vs Q E hr h => ?_)
  · obtain ⟨v, t, rfl, _⟩ := h
    rfl
  obtain ⟨v, d, rfl, hv, hz, q⟩ := h
  obtain ⟨tk, hc_TOO_GREAT⟩ := T.c_TOO_GREAT
  obtain ⟨tk2, hc_MOST_ARGUMENTS⟩ := T.c_MOST_ARGUMENTS
  have ty := ty_od hv
  refine ⟨_, (pss_cons (ps_if (pt_not (pt_val (pe_callB call_isi rfl T.b_isinstance (by decide +kernel) (pa_cons (pv 0) (pa_cons (pe_bltn (v := .ty "tuple") (u := .type "tuple") rfl T.b_tuple (by decide +kernel) rfl) pa_nil)))))
      (pss_one (ps_ret (pe_or (cl (ok_is_atom T) T.h_is_atom hr (pa_cons (pv 0) pa_nil)) (pe_one (pe_and (cl (ok_is_integer T) T.h_is_integer hr (pa_cons (pv 0) pa_nil)) (pe_one (pe_chain op_lt op_lt (pe_un un_neg (pe_glob (v := .int tooGreat) rfl hc_TOO_GREAT ⟨_, rfl⟩)) (pv 0) (pe_glob (v := .int tooGreat) rfl hc_TOO_GREAT ⟨_, rfl⟩))))))))
      pss_nil)
    (pss_cons (ps_if (pt_cmpR op_eq (pe_callB call_len_seq rfl T.b_len (by decide +kernel) (pa_cons (pv 0) pa_nil)) pe_int (nomark _))
      (pss_one (ps_ret (cl (ok_is_number T) T.h_is_number hr (pa_cons (pe_ix ix_tup (pv 0) pe_int (fun _ _ => rfl)) pa_nil))))
      pss_nil)
    (pss_one (ps_ret (pe_and (pe_chain op_le op_le pe_int (pe_callB call_len_seq rfl T.b_len (by decide +kernel) (pa_cons (pv 0) pa_nil)) (pe_op op_add (pe_glob (v := .int 8) rfl hc_MOST_ARGUMENTS ⟨_, rfl⟩) pe_int)) (pe_one (cl (ok_is_atom T) T.h_is_atom hr (pa_cons (pe_ix ix_tup (pv 0) pe_int (fun _ _ => rfl)) pa_nil)))))))), ?_⟩
  cases hv with
  | int i =>
    refine ⟨_, rfl, _, _, _, _, false, rfl, .ty "tuple", ty, kit_ty (a := "int") (by decide +kernel), false, rfl, iteT ?_⟩
    refine ⟨_, rfl, _, _, rfl, .int i, hz, fun H1 e1 => ⟨false, rfl, iteF ⟨_, rfl, _, _, rfl, .int i, true, rfl, iteT ?_⟩⟩⟩
    refine ⟨tooGreat, rfl, _, rfl, _, _, rfl, rfl, _, rfl, ?_⟩
    have ep : partD (.int i) = (decide (-tooGreat < i) && decide (i < tooGreat)) := rfl
    rw [ep] at q
    by_cases c : -tooGreat < i
    · rw [decide_eq_true c] at q ⊢
      rw [Bool.true_and] at q
      exact iteT ⟨_, _, rfl, rfl, q _ e1⟩
    · rw [decide_eq_false c] at q ⊢
      exact iteF (q _ e1)
  | str s =>
    refine ⟨_, rfl, _, _, _, _, false, rfl, .ty "tuple", ty, kit_ty (a := "str") (by decide +kernel), false, rfl, iteT ?_⟩
    refine ⟨_, rfl, _, _, rfl, .str s, hz, fun H1 e1 => ⟨atomD (.str s), rfl, ?_⟩⟩
    have ep : partD (.str s) = atomD (.str s) := rfl
    rw [ep] at q
    cases e : atomD (.str s) with
    | true =>
      rw [e] at q
      exact iteT (q _ e1)
    | false =>
      rw [e] at q
      exact iteF ⟨_, rfl, _, _, rfl, .str s, false, rfl, iteF (q _ e1)⟩
  | bl b =>
    refine ⟨_, rfl, _, _, _, _, false, rfl, .ty "tuple", ty, kit_ty (a := "bool") (by decide +kernel), false, rfl, iteT ?_⟩
    exact ⟨_, rfl, _, _, rfl, .bl b, hz, fun H1 e1 => ⟨false, rfl, iteF ⟨_, rfl, _, _, rfl, .bl b, false, rfl, iteF (q _ e1)⟩⟩⟩
  | non =>
    refine ⟨_, rfl, _, _, _, _, false, rfl, .ty "tuple", ty, kit_ty (a := "NoneType") (by decide +kernel), false, rfl, iteT ?_⟩
    exact ⟨_, rfl, _, _, rfl, .non, hz, fun H1 e1 => ⟨false, rfl, iteF ⟨_, rfl, _, _, rfl, .non, false, rfl, iteF (q _ e1)⟩⟩⟩
  | lst h =>
    refine ⟨_, rfl, _, _, _, _, false, rfl, .ty "tuple", ty, kit_ty (a := "list") (by decide +kernel), false, rfl, iteT ?_⟩
    exact ⟨_, rfl, _, _, rfl, .lst h, hz, fun H1 e1 => ⟨false, rfl, iteF ⟨_, rfl, _, _, rfl, .lst (Evl.ex_l e1 h), false, rfl, iteF (q _ e1)⟩⟩⟩
  | dic h =>
    refine ⟨_, rfl, _, _, _, _, false, rfl, .ty "tuple", ty, kit_ty (a := "dict") (by decide +kernel), false, rfl, iteT ?_⟩
    exact ⟨_, rfl, _, _, rfl, .dic h, hz, fun H1 e1 => ⟨false, rfl, iteF ⟨_, rfl, _, _, rfl, .dic (e1 _ _ h), false, rfl, iteF (q _ e1)⟩⟩⟩
  | @tup a xs ds hT hA =>
    refine ⟨_, rfl, _, _, _, _, true, rfl, .ty "tuple", ty, kit_ty (a := "tuple") (by decide +kernel), true, rfl, iteF ?_⟩
    refine ⟨_, rfl, a, _, rfl, .inr hT, rfl, _, rfl, ?_⟩
    rw [dec1]
    cases hA with
    | nil =>
      rw [decide_eq_false (by decide)]
      exact iteF ⟨_, rfl, a, _, rfl, .inr hT, _, _, rfl, rfl, _, rfl, iteF ⟨_, rfl, iteF (q _ (Ex.refl _))⟩⟩
    | @cons x ws dx dw hx hw =>
      cases hw with
      | nil =>
        rw [decide_eq_true (show [x].length = 1 from rfl)]
        exact iteT ⟨_, rfl, a, _, 0, _, rfl, rfl, hT, at0, _, _, rfl, hx, q _ (Ex.refl _)⟩
      | @cons y vs dy ds hy hr =>
        have hl := hr.len
        have sx : sizeD dx ≤ 60000 := Nat.le_trans (by rw [sizeD, sizesD]; omega) hz
        rw [decide_eq_false (by rw [List.length_cons, List.length_cons]; omega)]
        refine iteF ⟨_, rfl, a, _, rfl, .inr hT, _, _, rfl, rfl, _, rfl, ?_⟩
        rw [decide_eq_true (show (2 : Int) ≤ (((x :: y :: vs).length : Nat) : Int) by rw [List.length_cons, List.length_cons]; omega)]
        refine iteT ⟨_, _, rfl, rfl, _, _, rfl, rfl, _, rfl, ?_⟩
        have ep : partD (.tup (dx :: dy :: ds)) = (decide (ds.length ≤ 7) && atomD dx) := rfl
        rw [ep] at q
        by_cases c : ds.length ≤ 7
        · rw [decide_eq_true (show (((x :: y :: vs).length : Nat) : Int) ≤ (8 : Int) + 1 by rw [List.length_cons, List.length_cons]; omega)]
          rw [decide_eq_true c, Bool.true_and] at q
          exact iteT ⟨_, rfl, a, _, 0, _, rfl, rfl, hT, at0, _, _, rfl, hx, sx, q⟩
        · rw [decide_eq_false (show ¬ (((x :: y :: vs).length : Nat) : Int) ≤ (8 : Int) + 1 by rw [List.length_cons, List.length_cons]; omega)]
          rw [decide_eq_false c, Bool.false_and] at q
          exact iteF (q _ (Ex.refl _))

/-! ### is_term, demand_term -/
theorem list_end {α : Type} (l : List α) : l = [] ∨ ∃ r x, l = r ++ [x] := by
  cases h : l.reverse with
  | nil => exact .inl (by simpa using h)
  | cons x r =>
    refine .inr ⟨r.reverse, x, ?_⟩
    have := congrArg List.reverse h
    simpa using this
theorem last_app {α : Type} (r : List α) (x : α) : (r ++ [x])[(r ++ [x]).length - 1]? = some x := by simp
theorem drop_app {α : Type} (r : List α) (x : α) : (r ++ [x]).dropLast = r := by simp
def spIsT (K : PySem.W.Frag) : Sp := fun vs H Q _ => ∃ v d, vs = [v] ∧ OdAt K H v d ∧ sizeD d ≤ 60000 ∧ ∀ H', Ex H H' → Q (.bl (isT d)) H'
theorem ok_is_term (T : Tx K mg) : FnOk P w K mg base CX0 4 T.f_is_term T.d_is_term ["thing"] (spIsT K) := by
  refine T.h_is_term.F.ok sc_is_term (fun vs H Q E h => ?_) (fun cdv A outer s H vs Q E hr h => ?_)
  · obtain ⟨v, t, rfl, _⟩ := h
    rfl
  obtain ⟨v, d, rfl, hv, hz, q⟩ := h
  refine ⟨_, (pss_cons (ps_set (i := 1) sc_is_term.nd rfl (Or.inl rfl) (pe_lst (pa_cons (pv 0) pa_nil)))
    (pss_cons (ps_while PassesOwn.never (pt_truth (pv 1) (by intro _; rfl))
      (pss_cons (ps_set (i := 2) sc_is_term.nd rfl (Or.inl rfl) (pe_bm0 PySem.F.plainAttrs_list PySem.F.slot_list_pop PySem.F.type_list_pop mt_pop (pv 1)))
    (pss_cons (ps_if (pt_not (pt_val (cl (ok_is_part T) T.h_is_part hr (pa_cons (pv 2) pa_nil))))
      (pss_one (ps_ret pe_bl))
      pss_nil)
    (pss_one (ps_expr (pe_bm PySem.F.plainAttrs_list PySem.F.slot_list_extend PySem.F.type_list_extend mt_extT (pv 1) (pa_cons (cl (ok_arguments_of T) T.h_arguments_of hr (pa_cons (pv 2) pa_nil)) pa_nil)))))))
    (pss_one (ps_ret pe_bl)))), ?_⟩
  refine ⟨_, rfl, (by show 1 ≤ sizeLine; decide), fun l hl => ?_⟩
  refine ⟨fun m σ' H' => ∃ x ds ws, σ' = [some v, some (.ref l), x] ∧ Ex H H' ∧ H' l = some (.lst ws) ∧ OdAll K H' ws ds ∧ isTs ds = isT d ∧ sizesD ds = m ∧ m ≤ 60000,
    ⟨sizeD d, none, [d], [v], rfl, Ex.new hl, upd_same, .cons (hv.mono (Kind.of (Ex.new hl))) .nil, Bool.and_true _, rfl, hz⟩, ?_⟩
  rintro m σ' H' ⟨x, ds, ws, rfl, e1, hL, hRs, hT, rfl, hm⟩
  refine ⟨_, rfl, _, .inl ⟨ws, SqL.of hL, rfl⟩, ?_⟩
  rcases list_end ds with rfl | ⟨ds, d', rfl⟩
  · cases hRs
    have e : isT d = true := hT.symm
    rw [e] at q
    exact iteF (q _ e1)
  · obtain ⟨ws, v', rfl, hR1, hR2⟩ := hRs.last
    have hne : (!(ws ++ [v']).isEmpty) = true := by simp
    rw [hne]
    rw [isTs_app, isTs_cons, isTs_nil, Bool.and_true] at hT
    rw [sizesD_app] at hm ⊢
    have hs1 : sizesD [d'] = sizeD d' := by rw [sizesD, sizesD, Nat.add_zero]
    rw [hs1] at hm ⊢
    refine iteT ⟨fun σ2 H2 => ∃ m', m' < sizesD ds + sizeD d' ∧ ∃ x ds ws, σ2 = [some v, some (.ref l), x] ∧ Ex H H2 ∧ H2 l = some (.lst ws) ∧ OdAll K H2 ws ds ∧ isTs ds = isT d ∧ sizesD ds = m' ∧ m' ≤ 60000, fun _ _ h => h, ?_⟩
    refine ⟨_, rfl, .inl ⟨rfl, _, SqL.of hL⟩, l, _, v', rfl, rfl, hL, last_app _ _, ?_⟩
    rw [drop_app]
    have t1 : Kind K H' (upd H' l (.lst ws)) := Kind.lst hL
    refine ⟨_, rfl, v', d', rfl, hR2.mono t1, by omega, fun H2 e2 => ⟨partD d', rfl, ?_⟩⟩
    have hL2 : H2 l = some (.lst ws) := e2 l _ upd_same
    have e4 : Ex H (upd H' l (.lst ws)) := Ex.mut e1 hl
    rw [isT_eq d'] at hT
    cases hp : partD d' with
    | false =>
      rw [hp, Bool.false_and, Bool.and_false] at hT
      rw [← hT] at q
      exact iteT (q _ (e4.trans e2))
    | true =>
      rw [hp, Bool.true_and] at hT
      refine iteF ⟨_, rfl, .inl ⟨rfl, _, SqL.of hL2⟩, _, rfl, v', d', rfl, (hR2.mono t1).mono (Kind.of e2), hp, fun p us H3 hp3 e3 hU hUs => ?_⟩
      have hL3 : H3 l = some (.lst ws) := e3 l _ hL2
      have hlen := hR1.len
      have hlen2 := hUs.len
      have z1 := len_sizesD ds
      have z2 := len_sizesD (argsD d')
      have z3 := sizeD_args d'
      refine ⟨l, p, ws, us, rfl, rfl, hL3, SqT.of hU, small5 (by omega), sizesD (ds ++ argsD d'), ?_, _, ds ++ argsD d', ws ++ us, rfl, ?_, upd_same, ?_, ?_, rfl, ?_⟩
      · rw [sizesD_app]
        omega
      · exact Ex.mut ((e4.trans e2).trans e3) hl
      · have t3 : Kind K (upd H' l (.lst ws)) (upd H3 l (.lst (ws ++ us))) := ((Kind.of e2).trans (Kind.of e3)).trans (Kind.lst hL3)
        exact ((hR1.mono t1).mono t3).app (hUs.mono (Kind.lst hL3))
      · rw [isTs_app]
        exact hT
      · rw [sizesD_app]
        omega
theorem ok_bad_init (T : Tx K mg) : FnOk P w K mg base CX0 1 T.i_Bad T.d_Bad ["self", "term"] (RG.spIni T.a_Bad "term") := by
  refine T.F_Bad.ok sc_BadTerm_init (fun vs H Q E h => ?_) (fun cdv A outer s H vs Q E hr h => ?_)
  · obtain ⟨a, v, rfl, _⟩ := h
    rfl
  obtain ⟨a, v, rfl, ha, q⟩ := h
  refine ⟨_, (pss_cons (ps_expr (RG.pe_hinit T.e_Horn rfl (pa_cons (pv 0) (pa_cons pe_str pa_nil)))) (pss_one (ps_ost (pv 0) (pv 1)))), ?_⟩
  refine ⟨_, rfl, a, _, [.str "no term"], rfl, by decide, T.e_Bad.oex, ha, _, rfl, _, rfl, a, _, rfl, T.e_Bad.oex, T.e_Bad.noF, .inl ⟨ha, fun d hd ne => q d hd ne⟩⟩
def spDem (K : PySem.W.Frag) (C : Addr) : Sp := fun vs H Q E => ∃ v d, vs = [v] ∧ OdAt K H v d ∧ sizeD d ≤ 60000 ∧ (isT d = true → ∀ u H', Ex H H' → Q u H') ∧ (isT d = false → RG.Comes C "term" v H E)
theorem ok_demand_term (T : Tx K mg) : FnOk P w K mg base (L2.CX P w) 5 T.f_demand_term T.d_demand_term ["term"] (spDem K T.a_Bad) := by
  refine T.h_demand_term.F.okX sc_demand_term (fun vs H Q E h => ?_) (fun cdv A outer s H vs Q E hr h => ?_)
  · obtain ⟨v, t, rfl, _⟩ := h
    rfl
  obtain ⟨v, d, rfl, hv, hz, q, e⟩ := h
  refine ⟨_, (pss_one (ps_if (pt_not (pt_val (cl (ok_is_term T) T.h_is_term hr (pa_cons (pv 0) pa_nil))))
      (pss_one (ps_raise rfl (takes_of rfl rfl rfl rfl) (pmk_oex T.e_Bad.oex T.e_Bad.iC T.e_Bad.tI (ok_bad_init T) (hr.mono (by decide)) T.b_Bad .nil pass0 rfl T.e_Bad.at_ (pa_cons (pv 0) pa_nil))))
      pss_nil)), ?_⟩
  refine ⟨_, rfl, v, d, rfl, hv, hz, fun H' e1 => ⟨isT d, rfl, ?_⟩⟩
  cases c : isT d with
  | true => exact iteF (q c _ _ e1)
  | false => exact iteT ⟨_, rfl, RG.made_err fun dd H2 h1 e2 h2 => e c dd H2 (ex_none e1 h1) (e1.trans e2) h2⟩
end
end Hm

set_option Elab.async false
set_option linter.all false
set_option maxRecDepth 100000
set_option maxHeartbeats 4000000
namespace Hm
open PySem PySem.Spec PyProof.Rows L2 HT
open Evl (Ex)
section
variable {P : Program} {w : World} {K : PySem.W.Frag} {mg : Str → Option Value} {base : Heap}

def spArgsT (K : PySem.W.Frag) : Sp := fun vs H Q _ => ∃ v t, vs = [v] ∧ Rep K H t v ∧ ∀ p ws H', H p = none → Ex H H' → H' p = some (.tup ws) → Reps K H' t.args ws → Q (.ref p) H'
theorem ok_arguments_t (T : Tx K mg) : FnOk P w K mg base CX0 1 T.f_arguments_of T.d_arguments_of ["part"] (spArgsT K) := by
  refine T.h_arguments_of.F.ok sc_arguments_of (fun vs H Q E h => ?_) (fun cdv A outer s H vs Q E hr h => ?_)
  · obtain ⟨v, t, rfl, _⟩ := h
    rfl
  obtain ⟨v, t, rfl, hR, q⟩ := h
  refine ⟨_, (pss_one (ps_ret (pe_ifExp (pt_val (pe_callB call_isi rfl T.b_isinstance (by decide +kernel) (pa_cons (pv 0) (pa_cons (pe_bltn (v := .ty "tuple") (u := .type "tuple") rfl T.b_tuple (by decide +kernel) rfl) pa_nil)))) (pe_slice sl_tup (pv 0) (po_some pe_int) po_none) (pe_tup pa_nil)))), ?_⟩
  cases t with
  | var k =>
    unfold Rep at hR
    obtain ⟨a, rfl, hT⟩ := hR
    refine ⟨_, rfl, _, _, _, _, true, rfl, .ty "tuple", tyx_tup hT, kit_ty (by decide +kernel), true, rfl, iteT ?_⟩
    refine ⟨_, rfl, _, rfl, a, _, rfl, hT, cut1_ne _ _, fun p hp => ?_⟩
    rw [cut1]
    exact q p _ _ hp (Ex.new hp) upd_same Reps.nil
  | int i =>
    unfold Rep at hR
    subst hR
    refine ⟨_, rfl, _, _, _, _, false, rfl, .ty "tuple", .base (.int i), kit_ty (by decide +kernel), false, rfl, iteF ?_⟩
    exact ⟨Nat.zero_le _, fun p hp => q p _ _ hp (Ex.new hp) upd_same Reps.nil⟩
  | atom z =>
    unfold Rep at hR
    subst hR
    refine ⟨_, rfl, _, _, _, _, false, rfl, .ty "tuple", .base (.str z), kit_ty (by decide +kernel), false, rfl, iteF ?_⟩
    exact ⟨Nat.zero_le _, fun p hp => q p _ _ hp (Ex.new hp) upd_same Reps.nil⟩
  | comp f as =>
    unfold Rep at hR
    obtain ⟨a, ws, rfl, hT, hA⟩ := hR
    refine ⟨_, rfl, _, _, _, _, true, rfl, .ty "tuple", tyx_tup hT, kit_ty (by decide +kernel), true, rfl, iteT ?_⟩
    refine ⟨_, rfl, _, rfl, a, _, rfl, hT, cut1_ne _ _, fun p hp => ?_⟩
    rw [cut1]
    exact q p ws _ hp (Ex.new hp) upd_same (hA.mono (Tups.of (Ex.new hp)))

/-! ### is_variable, of a term -/
/-! ### parts_of -/
def spParts (K : PySem.W.Frag) : Sp := fun vs H Q _ => ∃ v t, vs = [v] ∧ Rep K H t v ∧ size t ≤ 50000 ∧ ∀ p ws H', H p = none → Ex H H' → H' p = some (.lst ws) → Reps K H' (pre t) ws → Q (.ref p) H'
theorem ok_parts_of (T : Tx K mg) : FnOk P w K mg base CX0 2 T.f_parts_of T.d_parts_of ["term"] (spParts K) := by
  refine T.h_parts_of.F.ok sc_parts_of (fun vs H Q E h => ?_) (fun cdv A outer s H vs Q E hr h => ?_)
  · obtain ⟨v, t, rfl, _⟩ := h
    rfl
  obtain ⟨v, t, rfl, hR, hz, q⟩ := h
  refine ⟨_, (pss_cons (ps_set (i := 1) sc_parts_of.nd rfl (Or.inl rfl) (pe_lst pa_nil))
    (pss_cons (ps_set (i := 2) sc_parts_of.nd rfl (Or.inl rfl) (pe_lst (pa_cons (pv 0) pa_nil)))
    (pss_cons (ps_while PassesOwn.never (pt_truth (pv 2) (by intro _; rfl))
      (pss_cons (ps_set (i := 3) sc_parts_of.nd rfl (Or.inl rfl) (pe_bm0 PySem.F.plainAttrs_list PySem.F.slot_list_pop PySem.F.type_list_pop mt_pop (pv 2)))
    (pss_cons (ps_expr (pe_bm PySem.F.plainAttrs_list PySem.F.slot_list_append PySem.F.type_list_append mt_append (pv 1) (pa_cons (pv 3) pa_nil)))
    (pss_one (ps_expr (pe_bm PySem.F.plainAttrs_list PySem.F.slot_list_extend PySem.F.type_list_extend mt_extT (pv 2) (pa_cons (pe_revT (cl (ok_arguments_t T) T.h_arguments_of hr (pa_cons (pv 3) pa_nil))) pa_nil)))))))
    (pss_one (ps_ret (pv 1)))))), ?_⟩
  refine ⟨Nat.zero_le _, fun f hf => ?_⟩
  refine ⟨_, rfl, (by show 1 ≤ sizeLine; decide), fun l hl' => ?_⟩
  have hfl : f ≠ l := by
    intro e
    subst e
    rw [upd_same] at hl'
    cases hl'
  have hl : H l = none := by
    rw [upd_ne hfl.symm] at hl'
    exact hl'
  have e0 : Ex H (upd (upd H f (.lst [])) l (.lst [v])) := (Ex.new hf).trans (Ex.new hl')
  refine ⟨fun m σ' H' => ∃ x ts ws ds us, σ' = [some v, some (.ref f), some (.ref l), x] ∧ Ex H H' ∧ H' l = some (.lst ws) ∧ Reps K H' ts ws ∧ H' f = some (.lst us) ∧ Reps K H' ds us ∧ ds ++ pres ts.reverse = pre t ∧ sizes ts = m ∧ sizes ts + ds.length ≤ 50000,
    ⟨size t, none, [t], [v], [], [], rfl, e0, upd_same, Reps.one (hR.mono (Tups.of e0)), (by rw [upd_ne hfl, upd_same]), Reps.nil, ?_, sizes_one t, ?_⟩, ?_⟩
  · show pres [t] = pre t
    rw [pres_cons]
    unfold pres
    rw [List.append_nil]
  · rw [sizes_one]
    exact hz
  rintro m σ' H' ⟨x, ts, ws, ds, us, rfl, e1, hL, hRs, hF, hDs, hpre, rfl, hm⟩
  refine ⟨_, rfl, _, .inl ⟨ws, SqL.of hL, rfl⟩, ?_⟩
  rcases list_end ts with rfl | ⟨ts, t', rfl⟩
  · rw [hRs.nil_inv]
    refine iteF ⟨_, rfl, q f us _ hf e1 hF ?_⟩
    rw [← hpre]
    show Reps K H' (ds ++ pres []) us
    unfold pres
    rw [List.append_nil]
    exact hDs
  · obtain ⟨ws, v', rfl, hR1, hR2⟩ := hRs.last
    have hne : (!(ws ++ [v']).isEmpty) = true := by simp
    rw [hne]
    rw [sizes_app, sizes_one] at hm ⊢
    refine iteT ⟨fun σ2 H2 => ∃ m', m' < sizes ts + size t' ∧ ∃ x ts ws ds us, σ2 = [some v, some (.ref f), some (.ref l), x] ∧ Ex H H2 ∧ H2 l = some (.lst ws) ∧ Reps K H2 ts ws ∧ H2 f = some (.lst us) ∧ Reps K H2 ds us ∧ ds ++ pres ts.reverse = pre t ∧ sizes ts = m' ∧ sizes ts + ds.length ≤ 50000, fun _ _ h => h, ?_⟩
    refine ⟨_, rfl, .inl ⟨rfl, _, SqL.of hL⟩, l, _, v', rfl, rfl, hL, last_app _ _, ?_⟩
    rw [drop_app]
    have t1 : Tups K H' (upd H' l (.lst ws)) := Tups.lst hL
    have hF1 : (upd H' l (.lst ws)) f = some (.lst us) := by rw [upd_ne hfl]; exact hF
    have z0 := hDs.len
    have z4 := size_pos t'
    refine ⟨_, rfl, .inl ⟨rfl, _, SqL.of hF1⟩, _, rfl, f, us, v', rfl, rfl, hF1, small5' (by omega), ?_⟩
    have t2 : Tups K (upd H' l (.lst ws)) (upd (upd H' l (.lst ws)) f (.lst (us ++ [v']))) := Tups.lst hF1
    have hL2 : (upd (upd H' l (.lst ws)) f (.lst (us ++ [v']))) l = some (.lst ws) := by rw [upd_ne hfl.symm, upd_same]
    refine ⟨_, rfl, .inl ⟨rfl, _, SqL.of hL2⟩, _, rfl, v', t', rfl, (hR2.mono t1).mono t2, fun p ys H3 hp e3 hU hUs => ?_⟩
    refine ⟨p, ys, rfl, SqT.of hU, fun p' hp' => ?_⟩
    have e4 := Ex.new (o := HO.tup ys.reverse) hp'
    have hL4 : (upd H3 p' (.tup ys.reverse)) l = some (.lst ws) := e4 l _ (e3 l _ hL2)
    have hF4 : (upd H3 p' (.tup ys.reverse)) f = some (.lst (us ++ [v'])) := e4 f _ (e3 f _ upd_same)
    have hlen := hR1.len
    have hlen2 := hUs.len
    have z1 := len_sizes ts
    have z2 := len_sizes t'.args
    have z3 := size_eq t'
    refine ⟨l, p', ws, ys.reverse, rfl, rfl, hL4, SqT.of upd_same, small5 (by rw [List.length_reverse]; omega), sizes (ts ++ t'.args.reverse), ?_, _, ts ++ t'.args.reverse, ws ++ ys.reverse, ds ++ [t'], us ++ [v'], rfl, ?_, upd_same, ?_, ?_, ?_, ?_, rfl, ?_⟩
    · rw [sizes_app, sizes_rev]
      omega
    · have e5 : Ex H (upd (upd H' l (.lst ws)) f (.lst (us ++ [v']))) := Ex.mut (Ex.mut e1 hl) hf
      exact Ex.mut ((e5.trans e3).trans e4) hl
    · have t3 := ((Tups.of (K := K) e3).trans (Tups.of e4)).trans (Tups.lst (o := HO.lst (ws ++ ys.reverse)) hL4)
      exact Reps.app (((hR1.mono t1).mono t2).mono t3) ((hUs.rev.mono (Tups.of e4)).mono (Tups.lst hL4))
    · rw [upd_ne hfl]
      exact hF4
    · have t3 := ((Tups.of (K := K) e3).trans (Tups.of e4)).trans (Tups.lst (o := HO.lst (ws ++ ys.reverse)) hL4)
      exact Reps.app (((hDs.mono t1).mono t2).mono t3) (Reps.one (((hR2.mono t1).mono t2).mono t3))
    · rw [← hpre, List.reverse_append, List.reverse_append, List.reverse_reverse, pres_app, List.append_assoc]
      show ds ++ ([t'] ++ (pres t'.args ++ pres ts.reverse)) = ds ++ pres (t' :: ts.reverse)
      rw [pres_cons, pre_eq t']
      simp
    · rw [sizes_app, sizes_rev, List.length_append, List.length_singleton]
      omega
end
end Hm

set_option Elab.async false
set_option linter.all false
set_option maxRecDepth 100000
set_option maxHeartbeats 4000000
namespace Hm
open PySem PySem.Spec PyProof.Rows L2 HT
open Evl (Ex)
/-! ### rows in a heap -/
def RwRep (K : PySem.W.Frag) (H : Hp) : Rw → V → Prop
  | .leaf t, v => ∃ a u, v = .ref a ∧ SqT K H a [u, .int 0] ∧ Rep K H t u
  | .node f n, v => ∃ a, v = .ref a ∧ SqT K H a [.str f, .int (n : Int)]
def RwReps (K : PySem.W.Frag) (H : Hp) : List Rw → List V → Prop
  | [], vs => vs = []
  | r :: rs, vs => ∃ v ws, vs = v :: ws ∧ RwRep K H r v ∧ RwReps K H rs ws
section
variable {K : PySem.W.Frag} {H H' : Hp}
theorem RwRep.mono (e : Tups K H H') {r : Rw} {v : V} (h : RwRep K H r v) : RwRep K H' r v := by
  cases r with
  | leaf t =>
    obtain ⟨a, u, e1, q, r⟩ := h
    exact ⟨a, u, e1, e _ _ q, r.mono e⟩
  | node f n =>
    obtain ⟨a, e1, q⟩ := h
    exact ⟨a, e1, e _ _ q⟩
theorem RwReps.mono (e : Tups K H H') : ∀ {rs : List Rw} {vs : List V}, RwReps K H rs vs → RwReps K H' rs vs
  | [], _, h => h
  | _ :: _, _, ⟨v, ws, e1, q, r⟩ => ⟨v, ws, e1, q.mono e, RwReps.mono e r⟩
theorem RwReps.len : ∀ {rs : List Rw} {vs : List V}, RwReps K H rs vs → rs.length = vs.length
  | [], _, h => by
    rw [show _ = [] from h]
    rfl
  | _ :: _, _, ⟨v, ws, e1, q, r⟩ => by rw [e1, List.length_cons, List.length_cons, RwReps.len r]
theorem RwReps.app : ∀ {rs us : List Rw} {vs ws : List V}, RwReps K H rs vs → RwReps K H us ws → RwReps K H (rs ++ us) (vs ++ ws)
  | [], _, _, _, h, r => by
    rw [show _ = [] from h]
    exact r
  | _ :: _, _, _, ys, ⟨v, ws, e1, q, s⟩, r => ⟨v, ws ++ ys, by rw [e1]; rfl, q, RwReps.app s r⟩
theorem RwReps.get : ∀ {rs : List Rw} {vs : List V} {i : Nat} {v : V}, RwReps K H rs vs → vs[i]? = some v → ∃ r, rs[i]? = some r ∧ RwRep K H r v
  | [], _, i, _, h, e => by
    rw [show _ = [] from h] at e
    simp at e
  | r :: rs, _, 0, x, ⟨v, ws, e1, q, s⟩, e => by
    rw [e1] at e
    have e2 : v = x := by simpa using e
    subst e2
    exact ⟨r, rfl, q⟩
  | r :: rs, _, i + 1, _, ⟨v, ws, e1, q, s⟩, e => by
    rw [e1] at e
    obtain ⟨u, h1, h2⟩ := RwReps.get (i := i) s (by simpa using e)
    exact ⟨u, by simpa using h1, h2⟩
end
theorem fold_turn_len : ∀ (rs : List Rw) (D : List Tm), (rs.foldr turn D).length ≤ D.length + rs.length
  | [], _ => Nat.le_refl _
  | r :: rs, D => by
    have ih := fold_turn_len rs D
    rw [List.foldr_cons, List.length_cons]
    cases r with
    | leaf t =>
      show (rs.foldr turn D ++ [t]).length ≤ _
      rw [List.length_append, List.length_singleton]
      omega
    | node f n =>
      show ((rs.foldr turn D).take _ ++ [Tm.comp f _]).length ≤ _
      rw [List.length_append, List.length_singleton, List.length_take]
      omega
theorem rooms_drop {rs : List Rw} {D : List Tm} : ∀ (k : Nat), Rooms rs D → Rooms (rs.drop k) D := by
  induction rs with
  | nil => intro k h; rw [List.drop_nil]; exact h
  | cons r rs ih =>
    intro k h
    cases k with
    | zero => exact h
    | succ k =>
      rw [rooms_cons] at h
      rw [List.drop_succ_cons]
      exact ih k h.1
section
variable {P : Program} {w : World} {K : PySem.W.Frag} {mg : Str → Option Value} {base : Heap}
def spFolded (K : PySem.W.Frag) : Sp := fun vs H Q _ => ∃ r rows us t, vs = [.ref r] ∧ SqL K H r us ∧ RwReps K H rows us ∧ rows.foldr turn [] = [t] ∧ Rooms rows [] ∧ rows.length ≤ 50000 ∧ ∀ v H', Ex H H' → Rep K H' t v → Q v H'
theorem ok_folded (T : Tx K mg) : FnOk P w K mg base CX0 1 T.f_folded T.d_folded ["row"] (spFolded K) := by
  refine T.h_folded.F.ok sc_folded (fun vs H Q E h => ?_) (fun cdv A outer s H vs Q E hr h => ?_)
  · obtain ⟨v, t, _, _, rfl, _⟩ := h
    rfl
  obtain ⟨r, rows, us, t, rfl, hS, hRw, hfold, hrooms, hz, q⟩ := h
  refine ⟨_, (pss_cons (ps_set (i := 1) sc_folded.nd rfl (Or.inl rfl) (pe_lst pa_nil))
    (pss_cons (ps_for PassesOwn.never rfl (pi_reversed rfl T.b_reversed (pa_cons (pv 0) pa_nil)) (pg_tup rfl (pgs_cons (pg_name (i := 2) sc_folded.nd rfl (Or.inl rfl)) (pgs_cons (pg_name (i := 3) sc_folded.nd rfl (Or.inl rfl)) pgs_nil)))
      (pss_one (ps_if (pt_cmpR op_eq (pv 3) pe_int (nomark _))
      (pss_one (ps_expr (pe_bm PySem.F.plainAttrs_list PySem.F.slot_list_append PySem.F.type_list_append mt_append (pv 1) (pa_cons (pv 2) pa_nil))))
      (pss_cons (ps_set (i := 4) sc_folded.nd rfl (Or.inl rfl) (pe_backL (pv 1) (pe_op op_sub (pe_un un_neg (pv 3)) pe_int)))
    (pss_cons (ps_delTail (pv 1) (pe_un un_neg (pv 3)))
    (pss_one (ps_expr (pe_bm PySem.F.plainAttrs_list PySem.F.slot_list_append PySem.F.type_list_append mt_append (pv 1) (pa_cons (pe_tup (pa_cons (pv 2) (StX.pa_star (pv 4) pa_nil))) pa_nil)))))))))
    (pss_one (ps_ret (pe_ix ix_list (pv 1) pe_int (fun _ _ => rfl)))))), ?_⟩
  refine ⟨Nat.zero_le _, fun d hd => ?_⟩
  have e0 : Ex H (upd H d (.lst [])) := Ex.new hd
  have hlen := hRw.len
  refine ⟨_, rfl, r, us, rfl, Evl.ex_l e0 hS, for_it walk_rev (fun i σ' H' => ∃ x2 x3 x4 ws, σ' = [some (.ref r), some (.ref d), x2, x3, x4] ∧ Ex H H' ∧ H' d = some (.lst ws) ∧ Reps K H' ((rows.drop (rows.length - i)).foldr turn []) ws)
    ⟨none, none, none, [], rfl, e0, upd_same, ?_⟩ ?_ ?_ ?_⟩
  · rw [Nat.sub_zero, List.drop_length]
    exact Reps.nil
  · rintro i σ' H' _ ⟨_, _, _, _, _, e1, _⟩
    exact Evl.ex_l e1 hS
  · rintro i x σ' H' H2 hi ⟨x2, x3, x4, ws, rfl, e1, hD, hR⟩ ⟨rfl, hx⟩
    have hRw' := hRw.mono (Tups.of e1)
    obtain ⟨rr, hrr, hrep⟩ := hRw'.get hx
    rw [← hlen] at hrr hi
    have hdrop : rows.drop (rows.length - (i + 1)) = rr :: rows.drop (rows.length - i) := by
      have h1 : rows.length - (i + 1) = rows.length - 1 - i := by omega
      have h2 : rows.length - i = (rows.length - 1 - i) + 1 := by omega
      obtain ⟨hlt, he⟩ := List.getElem?_eq_some_iff.mp hrr
      rw [h1, h2, List.drop_eq_getElem_cons hlt, he]
    have hroom := rooms_drop (rows.length - (i + 1)) hrooms
    rw [hdrop, rooms_cons] at hroom
    have hDl := fold_turn_len (rows.drop (rows.length - i)) []
    have hl1 := hR.len
    rw [List.length_drop, List.length_nil] at hDl
    rw [hdrop, List.foldr_cons]
    generalize hDD : (rows.drop (rows.length - i)).foldr turn [] = DD at *
    cases rr with
    | leaf tt =>
      obtain ⟨a, u, rfl, hT, hu⟩ := hrep
      refine ⟨a, _, rfl, hT, rfl, u, _, rfl, .int 0, _, rfl, rfl, _, rfl, rfl, _, rfl, iteT ?_⟩
      refine ⟨_, rfl, .inl ⟨rfl, _, SqL.of hD⟩, _, rfl, d, ws, u, rfl, rfl, hD, small5' (by omega), _, _, _, _, rfl, Ex.mut e1 hd, upd_same, ?_⟩
      have t1 : Tups K H2 (upd H2 d (.lst (ws ++ [u]))) := Tups.lst hD
      exact Reps.app (hR.mono t1) (Reps.one (hu.mono t1))
    | node f n =>
      obtain ⟨a, rfl, hT⟩ := hrep
      obtain ⟨n1, n2⟩ := hroom.2
      refine ⟨a, _, rfl, hT, rfl, .str f, _, rfl, .int (n : Int), _, rfl, rfl, _, rfl, rfl, _, rfl, ?_⟩
      have hne : decide (V.int (n : Int) = V.int 0) = false := by
        rw [show (V.int 0) = V.int ((0 : Nat) : Int) from rfl, dec_len, decide_eq_false]
        omega
      rw [hne]
      refine iteF ?_
      refine ⟨_, rfl, ⟨_, rfl, _, rfl, _, _, rfl, rfl, _, rfl, d, ws, n, rfl, rfl, SqL.of hD, (by omega), fun p hp => ?_⟩⟩
      have hpd : d ≠ p := ne_of_none hD hp
      have e2 := Ex.new (o := HO.lst (ws.drop (ws.length - n)).reverse) hp
      have hD2 := e2 d _ hD
      refine ⟨_, rfl, ⟨_, rfl, _, rfl, _, rfl, d, ws, n, rfl, rfl, hD2, n1, (by omega), ?_⟩⟩
      have t2 : Tups K H2 (upd (upd H2 p (.lst (ws.drop (ws.length - n)).reverse)) d (.lst (ws.take (ws.length - n)))) := (Tups.of e2).trans (Tups.lst hD2)
      have hD3 : (upd (upd H2 p (.lst (ws.drop (ws.length - n)).reverse)) d (.lst (ws.take (ws.length - n)))) d = some (.lst (ws.take (ws.length - n))) := upd_same
      have hP3 : (upd (upd H2 p (.lst (ws.drop (ws.length - n)).reverse)) d (.lst (ws.take (ws.length - n)))) p = some (.lst (ws.drop (ws.length - n)).reverse) := by rw [upd_ne hpd.symm, upd_same]
      refine ⟨_, rfl, .inl ⟨rfl, _, SqL.of hD3⟩, _, rfl, _, rfl, p, _, rfl, .inr (SqL.of hP3), ?_⟩
      refine ⟨small5 ?_, fun tp htp => ?_⟩
      · show ((V.str f) :: ((ws.drop (ws.length - n)).reverse ++ [])).length ≤ _
        rw [List.length_cons, List.append_nil, List.length_reverse, List.length_drop]
        omega
      have e4 := Ex.new (o := HO.tup ((V.str f) :: ((ws.drop (ws.length - n)).reverse ++ []))) htp
      have hD4 := e4 d _ hD3
      refine ⟨d, _, _, rfl, rfl, hD4, small5' ?_, _, _, _, _, rfl, ?_, upd_same, ?_⟩
      · rw [List.length_take]
        omega
      · have e5 : Ex H (upd (upd H2 p (.lst (ws.drop (ws.length - n)).reverse)) d (.lst (ws.take (ws.length - n)))) := Ex.mut (e1.trans e2) hd
        exact Ex.mut (e5.trans e4) hd
      · have t4 : Tups K H2 (upd (upd (upd (upd H2 p (.lst (ws.drop (ws.length - n)).reverse)) d (.lst (ws.take (ws.length - n)))) tp (.tup ((V.str f) :: ((ws.drop (ws.length - n)).reverse ++ [])))) d (.lst (ws.take (ws.length - n) ++ [V.ref tp]))) := (t2.trans (Tups.of e4)).trans (Tups.lst hD4)
        show Reps K _ (DD.take (DD.length - n) ++ [Tm.comp f (DD.drop (DD.length - n)).reverse]) _
        rw [hl1]
        refine Reps.app ((hR.take _).mono t4) (Reps.one ?_)
        unfold Rep
        refine ⟨tp, (ws.drop (ws.length - n)).reverse, rfl, ?_, ((hR.drop _).rev).mono t4⟩
        refine SqT.of ?_
        rw [upd_ne (ne_of_none hD3 htp).symm, upd_same, List.append_nil]
  · rintro σ' H' ⟨x2, x3, x4, ws, rfl, e1, hD, hR⟩
    rw [← hlen, Nat.sub_self, List.drop_zero, hfold] at hR
    obtain ⟨v, vs2, rfl, hv, hnil⟩ := hR.cons_inv
    refine ⟨_, rfl, d, _, 0, v, rfl, rfl, SqL.of hD, at0, q v _ e1 hv⟩
end
end Hm

set_option Elab.async false
set_option linter.all false
set_option maxRecDepth 100000
set_option maxHeartbeats 4000000
namespace Hm
open PySem PySem.Spec PyProof.Rows L2 HT
open Evl (Ex)
/-- a dict comprehension over a walk -/
theorem dc_it {J : It} {n : Nat} {G : Hp → Prop} {Y : Nat → Hp → V → Hp → Prop} (w : Walk J n G Y) {g : TG} {tt : TT} {tk tv : TE} {vs : List Nat} {σ : L2.St} {H1 : Hp} {D : Addr} {Qd : Hp → Prop} (Pv : Nat → Hp → Prop) (h0 : Pv 0 (upd H1 D (.dK []))) (hG : ∀ i H, i ≤ n → Pv i H → G H)
    (hs : ∀ i x H H', i < n → Pv i H → Y i H x H' → g x (wipe σ vs) H' fun σ2 H2 => wipe σ2 vs = wipe σ vs ∧ tt σ2 H2 fun b H3 =>
      if b = true then tk σ2 H3 fun y H4 => tv σ2 H4 fun z H5 => ∃ kvs k, y = kV k ∧ H5 D = some (.dK kvs) ∧ kvs.length < sizeLine ∧ Pv (i + 1) (upd H5 D (.dK (putK kvs k z))) else Pv (i + 1) H3) (hd : ∀ H, Pv n H → Qd H) :
    ∃ W : Nat → Nat → Hp → Prop, (∃ m, W 0 m (upd H1 D (.dK []))) ∧ ∀ i m H, W i m H →
      (J.stop i H ∧ Qd H) ∨ (J.go i H ∧ ∃ Nx : Hp → Prop, (∀ H', Nx H' → ∃ m', m' < m ∧ W (i + 1) m' H') ∧ ∀ x H', J.yld i H x H' → g x (wipe σ vs) H' fun σ2 H2 => wipe σ2 vs = wipe σ vs ∧ tt σ2 H2 fun b H3 =>
        if b = true then tk σ2 H3 fun y H4 => tv σ2 H4 fun z H5 => ∃ kvs k, y = kV k ∧ H5 D = some (.dK kvs) ∧ kvs.length < sizeLine ∧ Nx (upd H5 D (.dK (putK kvs k z))) else Nx H3) := by
  refine ⟨fun i m H => m = n - i ∧ i ≤ n ∧ Pv i H, ⟨n, by simp, Nat.zero_le _, h0⟩, ?_⟩
  rintro i m H ⟨rfl, hi, p⟩
  have q := hG i H hi p
  by_cases hlt : i < n
  · exact .inr ⟨w.goes i H hlt q, Pv (i + 1), fun H' p' => ⟨n - (i + 1), by omega, rfl, hlt, p'⟩, fun x H' y => hs i x H H' hlt p (w.yields i H x H' hlt q y)⟩
  · have e : i = n := by omega
    subst e
    exact .inl ⟨w.stops H q, hd H p⟩
/-! ### a table for variables -/
def TabRep (K : PySem.W.Frag) (H : Hp) (d : Addr) (g : Int → Tm) : Prop := ∃ kvs, Rd H d (.dK kvs) ∧ ∀ k : Int, (∀ u, valV kvs (Sum.inl k : Key) = some u → Rep K H (g k) u) ∧ (valV kvs (Sum.inl k : Key) = none → g k = .var k)
theorem TabRep.mono {K : PySem.W.Frag} {H H' : Hp} {d : Addr} {g : Int → Tm} (e : Ex H H') (h : TabRep K H d g) : TabRep K H' d g := by
  obtain ⟨kvs, h1, h2⟩ := h
  exact ⟨kvs, Evl.ex_rd e h1, fun k => ⟨fun u hu => ((h2 k).1 u hu).mono (Tups.of e), (h2 k).2⟩⟩
/-! ### numbers as keys of a dict -/
def mkD (acc : List Int) : List (Key × V) := acc.map fun k => ((Sum.inl k : Key), V.bl true)
theorem mkD_val : ∀ (acc : List Int) (k : Int), valV (mkD acc) (Sum.inl k : Key) = if k ∈ acc then some (.bl true) else none
  | [], k => by simp [mkD, valV]
  | a :: acc, k => by
    have ih := mkD_val acc k
    by_cases e : a = k
    · subst e
      show valV (((Sum.inl a : Key), V.bl true) :: mkD acc) (Sum.inl a) = _
      rw [valV_pos rfl, if_pos List.mem_cons_self]
    · show valV (((Sum.inl a : Key), V.bl true) :: mkD acc) (Sum.inl k) = _
      rw [valV_neg (by intro z; injection z with z; exact e z), ih]
      by_cases m : k ∈ acc
      · rw [if_pos m, if_pos (List.mem_cons_of_mem _ m)]
      · rw [if_neg m, if_neg]
        intro z
        rcases List.mem_cons.mp z with z | z
        · exact e z.symm
        · exact m z
theorem mkD_put (acc : List Int) (k : Int) : putK (mkD acc) (Sum.inl k : Key) (.bl true) = mkD (addNew acc k) := by
  unfold addNew
  by_cases m : k ∈ acc
  · rw [if_pos m]
    have h1 : ((mkD acc).any fun kv => decide (kv.1 = (Sum.inl k : Key))) = true := by
      rw [valV_any, mkD_val, if_pos m]
      rfl
    unfold putK
    rw [if_pos h1]
    unfold mkD
    rw [List.map_map]
    apply List.map_congr_left
    intro a _
    show (if (Sum.inl a : Key) = Sum.inl k then ((Sum.inl a : Key), V.bl true) else ((Sum.inl a : Key), V.bl true)) = _
    split <;> rfl
  · rw [if_neg m, putK_new _ (by rw [mkD_val, if_neg m])]
    unfold mkD
    rw [List.map_append]
    rfl
theorem fold_take_succ {α β : Type} (f : α → β → α) (a : α) {l : List β} {i : Nat} {x : β} (h : l[i]? = some x) : (l.take (i + 1)).foldl f a = f ((l.take i).foldl f a) x := by
  rw [List.take_add_one, h]
  simp
section
variable {P : Program} {w : World} {K : PySem.W.Frag} {mg : Str → Option Value} {base : Heap}
def spReplaced (K : PySem.W.Frag) : Sp := fun vs H Q _ => ∃ v t d g, vs = [v, .ref d] ∧ Rep K H t v ∧ Ok t ∧ size t ≤ 50000 ∧ TabRep K H d g ∧ ∀ u H', Ex H H' → Rep K H' (sub g t) u → Q u H'
theorem ok_replaced (T : Tx K mg) : FnOk P w K mg base CX0 3 T.f_replaced T.d_replaced ["term", "table"] (spReplaced K) := by
  refine T.h_replaced.F.ok sc_replaced (fun vs H Q E h => ?_) (fun cdv A outer s H vs Q E hr h => ?_)
  · obtain ⟨v, t, _, _, rfl, _⟩ := h
    rfl
  obtain ⟨v, t, d, g, rfl, hR, hO, hz, hTab, q⟩ := h
  have hu := hu_of hr
  refine ⟨_, (pss_cons (ps_set (i := 2) sc_replaced.nd rfl (Or.inl rfl) (pe_lst pa_nil))
    (pss_cons (ps_for PassesOwn.never rfl (pi_list (cl (ok_parts_of T) T.h_parts_of hr (pa_cons (pv 0) pa_nil))) (pg_name (i := 3) sc_replaced.nd rfl (Or.inl rfl))
      (pss_one (ps_if (pt_val (cl (ok_is_variable T) T.h_is_variable hr (pa_cons (pv 3) pa_nil)))
      (pss_one (ps_expr (pe_bm PySem.F.plainAttrs_list PySem.F.slot_list_append PySem.F.type_list_append mt_append (pv 2) (pa_cons (pe_tup (pa_cons (pe_dget2 hu (pv 1) (pe_ix ix_tup (pv 3) pe_int (fun _ _ => rfl)) (pv 3) ⟨rfl, rfl, rfl, rfl⟩) (pa_cons pe_int pa_nil))) pa_nil))))
      (pss_one (ps_if (pt_val (pe_callB call_isi rfl T.b_isinstance (by decide +kernel) (pa_cons (pv 3) (pa_cons (pe_bltn (v := .ty "tuple") (u := .type "tuple") rfl T.b_tuple (by decide +kernel) rfl) pa_nil))))
      (pss_one (ps_expr (pe_bm PySem.F.plainAttrs_list PySem.F.slot_list_append PySem.F.type_list_append mt_append (pv 2) (pa_cons (pe_tup (pa_cons (pe_ix ix_tup (pv 3) pe_int (fun _ _ => rfl)) (pa_cons (pe_op op_sub (pe_callB call_len_seq rfl T.b_len (by decide +kernel) (pa_cons (pv 3) pa_nil)) pe_int) pa_nil))) pa_nil))))
      (pss_one (ps_expr (pe_bm PySem.F.plainAttrs_list PySem.F.slot_list_append PySem.F.type_list_append mt_append (pv 2) (pa_cons (pe_tup (pa_cons (pv 3) (pa_cons pe_int pa_nil))) pa_nil)))))))))
    (pss_one (ps_ret (cl (ok_folded T) T.h_folded hr (pa_cons (pv 2) pa_nil)))))), ?_⟩
  refine ⟨Nat.zero_le _, fun rr hrr => ?_⟩
  have e0 : Ex H (upd H rr (.lst [])) := Ex.new hrr
  refine ⟨_, rfl, v, t, rfl, hR.mono (Tups.of e0), hz, fun pl ps H1 hpl e1 hL hPs => ?_⟩
  have hne : rr ≠ pl := ne_of_none upd_same hpl
  have hlen := hPs.len
  rw [len_pre] at hlen
  refine ⟨pl, rfl, ⟨ps, SqL.of hL⟩, for_list (fun i σ' H' => ∃ x rs, σ' = [some v, some (.ref d), some (.ref rr), x] ∧ Ex H H' ∧ Tups K H1 H' ∧ H' pl = some (.lst ps) ∧ H' rr = some (.lst rs) ∧ RwReps K H' (((pre t).take i).map (rw1 g)) rs)
    ⟨none, [], rfl, e0.trans e1, Tups.refl _, hL, e1 rr _ upd_same, rfl⟩ (fun i σ' H' _ ⟨_, _, _, _, _, h, _⟩ => SqL.of h) ?_ ?_⟩
  · rintro i x σ' H' hx ⟨x3, rs, rfl, e2, tu, hp, hrs, hRw⟩
    obtain ⟨ti, hti, hrep⟩ := (hPs.mono tu).get hx
    have hOi := oks_get (ok_pre hO) hti
    have hi : i < size t := by
      rw [← len_pre]
      exact (List.getElem?_eq_some_iff.mp hti).1
    have hrl := hRw.len
    rw [List.length_map, List.length_take, len_pre] at hrl
    refine ⟨_, rfl, x, ti, rfl, hrep, hOi, _, rfl, ?_⟩
    rw [tk_succ (rw1 g) hti]
    cases ti with
    | var k =>
      unfold Rep at hrep
      obtain ⟨a, rfl, hT⟩ := hrep
      obtain ⟨kvs, hkv, hval⟩ := hTab.mono e2
      have hres : Rep K H' (g k) ((valV kvs (Sum.inl k : Key)).getD (.ref a)) := by
        cases hv : valV kvs (Sum.inl k : Key) with
        | some u => exact (hval k).1 u hv
        | none =>
          rw [(hval k).2 hv]
          unfold Rep
          exact ⟨a, rfl, hT⟩
      refine iteT ⟨_, rfl, .inl ⟨rfl, _, SqL.of hrs⟩, _, rfl, d, rfl, .inl ⟨kvs, hkv⟩, _, rfl, a, _, 0, _, rfl, rfl, hT, at0, _, rfl, _, .inl ⟨kvs, Sum.inl k, hkv, rfl, rfl⟩, ?_⟩
      refine ⟨(by show 2 ≤ sizeLine; decide), fun tp htp => ?_⟩
      have e3 := Ex.new (o := HO.tup [(valV kvs (Sum.inl k : Key)).getD (.ref a), .int 0]) htp
      have hrs2 := e3 rr _ hrs
      have t3 : Tups K H' (upd (upd H' tp (.tup [(valV kvs (Sum.inl k : Key)).getD (.ref a), .int 0])) rr (.lst (rs ++ [V.ref tp]))) := (Tups.of e3).trans (Tups.lst hrs2)
      refine ⟨rr, rs, _, rfl, rfl, hrs2, small5' (by omega), _, _, rfl, Ex.mut (e2.trans e3) hrr, tu.trans t3, ?_, upd_same, RwReps.app (hRw.mono t3) ⟨_, [], rfl, ⟨tp, (valV kvs (Sum.inl k : Key)).getD (.ref a), rfl, SqT.of ?_, ?_⟩, rfl⟩⟩
      · rw [upd_ne hne.symm]
        exact e3 pl _ hp
      · rw [upd_ne (ne_of_none hrs htp).symm, upd_same]
      · exact hres.mono t3
    | int n =>
      have hrep' := hrep
      unfold Rep at hrep'
      subst hrep'
      refine iteF ⟨_, rfl, _, _, _, _, false, rfl, .ty "tuple", .base (.int n), kit_ty (by decide +kernel), false, rfl, iteF ?_⟩
      refine ⟨_, rfl, .inl ⟨rfl, _, SqL.of hrs⟩, _, rfl, (by show 2 ≤ sizeLine; decide), fun tp htp => ?_⟩
      have e3 := Ex.new (o := HO.tup [.int n, .int 0]) htp
      have hrs2 := e3 rr _ hrs
      have t3 : Tups K H' (upd (upd H' tp (.tup [.int n, .int 0])) rr (.lst (rs ++ [V.ref tp]))) := (Tups.of e3).trans (Tups.lst hrs2)
      refine ⟨rr, rs, _, rfl, rfl, hrs2, small5' (by omega), _, _, rfl, Ex.mut (e2.trans e3) hrr, tu.trans t3, ?_, upd_same, RwReps.app (hRw.mono t3) ⟨_, [], rfl, ⟨tp, .int n, rfl, SqT.of ?_, ?_⟩, rfl⟩⟩
      · rw [upd_ne hne.symm]
        exact e3 pl _ hp
      · rw [upd_ne (ne_of_none hrs htp).symm, upd_same]
      · unfold Rep
        rfl
    | atom n =>
      have hrep' := hrep
      unfold Rep at hrep'
      subst hrep'
      refine iteF ⟨_, rfl, _, _, _, _, false, rfl, .ty "tuple", .base (.str n), kit_ty (by decide +kernel), false, rfl, iteF ?_⟩
      refine ⟨_, rfl, .inl ⟨rfl, _, SqL.of hrs⟩, _, rfl, (by show 2 ≤ sizeLine; decide), fun tp htp => ?_⟩
      have e3 := Ex.new (o := HO.tup [.str n, .int 0]) htp
      have hrs2 := e3 rr _ hrs
      have t3 : Tups K H' (upd (upd H' tp (.tup [.str n, .int 0])) rr (.lst (rs ++ [V.ref tp]))) := (Tups.of e3).trans (Tups.lst hrs2)
      refine ⟨rr, rs, _, rfl, rfl, hrs2, small5' (by omega), _, _, rfl, Ex.mut (e2.trans e3) hrr, tu.trans t3, ?_, upd_same, RwReps.app (hRw.mono t3) ⟨_, [], rfl, ⟨tp, .str n, rfl, SqT.of ?_, ?_⟩, rfl⟩⟩
      · rw [upd_ne hne.symm]
        exact e3 pl _ hp
      · rw [upd_ne (ne_of_none hrs htp).symm, upd_same]
      · unfold Rep
        rfl
    | comp f as =>
      unfold Rep at hrep
      obtain ⟨a, ws, rfl, hT, hA⟩ := hrep
      have hl2 := hA.len
      refine iteF ⟨_, rfl, _, _, _, _, true, rfl, .ty "tuple", tyx_tup hT, kit_ty (by decide +kernel), true, rfl, iteT ?_⟩
      refine ⟨_, rfl, .inl ⟨rfl, _, SqL.of hrs⟩, _, rfl, a, _, 0, _, rfl, rfl, hT, at0, _, rfl, a, _, rfl, .inr hT, _, _, rfl, rfl, (by show 2 ≤ sizeLine; decide), fun tp htp => ?_⟩
      have en : ((V.str f :: ws).length : Int) - 1 = (as.length : Int) := by
        rw [List.length_cons]
        omega
      have e3 := Ex.new (o := HO.tup [.str f, .int (((V.str f :: ws).length : Int) - 1)]) htp
      have hrs2 := e3 rr _ hrs
      have t3 : Tups K H' (upd (upd H' tp (.tup [.str f, .int (((V.str f :: ws).length : Int) - 1)])) rr (.lst (rs ++ [V.ref tp]))) := (Tups.of e3).trans (Tups.lst hrs2)
      refine ⟨rr, rs, _, rfl, rfl, hrs2, small5' (by omega), _, _, rfl, Ex.mut (e2.trans e3) hrr, tu.trans t3, ?_, upd_same, RwReps.app (hRw.mono t3) ⟨_, [], rfl, ⟨tp, rfl, SqT.of ?_⟩, rfl⟩⟩
      · rw [upd_ne hne.symm]
        exact e3 pl _ hp
      · rw [upd_ne (ne_of_none hrs htp).symm, upd_same]
        exact congrArg (fun z => some (HO.tup [V.str f, V.int z])) en
  · rintro σ' H' ⟨x3, rs, rfl, e2, tu, hp, hrs, hRw⟩
    rw [← hlen, List.take_of_length_le (by rw [len_pre]; exact Nat.le_refl _), row_pre] at hRw
    have hl3 : (rowOf g t).length = size t := by rw [← row_pre, List.length_map, len_pre]
    refine ⟨_, rfl, rr, _, rs, sub g t, rfl, SqL.of hrs, hRw, ?_, rooms_row g t [] hO, by omega, fun u H2 e3 hu => q u H2 (e2.trans e3) hu⟩
    rw [fold_row]
    rfl

/-! ### numbers_in -/
def spNums (K : PySem.W.Frag) : Sp := fun vs H Q _ => ∃ v t, vs = [v] ∧ Rep K H t v ∧ Ok t ∧ size t ≤ 50000 ∧ ∀ p H', H p = none → Ex H H' → H' p = some (.lst ((varsOf t).map V.int)) → Q (.ref p) H'
theorem ok_numbers_in (T : Tx K mg) : FnOk P w K mg base CX0 3 T.f_numbers_in T.d_numbers_in ["term"] (spNums K) := by
  refine T.h_numbers_in.F.ok sc_numbers_in (fun vs H Q E h => ?_) (fun cdv A outer s H vs Q E hr h => ?_)
  · obtain ⟨v, t, rfl, _⟩ := h
    rfl
  obtain ⟨v, t, rfl, hR, hO, hz, q⟩ := h
  have hu := hu_of hr
  refine ⟨_, (pss_cons (ps_set (i := 1) sc_numbers_in.nd rfl (Or.inl rfl) pe_dnewK)
    (pss_cons (ps_for PassesOwn.never rfl (pi_list (cl (ok_parts_of T) T.h_parts_of hr (pa_cons (pv 0) pa_nil))) (pg_name (i := 2) sc_numbers_in.nd rfl (Or.inl rfl))
      (pss_one (ps_if (pt_val (cl (ok_is_variable T) T.h_is_variable hr (pa_cons (pv 2) pa_nil)))
      (pss_one (ps_dput hu (pv 1) (pe_ix ix_tup (pv 2) pe_int (fun _ _ => rfl)) pe_bl rfl))
      pss_nil)))
    (pss_one (ps_ret (pe_callTy (call_listD rfl) rfl T.b_list (by decide +kernel) (pa_cons (pv 1) pa_nil)))))), ?_⟩
  intro d hd
  have e0 : Ex H (upd H d (.dK [])) := Ex.new hd
  refine ⟨_, rfl, v, t, rfl, hR.mono (Tups.of e0), hz, fun pl ps H1 hpl e1 hL hPs => ?_⟩
  have hne : d ≠ pl := ne_of_none upd_same hpl
  have hlen := hPs.len
  rw [len_pre] at hlen
  refine ⟨pl, rfl, ⟨ps, SqL.of hL⟩, for_list (fun i σ' H' => ∃ x, σ' = [some v, some (.ref d), x] ∧ Ex H H' ∧ Tups K H1 H' ∧ H' pl = some (.lst ps) ∧ H' d = some (.dK (mkD (((pre t).take i).foldl stepVar []))))
    ⟨none, rfl, e0.trans e1, Tups.refl _, hL, e1 d _ upd_same⟩ (fun i σ' H' _ ⟨_, _, _, _, h, _⟩ => SqL.of h) ?_ ?_⟩
  · rintro i x σ' H' hx ⟨x3, rfl, e2, tu, hp, hD⟩
    obtain ⟨ti, hti, hrep⟩ := (hPs.mono tu).get hx
    have hOi := oks_get (ok_pre hO) hti
    have hi : i < size t := by
      rw [← len_pre]
      exact (List.getElem?_eq_some_iff.mp hti).1
    refine ⟨_, rfl, x, ti, rfl, hrep, hOi, _, rfl, ?_⟩
    have hfold := fold_take_succ stepVar [] hti
    cases ti with
    | var k =>
      unfold Rep at hrep
      obtain ⟨a, rfl, hT⟩ := hrep
      have hl2 := fold_len ((pre t).take i) []
      rw [List.length_nil, List.length_take] at hl2
      refine iteT ⟨_, rfl, _, rfl, a, _, 0, _, rfl, rfl, hT, at0, d, _, rfl, .inl ⟨_, Sum.inl k, hD, rfl, ?_, rfl⟩, ?_⟩
      · unfold mkD
        rw [List.length_map]
        exact small5' (by omega)
      · have t3 : Tups K H' (upd H' d (.dK (putK (mkD (((pre t).take i).foldl stepVar [])) (Sum.inl k : Key) (.bl true)))) := tups_dk hD
        refine ⟨_, rfl, Ex.mut e2 hd, tu.trans t3, ?_, ?_⟩
        · rw [upd_ne hne.symm]
          exact hp
        · rw [upd_same, hfold, mkD_put]
          rfl
    | int n => exact iteF ⟨_, rfl, e2, tu, hp, by rw [hfold]; exact hD⟩
    | atom n => exact iteF ⟨_, rfl, e2, tu, hp, by rw [hfold]; exact hD⟩
    | comp f as => exact iteF ⟨_, rfl, e2, tu, hp, by rw [hfold]; exact hD⟩
  · rintro σ' H' ⟨x3, rfl, e2, tu, hp, hD⟩
    rw [← hlen, List.take_of_length_le (by rw [len_pre]; exact Nat.le_refl _)] at hD
    refine ⟨_, rfl, d, _, rfl, .inl hD, fun p hp2 => q p _ (Evl.fresh_back e2 hp2) (e2.trans (Ex.new hp2)) ?_⟩
    rw [upd_same]
    unfold mkD
    rw [List.map_map]
    rfl
end
end Hm

set_option Elab.async false
set_option linter.all false
set_option maxRecDepth 100000
set_option maxHeartbeats 4000000
namespace Hm
open PySem PySem.Spec PyProof.Rows L2 HT
open Evl (Ex)
/-- a comprehension of two walks: the outer one -/
theorem lc2_it {J : It} {n : Nat} {G : Hp → Prop} {Y : Nat → Hp → V → Hp → Prop} (w : Walk J n G Y) {g : TG} {tt : TT} {vs : List Nat} {σ : L2.St} {H1 : Hp} {D : Addr} {Qd : Hp → Prop} {In : L2.St → Hp → (Hp → Prop) → Prop}
    (Pv : Nat → Hp → Prop) (h0 : Pv 0 (upd H1 D (.lst []))) (hG : ∀ i H, i ≤ n → Pv i H → G H)
    (hs : ∀ i x H H', i < n → Pv i H → Y i H x H' → g x (wipe σ vs) H' fun σ2 H2 => wipe σ2 vs = wipe σ vs ∧ tt σ2 H2 fun b H3 => if b = true then In σ2 H3 (Pv (i + 1)) else Pv (i + 1) H3) (hd : ∀ H, Pv n H → Qd H) :
    ∃ W : Nat → Nat → Hp → Prop, (∃ m, W 0 m (upd H1 D (.lst []))) ∧ ∀ i m H, W i m H →
      (J.stop i H ∧ Qd H) ∨ (J.go i H ∧ ∃ Nx : Hp → Prop, (∀ H', Nx H' → ∃ m', m' < m ∧ W (i + 1) m' H') ∧ ∀ x H', J.yld i H x H' → g x (wipe σ vs) H' fun σ2 H2 => wipe σ2 vs = wipe σ vs ∧ tt σ2 H2 fun b H3 => if b = true then In σ2 H3 Nx else Nx H3) := by
  refine ⟨fun i m H => m = n - i ∧ i ≤ n ∧ Pv i H, ⟨n, by simp, Nat.zero_le _, h0⟩, ?_⟩
  rintro i m H ⟨rfl, hi, p⟩
  have q := hG i H hi p
  by_cases hlt : i < n
  · exact .inr ⟨w.goes i H hlt q, Pv (i + 1), fun H' p' => ⟨n - (i + 1), by omega, rfl, hlt, p'⟩, fun x H' y => hs i x H H' hlt p (w.yields i H x H' hlt q y)⟩
  · have e : i = n := by omega
    subst e
    exact .inl ⟨w.stops H q, hd H p⟩
/-- .. the inner one -/
theorem in_it {J1 : It} {n : Nat} {G : Hp → Prop} {Y : Nat → Hp → V → Hp → Prop} (w : Walk J1 n G Y) {g1 : TG} {tt1 : TT} {te : TE} {vs1 : List Nat} {σ2 : L2.St} {H4 : Hp} {D : Addr} {Nx : Hp → Prop}
    (Pv : Nat → Hp → Prop) (h0 : Pv 0 H4) (hG : ∀ i H, i ≤ n → Pv i H → G H)
    (hs : ∀ i x H H', i < n → Pv i H → Y i H x H' → g1 x (wipe σ2 vs1) H' fun σ3 H5 => wipe σ3 vs1 = wipe σ2 vs1 ∧ tt1 σ3 H5 fun b H6 =>
        if b = true then te σ3 H6 fun y H7 => ∃ acc, H7 D = some (.lst acc) ∧ acc.length < sizeLine ∧ Pv (i + 1) (upd H7 D (.lst (acc ++ [y]))) else Pv (i + 1) H6) (hd : ∀ H, Pv n H → Nx H) :
    ∃ W1 : Nat → Nat → Hp → Prop, (∃ m, W1 0 m H4) ∧ ∀ j k H, W1 j k H →
      (J1.stop j H ∧ Nx H) ∨ (J1.go j H ∧ ∃ Nx1 : Hp → Prop, (∀ H', Nx1 H' → ∃ k', k' < k ∧ W1 (j + 1) k' H') ∧ ∀ x H', J1.yld j H x H' → g1 x (wipe σ2 vs1) H' fun σ3 H5 => wipe σ3 vs1 = wipe σ2 vs1 ∧ tt1 σ3 H5 fun b H6 =>
        if b = true then te σ3 H6 fun y H7 => ∃ acc, H7 D = some (.lst acc) ∧ acc.length < sizeLine ∧ Nx1 (upd H7 D (.lst (acc ++ [y]))) else Nx1 H6) := by
  refine ⟨fun i m H => m = n - i ∧ i ≤ n ∧ Pv i H, ⟨n, by simp, Nat.zero_le _, h0⟩, ?_⟩
  rintro i m H ⟨rfl, hi, p⟩
  have q := hG i H hi p
  by_cases hlt : i < n
  · exact .inr ⟨w.goes i H hlt q, Pv (i + 1), fun H' p' => ⟨n - (i + 1), by omega, rfl, hlt, p'⟩, fun x H' y => hs i x H H' hlt p (w.yields i H x H' hlt q y)⟩
  · have e : i = n := by omega
    subst e
    exact .inl ⟨w.stops H q, hd H p⟩
/-- a term with its variables numbered anew -/
def rg (xs : List Int) (k : Int) : Tm := if k ∈ xs then .var ((xs.idxOf k : Nat) : Int) else .var k
def renum (t : Tm) : Tm := sub (rg (varsOf t)) t
theorem idx_at {xs : List Int} (hn : xs.Nodup) {j : Nat} {k : Int} (h : xs[j]? = some k) : xs.idxOf k = j := by
  obtain ⟨hj, e⟩ := List.getElem?_eq_some_iff.mp h
  have hm : k ∈ xs := e ▸ List.getElem_mem hj
  have h2 : xs.idxOf k < xs.length := List.idxOf_lt_length_of_mem hm
  have h3 : xs[xs.idxOf k]? = some k := by
    rw [List.getElem?_eq_getElem h2, List.getElem_idxOf h2]
  exact nd_ix hn h3 h
section
variable {P : Program} {w : World} {K : PySem.W.Frag} {mg : Str → Option Value} {base : Heap}
/-- a def that may raise, where it does not -/
theorem calm {k : Nat} {f : Addr} {fd : FuncData} {ps : List Str} {sp sp0 : Sp} (F : FnOk P w K mg base (L2.CX P w) k f fd ps sp) (h : ∀ vs H Q E, sp0 vs H Q E → sp vs H Q fun _ _ _ => False) : FnOk P w K mg base CX0 k f fd ps sp0 :=
  ⟨fun vs H Q E q => F.len vs H Q _ (h vs H Q E q), fun A outer s H args us vs Q E hr he hb hv hs => codeAny_mono (F.run A outer s H args us vs Q _ hr he hb hv (h vs H Q E hs)) fun r s' z => by
    cases r with
    | ok fl => cases fl <;> exact z
    | error e =>
      obtain ⟨_, _, _, _, _, _, _, _, _, _, _, _, z⟩ := z
      exact z⟩
def spDem0 (K : PySem.W.Frag) : Sp := fun vs H Q _ => ∃ v t, vs = [v] ∧ Rep K H t v ∧ Ok t ∧ size t ≤ 1400 ∧ ∀ u H', Ex H H' → Q u H'
theorem ok_dem0 (T : Tx K mg) : FnOk P w K mg base CX0 5 T.f_demand_term T.d_demand_term ["term"] (spDem0 K) := calm (ok_demand_term T) fun vs H Q E ⟨v, t, e, hR, hO, hz, q⟩ =>
  ⟨v, odT t, e, od_rep hR, by have := sizeD_tm hO; omega, fun _ u H' e2 => q u H' e2, fun z => by rw [isT_tm hO] at z; cases z⟩
def spRen (K : PySem.W.Frag) : Sp := fun vs H Q _ => ∃ v t, vs = [v] ∧ Rep K H t v ∧ Ok t ∧ size t ≤ 1400 ∧ ∀ u H', Ex H H' → Rep K H' (renum t) u → Q u H'
theorem putK_len (kvs : List (Key × V)) (k : Key) (v : V) : (putK kvs k v).length ≤ kvs.length + 1 := by
  unfold putK
  split
  · rw [List.length_map]
    omega
  · rw [List.length_append, List.length_singleton]
    exact Nat.le_refl _
theorem ok_renumbered (T : Tx K mg) : FnOk P w K mg base CX0 6 T.f_renumbered T.d_renumbered ["term"] (spRen K) := by
  refine T.h_renumbered.F.ok sc_renumbered (fun vs H Q E h => ?_) (fun cdv A outer s H vs Q E hr h => ?_)
  · obtain ⟨v, t, rfl, _⟩ := h
    rfl
  obtain ⟨v, t, rfl, hR, hO, hz, q⟩ := h
  refine ⟨_, (pss_cons (ps_expr (cl (ok_dem0 T) T.h_demand_term hr (pa_cons (pv 0) pa_nil)))
    (pss_one (ps_ret (cl (ok_replaced T) T.h_replaced hr (pa_cons (pv 0) (pa_cons (pe_dc (own := [("place", 1), ("k", 2)]) (g := gTup K 2 (gCons (gName 1) (gCons (gName 2) gNil))) rfl sc_renumbered.nd (pi_enum rfl T.b_enumerate (pa_cons (cl (ok_numbers_in T) T.h_numbers_in hr (pa_cons (pv 0) pa_nil)) pa_nil)) (blkOk_by (own := [("place", 1), ("k", 2)]) (N := ["term", "place", "k"]) (sc := defScope s_renumbered) (by decide +kernel)) (fun _ _ _ _ _ => pg_tup rfl (pgs_cons (pg_name (i := 1) sc_renumbered.nd rfl (Or.inl rfl)) (pgs_cons (pg_name (i := 2) sc_renumbered.nd rfl (Or.inl rfl)) pgs_nil))) (fun _ _ _ _ _ => pts_nil) (fun _ _ _ _ _ => (pv 2)) (fun _ _ _ _ _ => (pe_tup (pa_cons (pv 1) pa_nil)))) pa_nil)))))), ?_⟩
  have hz' : size t ≤ 50000 := by omega
  refine ⟨_, rfl, v, t, rfl, hR, hO, hz, fun _ H1 e1 => ?_⟩
  refine ⟨_, rfl, _, rfl, v, t, rfl, hR.mono (Tups.of e1), hO, hz', fun pl H2 hpl e2 hL => ?_⟩
  have hnd := varsOf_nodup t
  have hvl := varsOf_len t
  generalize hxs : varsOf t = xs at *
  refine ⟨pl, xs.map V.int, rfl, SqL.of hL, fun D hD => dc_it walk_enum (fun i H' => Ex H2 H' ∧ ∃ kvs, H' D = some (.dK kvs) ∧ kvs.length ≤ i ∧
      (∀ k u, valV kvs (Sum.inl k : Key) = some u → ∃ j : Nat, j < i ∧ xs[j]? = some k ∧ Rep K H' (.var (j : Int)) u) ∧ (∀ k, valV kvs (Sum.inl k : Key) = none → ∀ j : Nat, j < i → xs[j]? ≠ some k))
    ⟨Ex.new hD, [], upd_same, Nat.le_refl _, fun k u h => by simp [valV] at h, fun k _ j hj => absurd hj (Nat.not_lt_zero _)⟩ (fun i H' _ h => Evl.ex_l h.1 (SqL.of hL)) ?_ ?_⟩
  · rintro i x H3 H4 hi ⟨e3, kvs, hK, hkl, hk1, hk2⟩ ⟨TT, x1, x2, rfl, hTT, rfl, hx1, hx2⟩
    have e4 := Ex.new (o := HO.tup [x1, x2]) hTT
    have hx1' : x1 = .int (i : Int) := (Option.some.inj hx1).symm
    subst hx1'
    rw [List.length_map] at hi
    obtain ⟨k, hk, rfl⟩ : ∃ k, xs[i]? = some k ∧ x2 = .int k := by
      have hx3 : (xs.map V.int)[i]? = some x2 := hx2
      rw [List.getElem?_map, List.getElem?_eq_getElem hi] at hx3
      rw [List.getElem?_eq_getElem hi]
      exact ⟨_, rfl, (Option.some.inj hx3).symm⟩
    refine ⟨TT, _, rfl, SqT.of upd_same, rfl, _, _, rfl, _, _, rfl, rfl, rfl, yesI ⟨_, rfl, _, rfl, (by show 1 ≤ sizeLine; decide), fun tp htp => ?_⟩⟩
    have e5 := Ex.new (o := HO.tup [V.int (i : Int)]) htp
    have hK5 := e5 D _ (e4 D _ hK)
    refine ⟨kvs, Sum.inl k, rfl, hK5, small5' (by omega), Ex.mut ((e3.trans e4).trans e5) hD, _, upd_same, Nat.le_trans (putK_len _ _ _) (by omega), fun k' u hu => ?_, fun k' hn j hj => ?_⟩
    · have tK : Tups K H3 (upd (upd (upd H3 TT (.tup [.int (i : Int), .int k])) tp (.tup [V.int (i : Int)])) D (.dK (putK kvs (Sum.inl k : Key) (.ref tp)))) := ((Tups.of e4).trans (Tups.of e5)).trans (tups_dk hK5)
      rw [valV_put] at hu
      by_cases hkk : (Sum.inl k' : Key) = Sum.inl k
      · rw [if_pos hkk] at hu
        injection hkk with hkk
        subst hkk
        have := Option.some.inj hu
        subst this
        refine ⟨i, Nat.lt_succ_self _, hk, ?_⟩
        unfold Rep
        refine ⟨tp, rfl, SqT.of ?_⟩
        rw [upd_ne (ne_of_none (e4 D _ hK) htp).symm, upd_same]
      · rw [if_neg hkk] at hu
        obtain ⟨j, hj, h1, h2⟩ := hk1 k' u hu
        exact ⟨j, by omega, h1, h2.mono tK⟩
    · rw [valV_put] at hn
      by_cases hkk : (Sum.inl k' : Key) = Sum.inl k
      · rw [if_pos hkk] at hn
        cases hn
      · rw [if_neg hkk] at hn
        by_cases hji : j = i
        · subst hji
          rw [hk]
          intro z
          exact hkk (by rw [Option.some.inj z])
        · exact hk2 k' hn j (by omega)
  · rintro H3 ⟨e3, kvs, hK, hkl, hk1, hk2⟩
    rw [List.length_map] at hk1 hk2
    refine ⟨v, t, D, rg xs, rfl, ((hR.mono (Tups.of e1)).mono (Tups.of e2)).mono (Tups.of e3), hO, hz', ⟨kvs, .inl hK, fun k => ⟨fun u hu => ?_, fun hn => ?_⟩⟩, fun u H4 e4 hu => q u H4 (((e1.trans e2).trans e3).trans e4) ?_⟩
    · obtain ⟨j, hj, h1, h2⟩ := hk1 k u hu
      have hm : k ∈ xs := List.mem_of_getElem? h1
      unfold rg
      rw [if_pos hm, idx_at hnd h1]
      exact h2
    · have hm : ¬ k ∈ xs := fun hm => by
        obtain ⟨j, hj, h1⟩ := List.getElem_of_mem hm
        exact hk2 k hn j hj (by rw [List.getElem?_eq_getElem hj, h1])
      unfold rg
      rw [if_neg hm]
    · unfold renum
      rw [hxs]
      exact hu
/-- the arguments of a term stay where they were told -/
theorem reps_vals {K : PySem.W.Frag} {H H' : Hp} {ts : List Tm} {ws : List V} (h : Reps K H ts ws) (e : Tups K H H') : Reps K H' ts ws := h.mono e
end
end Hm

set_option Elab.async false
set_option linter.all false
set_option maxRecDepth 100000
set_option maxHeartbeats 1000000
namespace Hm
open PySem PySem.Spec PyProof.Rows L2 HT
open Evl (Ex)
section
variable {P : Program} {w : World} {K : PySem.W.Frag} {mg : Str → Option Value} {base : Heap}
theorem Paired.snoc {α β : Type} {F : α → β → Prop} : ∀ {l1 : List α} {l2 : List β} {a : α} {b : β}, PySem.Paired F l1 l2 → F a b → PySem.Paired F (l1 ++ [a]) (l2 ++ [b])
  | _, _, _, _, .nil, h => .cons h .nil
  | _, _, _, _, .cons r t, h => .cons r (Paired.snoc t h)
theorem take_snocT {α : Type} {l : List α} {i : Nat} {x : α} (h : l[i]? = some x) : l.take (i + 1) = l.take i ++ [x] := by
  rw [List.take_add_one, h]
  rfl
/-! ### head_of -/
def spHead (K : PySem.W.Frag) : Sp := fun vs H Q _ => ∃ v t, vs = [v] ∧ Rep K H t v ∧ Ok t ∧ ∀ p, H p = none → Q (.ref p) (upd H p (.tup (hdV t)))
theorem ok_head_of (T : Tx K mg) : FnOk P w K mg base CX0 2 T.f_head_of T.d_head_of ["part"] (spHead K) := by
  refine T.h_head_of.F.ok sc_head_of (fun vs H Q E h => ?_) (fun cdv A outer s H vs Q E hr h => ?_)
  · obtain ⟨v, t, rfl, _⟩ := h
    rfl
  obtain ⟨v, t, rfl, hR, hO, q⟩ := h
  obtain ⟨t0, hc_VARIABLE⟩ := T.c_VARIABLE
  obtain ⟨t1, hc_INTEGER⟩ := T.c_INTEGER
  obtain ⟨t2, hc_ATOM⟩ := T.c_ATOM
  obtain ⟨t3, hc_COMPOUND⟩ := T.c_COMPOUND
  refine ⟨_, (pss_cons (ps_if (pt_val (pe_callB call_isi rfl T.b_isinstance (by decide +kernel) (pa_cons (pv 0) (pa_cons (pe_bltn (v := .ty "str") (u := .type "str") rfl T.b_str (by decide +kernel) rfl) pa_nil))))
      (pss_one (ps_ret (pe_tup (pa_cons (pe_glob (v := .int 2) rfl hc_ATOM ⟨_, rfl⟩) (pa_cons (pv 0) pa_nil)))))
      pss_nil)
    (pss_cons (ps_if (pt_not (pt_val (pe_callB call_isi rfl T.b_isinstance (by decide +kernel) (pa_cons (pv 0) (pa_cons (pe_bltn (v := .ty "tuple") (u := .type "tuple") rfl T.b_tuple (by decide +kernel) rfl) pa_nil)))))
      (pss_one (ps_ret (pe_tup (pa_cons (pe_glob (v := .int 1) rfl hc_INTEGER ⟨_, rfl⟩) (pa_cons (pv 0) pa_nil)))))
      pss_nil)
    (pss_cons (ps_if (pt_val (cl (ok_is_variable T) T.h_is_variable hr (pa_cons (pv 0) pa_nil)))
      (pss_one (ps_ret (pe_tup (pa_cons (pe_glob (v := .int 0) rfl hc_VARIABLE ⟨_, rfl⟩) (pa_cons (pe_ix ix_tup (pv 0) pe_int (fun _ _ => rfl)) pa_nil)))))
      pss_nil)
    (pss_one (ps_ret (pe_tup (pa_cons (pe_glob (v := .int 3) rfl hc_COMPOUND ⟨_, rfl⟩) (pa_cons (pe_op op_sub (pe_callB call_len_seq rfl T.b_len (by decide +kernel) (pa_cons (pv 0) pa_nil)) pe_int) (pa_cons (pe_ix ix_tup (pv 0) pe_int (fun _ _ => rfl)) pa_nil))))))))), ?_⟩
  cases t with
  | var k =>
    have hR0 := hR
    unfold Rep at hR
    obtain ⟨a, rfl, hT⟩ := hR
    refine ⟨_, rfl, _, _, _, _, false, rfl, .ty "str", tyx_tup hT, kit_ty (by decide +kernel), false, rfl, iteF ?_⟩
    refine ⟨_, rfl, _, _, _, _, true, rfl, .ty "tuple", tyx_tup hT, kit_ty (by decide +kernel), true, rfl, iteF ?_⟩
    refine ⟨_, rfl, _, .var k, rfl, hR0, hO, true, rfl, iteT ?_⟩
    exact ⟨_, rfl, a, _, 0, _, rfl, rfl, hT, at0, (by show 2 ≤ sizeLine; decide), fun p hp => q p hp⟩
  | int i =>
    unfold Rep at hR
    subst hR
    refine ⟨_, rfl, _, _, _, _, false, rfl, .ty "str", .base (.int i), kit_ty (by decide +kernel), false, rfl, iteF ?_⟩
    refine ⟨_, rfl, _, _, _, _, false, rfl, .ty "tuple", .base (.int i), kit_ty (by decide +kernel), false, rfl, iteT ?_⟩
    exact ⟨_, rfl, (by show 2 ≤ sizeLine; decide), fun p hp => q p hp⟩
  | atom z =>
    unfold Rep at hR
    subst hR
    refine ⟨_, rfl, _, _, _, _, true, rfl, .ty "str", .base (.str z), kit_ty (by decide +kernel), true, rfl, iteT ?_⟩
    exact ⟨_, rfl, (by show 2 ≤ sizeLine; decide), fun p hp => q p hp⟩
  | comp f as =>
    have hR0 := hR
    unfold Rep at hR
    obtain ⟨a, ws, rfl, hT, hA⟩ := hR
    have hl := hA.len
    refine ⟨_, rfl, _, _, _, _, false, rfl, .ty "str", tyx_tup hT, kit_ty (by decide +kernel), false, rfl, iteF ?_⟩
    refine ⟨_, rfl, _, _, _, _, true, rfl, .ty "tuple", tyx_tup hT, kit_ty (by decide +kernel), true, rfl, iteF ?_⟩
    refine ⟨_, rfl, _, .comp f as, rfl, hR0, hO, false, rfl, iteF ?_⟩
    refine ⟨_, rfl, a, _, rfl, .inr hT, _, _, rfl, rfl, _, rfl, a, _, 0, _, rfl, rfl, hT, at0, (by show 3 ≤ sizeLine; decide), fun p hp => ?_⟩
    have e : (((V.str f :: ws).length : Nat) : Int) - 1 = (as.length : Int) := by
      rw [List.length_cons]
      omega
    have r := q p hp
    show Q (.ref p) (upd H p (.tup [.int 3, .int ((((V.str f :: ws).length : Nat) : Int) - 1), .str f]))
    rw [e]
    exact r
/-! ### order_key -/
theorem ok_order_key (T : Tx K mg) : FnOk P w K mg base CX0 4 T.f_order_key T.d_order_key ["term"] (spKey K) := by
  refine T.h_order_key.F.ok sc_order_key (fun vs H Q E h => ?_) (fun cdv A outer s H vs Q E hr h => ?_)
  · obtain ⟨v, t, rfl, _⟩ := h
    rfl
  obtain ⟨v, t, rfl, hR, hO, hz, q⟩ := h
  refine ⟨_, (pss_one (ps_ret (pe_lc (own := [("part", 1)]) (g := gName 1) rfl sc_order_key.nd (pi_list (cl (ok_parts_of T) T.h_parts_of hr (pa_cons (pv 0) pa_nil))) (blkOk_by (own := [("part", 1)]) (N := ["term", "part"]) (sc := defScope s_order_key) (by decide +kernel)) (fun _ _ _ _ _ => pg_name (i := 1) sc_order_key.nd rfl (Or.inl rfl)) (fun _ _ _ _ _ => pts_nil) (fun _ _ _ _ _ => (cl (ok_head_of T) T.h_head_of hr (pa_cons (pv 1) pa_nil)))))), ?_⟩
  refine ⟨_, rfl, v, t, rfl, hR, hz, fun l ps H1 hl e1 hL hP => ?_⟩
  have hlen := hP.len
  rw [len_pre] at hlen
  refine ⟨l, rfl, ⟨ps, SqL.of hL⟩, fun D hD => ?_⟩
  have e2 := Ex.new (o := HO.lst []) hD
  have hfree : H D = none := by
    cases hz2 : H D with
    | none => rfl
    | some o =>
      have := e1 _ _ hz2
      rw [hD] at this
      cases this
  refine lc_it walk_list (fun i H' => Ex H1 H' ∧ ∃ us, H' D = some (.lst us) ∧ PySem.Paired (HdAt K H') us ((pre t).take i)) ⟨e2, [], upd_same, .nil⟩ (fun i H' _ h => SqL.of (h.1 l _ hL)) ?_ ?_
  · rintro i x H3x H3 hi ⟨e4, us, hU, hUs⟩ ⟨rfl, hx⟩
    obtain ⟨ti, hti, hri⟩ := (hP.mono (Tups.of e4)).get hx
    have hs : i < size t := by
      rw [← len_pre]
      exact (List.getElem?_eq_some_iff.mp hti).1
    refine ⟨rfl, yesI ⟨_, rfl, x, ti, rfl, hri, oks_get (ok_pre hO) hti, fun p hp => ?_⟩⟩
    have e5 := Ex.new (o := HO.tup (hdV ti)) hp
    have hU4 := e5 D _ hU
    have hl2 := Paired.length hUs
    rw [List.length_take] at hl2
    have t6 : Tups K (upd H3 p (.tup (hdV ti))) (upd (upd H3 p (.tup (hdV ti))) D (.lst (us ++ [V.ref p]))) := Tups.lst hU4
    refine ⟨us, hU4, small5' (by omega), Ex.mut (e4.trans e5) hD, us ++ [.ref p], upd_same, ?_⟩
    rw [take_snocT hti]
    exact Paired.snoc (Paired.mapP hUs fun w t ⟨q2, a, b⟩ => ⟨q2, a, t6 _ _ (Evl.ex_t e5 b)⟩) ⟨p, rfl, t6 _ _ (SqT.of upd_same)⟩
  · rintro H3 ⟨e4, us, hU, hUs⟩
    rw [← hlen, List.take_of_length_le (by rw [len_pre]; exact Nat.le_refl _)] at hUs
    exact q D H3 hfree (e1.trans e4) ⟨us, hU, hUs⟩
/-! ### two rules for keys -/
theorem eqv_keys : ∀ ts us : List Tm, PyData.eqv (.list (ts.map hdD)) (.list (us.map hdD)) = decide (kC (ts.map hcode) (us.map hcode) = 0)
  | [], [] => rfl
  | [], _ :: _ => rfl
  | _ :: _, [] => rfl
  | t :: ts, u :: us => by
    have ih := eqv_keys ts us
    show (PyData.eqv (hdD t) (hdD u) && PyData.eqv (.list (ts.map hdD)) (.list (us.map hdD))) = decide (lexC hC (hcode t :: ts.map hcode) (hcode u :: us.map hcode) = 0)
    rw [ih, eqv_hd, lexC_cons]
    by_cases e : hC (hcode t) (hcode u) = 0
    · rw [if_pos e, decide_eq_true e, Bool.true_and]
    · rw [if_neg e, decide_eq_false e, Bool.false_and]
theorem keys_lay : ∀ ts : List Tm, Oks ts → PyData.canLayAll0 (ts.map hdD) = true
  | [], _ => rfl
  | t :: ts, h => by
    rw [oks_cons] at h
    show ((hdD t).canLay0 && PyData.canLayAll0 (ts.map hdD)) = true
    rw [hd_lay t h.1, keys_lay ts h.2]
    rfl
theorem keys_dep : ∀ ts : List Tm, PyData.depthAll (ts.map hdD) ≤ 1
  | [] => Nat.zero_le _
  | t :: ts => by
    show max (hdD t).depth (PyData.depthAll (ts.map hdD)) ≤ 1
    rw [hd_depth]
    have := keys_dep ts
    omega
theorem keys_shaped {ts : List Tm} (h : Oks ts) : SeqAt.shaped (.list (ts.map hdD)) = true := by
  show (PyData.canLayAll0 (ts.map hdD) && decide (PyData.depthAll (ts.map hdD) + 1 ≤ 64)) = true
  have := keys_dep ts
  rw [keys_lay ts h, decide_eq_true (by omega)]
  rfl
end
end Hm

set_option Elab.async false
set_option linter.all false
set_option maxRecDepth 100000
set_option maxHeartbeats 4000000
/-! sorted(xs, key=f) where f's key is that of a term which the item holds; equal ones keep their turns -/
namespace Hm
open PySem PySem.Spec PySem.W PyProof.Rows SrtO
open L2 HT
open Evl (Ex)
def ltP (a b : Tm × V) : Bool := decide (tord a.1 b.1 < 0)
theorem ltP_swo : Swo ltP := by
  refine ⟨fun x y h => ?_, fun x y z h1 h2 => ?_⟩
  · have := of_decide_eq_true h
    have a := tord_ok.anti x.1 y.1
    exact decide_eq_false (by omega)
  · have h1 := of_decide_eq_false h1
    have h2 := of_decide_eq_false h2
    have a1 := tord_ok.anti x.1 y.1
    have a2 := tord_ok.anti y.1 z.1
    have a3 := tord_ok.anti x.1 z.1
    have t := tord_ok.tr _ _ _ (show tord x.1 y.1 ≤ 0 by omega) (show tord y.1 z.1 ≤ 0 by omega)
    exact decide_eq_false (by omega)
theorem pairG_get {α β : Type} {R : α → β → Prop} : ∀ {xs : List α} {ys : List β} {j : Nat} {x : α}, PySem.Paired R xs ys → xs[j]? = some x → ∃ y, ys[j]? = some y ∧ R x y
  | _, _, 0, _, .cons h t, e => by
    cases e
    exact ⟨_, rfl, h⟩
  | _, _, j + 1, _, .cons h t, e => pairG_get (j := j) t e
theorem zip_tv : ∀ Z : List Ent, (Z.map Ent.t).zip (Z.map Ent.v) = Z.map fun z => (z.t, z.v)
  | [] => rfl
  | z :: Z => by
    show (z.t, z.v) :: (Z.map Ent.t).zip (Z.map Ent.v) = _
    rw [zip_tv Z]
    rfl
theorem ltK_ent {Z : List Ent} (nd : (Z.map Ent.p).Nodup) {x y : Ent} (hx : x ∈ Z) (hy : y ∈ Z) : ltK Z (.ref x.p, x.u) (.ref y.p, y.u) = ltP (x.t, x.v) (y.t, y.v) := by
  unfold ltK ltP
  rw [code_at nd hx, code_at nd hy, ord_key]
def ltE (x y : Ent) : Bool := ltP (x.t, x.v) (y.t, y.v)
theorem p_inj {Z : List Ent} (nd : (Z.map Ent.p).Nodup) : ∀ {x y : Ent}, x ∈ Z → y ∈ Z → x.p = y.p → x = y := by
  induction Z with
  | nil => exact fun h => nomatch h
  | cons z Z ih =>
    intro x y hx hy e
    rw [List.map_cons, List.nodup_cons] at nd
    rcases List.mem_cons.1 hx with q1 | q1
    · rcases List.mem_cons.1 hy with q2 | q2
      · exact q1.trans q2.symm
      · have m : y.p ∈ Z.map Ent.p := List.mem_map_of_mem q2
        rw [← e, q1] at m
        exact absurd m nd.1
    · rcases List.mem_cons.1 hy with q2 | q2
      · have m : x.p ∈ Z.map Ent.p := List.mem_map_of_mem q1
        rw [e, q2] at m
        exact absurd m nd.1
      · exact ih nd.2 q1 q2 e
theorem map_inj_on {f : Ent → Keyed} : ∀ {A B : List Ent}, (∀ x ∈ A, ∀ y ∈ B, f x = f y → x = y) → A.map f = B.map f → A = B
  | [], [], _, _ => rfl
  | [], _ :: _, _, h => by cases h
  | _ :: _, [], _, h => by cases h
  | a :: A, b :: B, g, h => by
    rw [List.map_cons, List.map_cons] at h
    injection h with h1 h2
    rw [g a (List.mem_cons_self ..) b (List.mem_cons_self ..) h1, map_inj_on (fun x hx y hy => g x (List.mem_cons_of_mem _ hx) y (List.mem_cons_of_mem _ hy)) h2]
theorem filt_eq {Z A : List Ent} (nd : (Z.map Ent.p).Nodup) (hA : ∀ z ∈ A, z ∈ Z) {x : Ent} (hx : x ∈ Z) : (A.map fun z : Ent => ((.ref z.p, z.u) : Keyed)).filter (eqv (ltK Z) (.ref x.p, x.u)) = (A.filter (eqv ltE x)).map fun z : Ent => ((.ref z.p, z.u) : Keyed) := by
  rw [List.filter_map]
  congr 1
  refine List.filter_congr fun z hz => ?_
  show eqv (ltK Z) (.ref x.p, x.u) (.ref z.p, z.u) = eqv ltE x z
  unfold eqv ltE
  rw [ltK_ent nd hx (hA z hz), ltK_ent nd (hA z hz) hx]
theorem stb_back {Z Z' : List Ent} (nd : (Z.map Ent.p).Nodup) (h3 : ∀ z ∈ Z', z ∈ Z) (pZ : Z'.Perm Z) (h : Stb (ltK Z) (Z'.map fun z : Ent => ((.ref z.p, z.u) : Keyed)) (Z.map fun z : Ent => ((.ref z.p, z.u) : Keyed))) : Stb (fun x y : Ent => ltP ((fun z : Ent => (z.t, z.v)) x) ((fun z : Ent => (z.t, z.v)) y)) Z' Z := by
  have key : ∀ x ∈ Z, Z'.filter (eqv ltE x) = Z.filter (eqv ltE x) := fun x hx => by
    have c := h.cls (.ref x.p, x.u)
    rw [filt_eq nd h3 hx, filt_eq nd (fun z hz => hz) hx] at c
    refine map_inj_on (fun y hy z hz e => ?_) c
    have hy' := h3 y (List.mem_filter.1 hy).1
    have hz' := (List.mem_filter.1 hz).1
    refine p_inj nd hy' hz' ?_
    have e1 := congrArg Prod.fst e
    injection e1
  refine ⟨pZ, fun x => ?_⟩
  show Z'.filter (eqv ltE x) = Z.filter (eqv ltE x)
  by_cases ex : ∃ u, u ∈ Z ∧ eqv ltE x u = true
  · obtain ⟨u, hu, e⟩ := ex
    have O : Swo ltE := ⟨fun a b => ltP_swo.asym _ _, fun a b c => ltP_swo.tr _ _ _⟩
    have ef : eqv ltE x = eqv ltE u := funext fun v => eqv_trans O e
    rw [ef]
    exact key u hu
  · rw [List.filter_eq_nil_iff.mpr fun u hu q => ex ⟨u, h3 u hu, q⟩, List.filter_eq_nil_iff.mpr fun u hu q => ex ⟨u, hu, q⟩]
section
variable {X : Cx} {pins : List (Addr × Obj)} {σ : L2.St} {H : Hp} {s : Shared}
def spKeyG (K : PySem.W.Frag) (G : Hp → Tm → V → Prop) : Sp := fun vs H Q _ => ∃ v t, vs = [v] ∧ G H t v ∧ Ok t ∧ size t ≤ 50000 ∧ ∀ p H', H p = none → Ex H H' → KeyL K H' p (pre t) → Q (.ref p) H'
def rSrtG (K : PySem.W.Frag) (f : Addr) (G : Hp → Tm → V → Prop) : List V → List V → Hp → VK → Prop := fun vs zs H Q => ∃ a xs ts, vs = [V.ref a] ∧ zs = [V.ref f] ∧ (SqL K H a xs ∨ SqT K H a xs) ∧ PySem.Paired (fun v t => G H t v) xs ts ∧ Oks ts ∧ (∀ t ∈ ts, size t ≤ 50000) ∧ xs.length ≤ 1000 ∧
  ∀ p (Zs : List (Tm × V)) H', H p = none → Ex H H' → H' p = some (.lst (Zs.map (·.2))) → Stb ltP Zs (ts.zip xs) → Srtd ltP Zs → Q (.ref p) H'
theorem cr_srtG {k : Nat} {f : Addr} {fd : FuncData} {ps : List Str} {G : Hp → Tm → V → Prop} (hG : ∀ H H' t v, Ex H H' → G H t v → G H' t v) (F : FnOk X.prog X.w X.K X.mg X.base CX0 k f fd ps (spKeyG X.K G)) (hb : Binds X.K fd ps []) (hr : Room (k + 2) X.A) : CallRK X (.builtin "sorted") [Str.ofString "key"] (rSrtG X.K f G) := by
  intro pins s σ H vs zs us ws Q I r rz h
  obtain ⟨a, xs, ts, rfl, rfl, hS, hR, hO, hz0, hx, q⟩ := h
  have hz' : ∀ (t : Tm) {j : Nat}, ts[j]? = some t → size t ≤ 50000 := fun t j e => hz0 t (List.mem_of_getElem? e)
  obtain rfl := Vals.ref1 r
  obtain ⟨w1, rfl, e1⟩ := vals1 rz
  obtain rfl : w1 = Value.ref f := e1
  obtain ⟨its, rv, T, o, n, hT, ho, hc, hd⟩ : ∃ its, Vals xs its ∧ ∃ (T : String) (o : Obj) (n : Nat), (T = "list" ∨ T = "tuple") ∧ s.heap.get? a = some o ∧ o.cls = .type T ∧ o.data = .seq its.toArray n := by
    rcases hS with hS | hS
    · obtain ⟨its, rv, hl, _⟩ := I.list hS
      obtain ⟨o, ho, hc, n, hd⟩ := hl.isList
      exact ⟨its, rv, "list", o, n, .inl rfl, ho, hc, hd⟩
    · obtain ⟨its, rv, ⟨o, ho, hc, n, hd⟩, _⟩ := I.tuple hS
      exact ⟨its, rv, "tuple", o, n, .inr rfl, ho, hc, hd⟩
  have hlen : its.length ≤ 1000 := by rw [← rv.length]; exact hx
  have hsz : its.length ≤ sizeLine := Nat.le_trans hlen (by decide)
  refine call_function_entry_kw kind_sorted plain_sorted entry_sorted (ksk_s1 _ _) ?_
  unfold Builtin.«sorted»
  refine wpAny_bind (m := checkCount "sorted" 1 1 _) (wpAny_pure ?_)
  refine wpAny_bind (wpAny_collect_seq a hT ho hc hd (fun h1 k1 => ?_) (by rw [List.size_toArray]; exact hsz))
  have I1 : Inv X pins σ H { s with heap := h1 } := I.kept (t' := s.toks) k1
  rw [List.toList_toArray]
  refine wpAny_bind (wpAny_newList ?_ hsz)
  have fL : H h1.objs.size = none := I1.hok.fresh (Nat.le_refl _)
  have frL : Fre X pins h1.objs.size := Fre.of I1 (Nat.le_refl _)
  have hoL : (h1.push (seqObj "list" its.toArray 0)).get? h1.objs.size = some (seqObj "list" its.toArray 0) := Heap.get?_push_size _ rfl
  have I2 : Inv X pins σ H { s with heap := h1.push (seqObj "list" its.toArray 0) } := I1.kept (t' := s.toks) fun b u e => Heap.get?_push_of_some _ e
  generalize h1.objs.size = L at *
  refine wpAny_bind (wpAny_holding (wpAny_call_entry_kw slot_list_sort ⟨_, hoL, rfl⟩ entry_list_sort ?body (ksk_l1 _ _)))
  case body =>
    show wpAny (model X.prog X.w) X.A.in1.in1 (Builtin.«list.sort» ⟨[.ref L], [(Str.ofString "key", .ref f)]⟩) _ _ _
    rw [ksk_t1]
    unfold ksk_tree
    refine wpAny_bind (listItems_at hoL rfl ?_)
    refine wpAny_bind (listUpdate_at hoL rfl ?_ (by rw [List.size_toArray]; exact hsz) (Nat.zero_le _))
    obtain ⟨e1, ho1⟩ : ∃ e1, ((h1.push (seqObj "list" its.toArray 0)).update L (Obj.mapSeq fun _ => (#[] : Array Value))).get? L = some (seqObj "list" #[] e1) := ⟨_, get?_update_seq hoL fun _ => #[]⟩
    have I3 : Inv X pins σ H { s with heap := (h1.push (seqObj "list" its.toArray 0)).update L (Obj.mapSeq fun _ => (#[] : Array Value)) }     := touched (s := { s with heap := h1.push (seqObj "list" its.toArray 0) }) I2 frL fL fun b u hb hu => (Heap.get?_update_ne _ _ _ _ hb).trans hu
    refine wpAny_bind (seqEpoch_at ho1 rfl ?_)
    generalize (h1.push (seqObj "list" its.toArray 0)).update L (Obj.mapSeq fun _ => (#[] : Array Value)) = h3 at *
    refine wpAny_bind (wpAny_newTuple ?_ (by rw [List.toList_toArray]; exact hsz))
    refine wpAny_bind (wpAny_newList ?_ (Nat.zero_le _))
    refine wpAny_holding ?_
    rw [List.toList_toArray]
    have I4 : Inv X pins σ H { s with heap := h3.push (seqObj "tuple" its.toArray 0) } := I3.kept (t' := s.toks) fun b u e => Heap.get?_push_of_some _ e
    have ho4 : (h3.push (seqObj "tuple" its.toArray 0)).get? L = some (seqObj "list" #[] e1) := Heap.get?_push_of_some _ ho1
    generalize hh4 : h3.push (seqObj "tuple" its.toArray 0) = h4 at *
    have I4 := pinned I4 frL fL ho4 (fun v z => by cases z)
    have fK : H h4.objs.size = none := I4.hok.fresh (Nat.le_refl _)
    have hoK : (h4.push (seqObj "list" #[] 0)).get? h4.objs.size = some (seqObj "list" #[] 0) := Heap.get?_push_size _ rfl
    have I5 : Inv X ((L, seqObj "list" #[] e1) :: pins) σ (upd H h4.objs.size (.lst [])) { s with heap := h4.push (seqObj "list" #[] 0) } := I4.laid (t' := s.toks) (fun b u e => Heap.get?_push_of_some _ e) (Nat.le_refl _) ⟨Nat.zero_le _, [], 0, .nil, hoK⟩
    have hLK : L ≠ h4.objs.size := Nat.ne_of_lt (Heap.lt_size ho4)
    generalize h4.objs.size = kS at *
    unfold ksk_rest
    refine wpAny_bind (wpAny_rule ?_)
    rw [List.forIn_toArray]
    refine wpAny_bind (ksk_fold (fun j s' => ∃ (H' : Hp) (Z : List Ent), Inv X ((L, seqObj "list" #[] e1) :: pins) σ H' s' ∧ Ex H H' ∧ H' kS = some (.lst (Z.map fun z => V.ref z.p)) ∧ Z.map Ent.t = ts.take j ∧ Z.map Ent.u = its.take j ∧ Z.map Ent.v = xs.take j ∧ (Z.map Ent.p).Nodup ∧ ∀ z ∈ Z, z.p ≠ kS ∧ KeyL X.K H' z.p (pre z.t) ∧ G H z.t z.v ∧ RelV z.v z.u) its 0 _ ?init ?step ?done)
    case init =>
      exact ⟨_, [], I5, Ex.new fK, upd_same, rfl, rfl, rfl, List.nodup_nil, fun z hz => by cases hz⟩
    case step =>
      rintro j u s' hju ⟨H', Z, I', eH, hK', zt, zu, zv, nd, hz⟩
      simp only [Nat.zero_add] at zt zu zv ⊢
      obtain ⟨x, hxj, hxu⟩ := vals_at rv hju
      obtain ⟨t, htj, hrt⟩ := pairG_get hR hxj
      refine wpAny_bind (wpAny_attempt (wpAny_mono (run2 (Q := fun v H2 => ∃ p, v = .ref p ∧ H' p = none ∧ Ex H' H2 ∧ KeyL X.K H2 p (pre t)) F (hr.in1.in1) hb I' (.cons hxu .nil) ⟨x, t, rfl, hG _ _ _ _ eH hrt, oks_get hO htj, hz' t htj, fun p H2 hp e2 hk => ⟨p, rfl, hp, e2, hk⟩⟩) (fun kv s2 he => ?_) fun _ _ hF => hF.elim))
      obtain ⟨v, H2, I6, rkv, p, rfl, hp, e2, hky⟩ := he
      have hK2 := e2 _ _ hK'
      have zlen : Z.length = j := by
        have := congrArg List.length zu
        rw [List.length_map, List.length_take] at this
        have hj : j < its.length := (List.getElem?_eq_some_iff.mp hju).1
        omega
      have hj : j < its.length := (List.getElem?_eq_some_iff.mp hju).1
      obtain ⟨hz2, kis, kn, kv2, hgK⟩ := I6.hok _ _ hK2
      obtain ⟨c2, hc2⟩ : ∃ c2, (s2.heap.update kS (Obj.mapSeq (·.push kv))).get? kS = some (seqObj "list" (kis.toArray.push kv) c2) := ⟨_, get?_update_seq hgK (·.push kv)⟩
      have kl : kis.length = j := by
        rw [← kv2.length, List.length_map, zlen]
      have e3 : kis.toArray.push kv = (kis ++ [kv]).toArray := by simp
      rw [e3] at hc2
      refine wpAny_bind (listUpdate_at hgK rfl ?_ (by rw [List.size_toArray, kl]; omega) (by rw [Array.size_push, List.size_toArray, kl]; omega))
      have hpK : p ≠ kS := (ne_of_none hK' hp).symm
      have I7 : Inv X ((L, seqObj "list" #[] e1) :: pins) σ (upd H2 kS (.lst ((Z ++ [(⟨p, x, u, t⟩ : Ent)]).map fun z => V.ref z.p))) { s2 with heap := s2.heap.update kS (Obj.mapSeq (·.push kv)) } :=
        I6.write (e := kS) (t' := s2.toks) (by rw [hK2]; trivial) (.inl rfl) (fun b u hb hu => (Heap.get?_update_ne _ _ _ _ hb).trans hu) ⟨_, hc2⟩ ⟨by rw [List.length_map, List.length_append, zlen]; show j + 1 ≤ _; omega, kis ++ [kv], c2, by rw [List.map_append]; exact kv2.append (.cons rkv .nil), hc2⟩
      refine wpAny_pure ⟨rfl, _, Z ++ [⟨p, x, u, t⟩], I7, Ex.mut (eH.trans e2) fK, upd_same, ?_, ?_, ?_, ?_, fun z hm => ?_⟩
      · rw [List.map_append, zt, List.take_add_one, htj]
        rfl
      · rw [List.map_append, zu, List.take_add_one, hju]
        rfl
      · rw [List.map_append, zv, List.take_add_one, hxj]
        rfl
      · rw [List.map_append, List.nodup_append]
        refine ⟨nd, by simp, fun y hy z hzz e => ?_⟩
        simp only [List.map_cons, List.map_nil, List.mem_singleton] at hzz
        subst hzz
        subst e
        obtain ⟨y, hy1, hy2⟩ := List.mem_map.mp hy
        obtain ⟨_, ⟨ws, hk, _⟩, _⟩ := hz y hy1
        rw [hy2, hp] at hk
        cases hk
      · rcases List.mem_append.mp hm with hm | hm
        · obtain ⟨a1, a3, a4, a5⟩ := hz z hm
          exact ⟨a1, (a3.ex e2).put hK2 a1, a4, a5⟩
        · have := List.mem_singleton.mp hm
          subst this
          exact ⟨hpK, hky.put hK2 hpK, hrt, hxu⟩
    case done =>
      rintro s' ⟨H', Z, I', eH, hK', zt, zu, zv, nd, hz⟩
      simp only [Nat.zero_add] at zt zu zv
      have lts : ts.length = its.length := by rw [← hR.length, rv.length]
      have lxs := rv.length
      rw [List.take_of_length_le (by omega)] at zt zu zv
      obtain ⟨hz2, kis, kn, kv2, hgK⟩ := I'.hok _ _ hK'
      have ek := vals_refs kv2
      have lK : kis.length = its.length := by rw [ek, ← zu, List.length_map, List.length_map]
      obtain ⟨hgL, nL, _⟩ := I'.pin (L, seqObj "list" #[] e1) (List.mem_append_right _ List.mem_cons_self)
      have ez : (kis.toArray.zip its.toArray).toList = Z.map fun z => (Value.ref z.p, z.u) := by
        rw [ksk_zip, List.toList_toArray, ek, ← zu, zip_ents]
      have rd : ∀ z ∈ Z, ∃ as, Reads s'.heap (.ref z.p) (.list ((pre z.t).map hdD)) as := fun z hm => Dp.reads I' _ _ _ (hz z hm).2.1.dp rfl
      have okz : ∀ z ∈ Z, Ok z.t := fun z hm => by
        have : z.t ∈ ts := by rw [← zt]; exact List.mem_map_of_mem hm
        obtain ⟨i, hi, e⟩ := List.getElem_of_mem this
        exact oks_get hO (by rw [List.getElem?_eq_getElem hi, e])
      refine wpAny_bind (listItems_at hgK rfl ?_)
      refine srt_end (P := fun p => ∃ z ∈ Z, p.1 = .ref z.p) (lt := ltK Z) (ltK_swo Z) hLK.symm (by rw [List.size_toArray]; exact hsz) (by rw [List.size_toArray, List.size_toArray, lK]) hgK hgL (fun _ => ?_) (fun p hp => ?_) (fun v hv => ?_) fun out h1 h2 => ?_
      · rintro x y ⟨z, z1, z2⟩ ⟨z', z1', z2'⟩
        show wpAny _ _ (keyLt' oneType' x.1 y.1) (fun r s'' => s'' = s' ∧ r = ltK Z x y) _ s'
        have el : ltK Z x y = decide (kC (kcode z.t) (kcode z'.t) < 0) := by
          unfold ltK
          rw [z2, z2', code_at nd z1, code_at nd z1']
        rw [z2, z2', keyLt'_oneType, oneLt'_eq, el]
        simp only [if_true]
        obtain ⟨as, r1⟩ := rd z z1
        obtain ⟨bs, r2⟩ := rd z' z1'
        have un := hr.un
        have du : X.A.in1.in1.units = X.A.units + 2 := rfl
        cases r1 with
        | @list p1 o1 vs1 n1 _ as1 a1 a2 a3 a4 =>
          cases r2 with
          | @list p2 o2 vs2 n2 _ as2 b1 b2 b3 b4 =>
            refine wpAny_bind (wpAny_cRoomFor (by rw [du]; omega) ?_)
            refine wpAny_bind (wpAny_callSpecialIfBound?_slot (T := "list") ⟨_, a1, a2⟩ PySem.F.slot_list_lt (call_lst ⟨o1, a1, a2, n1, a3⟩ ⟨o2, b1, b2, n2, b3⟩ (heads_dec (A := X.A.in1.in1.in1) (by show X.A.units + 3 + 2 < _; omega) _ _ _ _ _ _ (ok_pre (okz z z1)) (ok_pre (okz z' z1')) a4 b4) ?_))
            exact wpAny_truthy_bool ⟨rfl, rfl⟩
      · rw [ez] at hp
        obtain ⟨z, hm, e⟩ := List.mem_map.mp hp
        exact ⟨z, hm, by rw [← e]⟩
      · rw [List.toList_toArray, ek] at hv
        obtain ⟨z, hm, e⟩ := List.mem_map.mp hv
        obtain ⟨as, r1⟩ := rd z hm
        rw [← e]
        exact looks_reads r1
      · rw [ez] at h2
        obtain ⟨Z', pZ, eZ⟩ := perm_back h2.perm Z rfl
        have hz3 : ∀ z ∈ Z', z ∈ Z := fun z hm => pZ.mem_iff.mp hm
        have eo : (out.map (·.2)) = Z'.map Ent.u := by rw [eZ, List.map_map]; rfl
        have lZ : Z'.length = its.length := by rw [pZ.length_eq, ← zu, List.length_map]
        obtain ⟨c2, hc2⟩ : ∃ c2, (s'.heap.update kS (Obj.mapSeq fun _ => (#[] : Array Value))).get? kS = some (seqObj "list" #[] c2) := ⟨_, get?_update_seq hgK fun _ => #[]⟩
        have I8 : Inv X pins σ (upd H' kS (.lst [])) { s' with heap := s'.heap.update kS (Obj.mapSeq fun _ => (#[] : Array Value)) } :=
          (unpinned I').write (e := kS) (t' := s'.toks) (by rw [hK']; trivial) (.inl rfl) (fun b u hb hu => (Heap.get?_update_ne _ _ _ _ hb).trans hu) ⟨_, hc2⟩ ⟨Nat.zero_le _, [], c2, .nil, hc2⟩
        have hgL8 : (s'.heap.update kS (Obj.mapSeq fun _ => (#[] : Array Value))).get? L = some (seqObj "list" #[] e1) := (Heap.get?_update_ne _ _ _ _ hLK).trans hgL
        have nL8 : upd H' kS (.lst []) L = none := by rw [upd_ne hLK]; exact nL
        obtain ⟨c3, hc3⟩ : ∃ c3, ((s'.heap.update kS (Obj.mapSeq fun _ => (#[] : Array Value))).update L (Obj.mapSeq fun _ => (out.map (·.2)).toArray)).get? L = some (seqObj "list" (out.map (·.2)).toArray c3) := ⟨_, get?_update_seq hgL8 fun _ => (out.map (·.2)).toArray⟩
        have I9 : Inv X pins σ (upd (upd H' kS (.lst [])) L (.lst (Z'.map Ent.v))) { s' with heap := (s'.heap.update kS (Obj.mapSeq fun _ => (#[] : Array Value))).update L (Obj.mapSeq fun _ => (out.map (·.2)).toArray) } :=
          adopt (s := { s' with heap := s'.heap.update kS (Obj.mapSeq fun _ => (#[] : Array Value)) }) I8 frL nL8 (fun b u hb hu => (Heap.get?_update_ne _ _ _ _ hb).trans hu) ⟨by rw [List.length_map, lZ]; exact hsz, out.map (·.2), c3, by rw [eo]; exact vals_ents fun z hm => (hz z (hz3 z hm)).2.2.2, hc3⟩
        have eH9 : Ex H (upd (upd H' kS (.lst [])) L (.lst (Z'.map Ent.v))) := Ex.mut (Ex.mut eH fK) fL
        have ezip : ts.zip xs = Z.map fun z => (z.t, z.v) := by
          rw [← zt, ← zv]
          exact zip_tv Z
        refine ⟨_, rfl, wpAny_pure ⟨_, rfl, .ref L, _, I9, rfl, q L (Z'.map fun z => (z.t, z.v)) _ fL eH9 (by rw [upd_same, List.map_map]; rfl) ?_ ?_⟩⟩
        · rw [ezip]
          exact Stb.map ltP_swo (fun z : Ent => (z.t, z.v)) (stb_back nd hz3 pZ (by rw [← eZ]; exact h2))
        · have h1' := h1
          unfold Srtd at h1'
          rw [eZ, List.pairwise_map] at h1'
          unfold Srtd
          refine List.pairwise_map.mpr (h1'.imp_of_mem fun {x y} hx hy g => ?_)
          rw [ltK_ent nd (hz3 y hy) (hz3 x hx)] at g
          exact g
end
end Hm

set_option Elab.async false
set_option linter.all false
set_option maxRecDepth 100000
set_option maxHeartbeats 1000000
namespace Hm
open PySem PySem.Spec PyProof.Rows L2 HT
open Evl (Ex)
/-- of terms in their order: equal ones once -/
def onceT : Option Tm → List Tm → List Tm
  | _, [] => []
  | l, t :: ts => (match l with
    | some s => if tord t s = 0 then [] else [t]
    | none => [t]) ++ onceT (some t) ts
theorem onceT_snoc : ∀ (l : Option Tm) (ts : List Tm) (t : Tm), onceT l (ts ++ [t]) = onceT l ts ++ (match (ts.getLast?.or l) with
    | some s => if tord t s = 0 then [] else [t]
    | none => [t])
  | l, [], t => by
    show (match l with | some s => if tord t s = 0 then [] else [t] | none => [t]) ++ [] = [] ++ _
    rw [List.append_nil, List.nil_append]
    rfl
  | l, u :: ts, t => by
    show _ ++ onceT (some u) (ts ++ [t]) = (_ ++ onceT (some u) ts) ++ _
    rw [onceT_snoc (some u) ts t, List.append_assoc, List.getLast?_cons]
    congr 2
    cases ts.getLast? <;> rfl
theorem len_once : ∀ (l : Option Tm) (ts : List Tm), (onceT l ts).length ≤ ts.length
  | _, [] => Nat.le_refl _
  | l, t :: ts => by
    have := len_once (some t) ts
    show ((match l with | some s => if tord t s = 0 then [] else [t] | none => [t]) ++ onceT (some t) ts).length ≤ ts.length + 1
    rw [List.length_append]
    cases l with
    | none => show 1 + _ ≤ _; omega
    | some s =>
      show (if tord t s = 0 then [] else [t]).length + _ ≤ _
      split
      · show 0 + _ ≤ _; omega
      · show 1 + _ ≤ _; omega
section
variable {P : Program} {w : World} {K : PySem.W.Frag} {mg : Str → Option Value} {base : Heap}
theorem oks_all : ∀ {ts : List Tm}, Oks ts ↔ ∀ t ∈ ts, Ok t
  | [] => ⟨fun _ t h => absurd h List.not_mem_nil, fun _ => by rw [Oks]; trivial⟩
  | t :: ts => by
    rw [oks_cons, oks_all (ts := ts)]
    exact ⟨fun h u hu => (List.mem_cons.1 hu).elim (fun e => e ▸ h.1) (h.2 u), fun h => ⟨h t (List.mem_cons_self ..), fun u hu => h u (List.mem_cons_of_mem _ hu)⟩⟩
/-! ### sorted_once -/
def spOnce (K : PySem.W.Frag) : Sp := fun vs H Q _ => ∃ a xs ts, vs = [.ref a] ∧ H a = some (.lst xs) ∧ Reps K H ts xs ∧ Oks ts ∧ (∀ t ∈ ts, size t ≤ 50000) ∧ xs.length ≤ 1000 ∧
  ∀ p ys us H', H p = none → Ex H H' → H' p = some (.lst ys) → us.Perm ts → Rising us → Reps K H' (onceT none us) ys → Q (.ref p) H'
/-- what `last` holds -/
def LastK (K : PySem.W.Frag) (H : Hp) (pf : Addr) : Option Tm → V → Prop
  | none, v => v = .non
  | some t, v => ∃ p, v = .ref p ∧ p ≠ pf ∧ KeyL K H p (pre t)
theorem ok_sorted_once (T : Tx K mg) : FnOk P w K mg base CX0 8 T.f_sorted_once T.d_sorted_once ["terms"] (spOnce K) := by
  refine T.h_sorted_once.F.ok sc_sorted_once (fun vs H Q E h => ?_) (fun cdv A outer s H vs Q E hr h => ?_)
  · obtain ⟨v, _, _, rfl, _⟩ := h
    rfl
  obtain ⟨a, xs, ts, rfl, hS, hR, hO, hz, hx, q⟩ := h
  refine ⟨_, (pss_cons (ps_set (i := 1) sc_sorted_once.nd rfl (Or.inl rfl) (pe_lst pa_nil))
    (pss_cons (ps_set (i := 2) sc_sorted_once.nd rfl (Or.inl rfl) pe_non)
    (pss_cons (ps_for PassesOwn.never rfl (pi_list (pe_callBK (cr_srt (ok_order_key T) T.h_order_key.b (hr.mono (by omega))) rfl T.b_sorted (by decide +kernel) (pa_cons (pv 0) pa_nil) (pk_cons (pe_glob (v := .ref T.f_order_key) rfl T.h_order_key.m rfl) pk_nil))) (pg_name (i := 3) sc_sorted_once.nd rfl (Or.inl rfl))
      (pss_cons (ps_set (i := 4) sc_sorted_once.nd rfl (Or.inl rfl) (cl (ok_order_key T) T.h_order_key hr (pa_cons (pv 3) pa_nil)))
    (pss_cons (ps_if (pt_cmpR (op_neD hr.units) (pv 4) (pv 2) (nomark _))
      (pss_one (ps_expr (pe_bm PySem.F.plainAttrs_list PySem.F.slot_list_append PySem.F.type_list_append mt_append (pv 1) (pa_cons (pv 3) pa_nil))))
      pss_nil)
    (pss_one (ps_set (i := 2) sc_sorted_once.nd rfl (Or.inl rfl) (pv 4))))))
    (pss_one (ps_ret (pv 1)))))), ?_⟩
  refine ⟨Nat.zero_le _, fun pf hpf => ?_⟩
  have e1 := Ex.new (o := HO.lst []) hpf
  have hF1 : upd H pf (.lst []) pf = some (.lst []) := upd_same
  generalize upd H pf (.lst []) = H1 at *
  have t1 := Tups.of (K := K) e1
  refine ⟨_, rfl, a, xs, ts, rfl, rfl, .inl (SqL.of (e1 _ _ hS)), hR.mono t1, hO, hz, hx, fun p2 ys us H2 hp2 e2 hL hRs pm ri => ?_⟩
  have hF2 := e2 _ _ hF1
  have n2 : p2 ≠ pf := fun e => by rw [e, hF1] at hp2; cases hp2
  have okU : Oks us := oks_all.mpr fun t ht => oks_all.mp hO t (pm.mem_iff.mp ht)
  have szU : ∀ t ∈ us, size t ≤ 50000 := fun t ht => hz t (pm.mem_iff.mp ht)
  have lU := hRs.len
  have lT := hR.len
  have lP := pm.length_eq
  refine ⟨p2, rfl, ⟨ys, SqL.of hL⟩, for_list (fun i σ' H' => ∃ v x3 x4 fs, σ' = [some (.ref a), some (.ref pf), some v, x3, x4] ∧ Ex H H' ∧ H' p2 = some (.lst ys) ∧ Reps K H' us ys ∧ H' pf = some (.lst fs) ∧ Reps K H' (onceT none (us.take i)) fs ∧ LastK K H' pf (us.take i).getLast? v) ⟨_, none, none, [], rfl, e1.trans e2, hL, hRs, hF2, by rw [List.take_zero]; exact Reps.nil, rfl⟩ (fun i σ' H' _ ⟨_, _, _, _, _, _, h, _⟩ => SqL.of h) ?_ ?_⟩
  · rintro i x σ' H' hx2 ⟨v, x3, x4, fs, rfl, eH, hL', hR', hF, hRf, hLK⟩
    obtain ⟨ti, hti, hri⟩ := hR'.get hx2
    have hmi := List.mem_of_getElem? hti
    refine ⟨_, rfl, x, ti, rfl, hri, oks_get okU hti, szU ti hmi, fun p H3 hp e3 hk => ?_⟩
    have t3 := Tups.of (K := K) e3
    have hF3 := e3 _ _ hF
    have np : p ≠ pf := fun e => by rw [e, hF] at hp; cases hp
    have hlen := hRf.len
    have hl2 := len_once none (us.take i)
    rw [List.length_take] at hl2
    have htk : us.take (i + 1) = us.take i ++ [ti] := take_snocT hti
    have key : ∀ b : Bool, b = (match (us.take i).getLast? with | some s => !decide (tord ti s = 0) | none => true) → onceT none (us.take (i + 1)) = onceT none (us.take i) ++ (if b then [ti] else []) := fun b hb => by
      rw [htk, onceT_snoc, Option.or_none]
      congr 1
      subst hb
      cases (us.take i).getLast? with
      | none => rfl
      | some s =>
        by_cases z : tord ti s = 0
        · show (if tord ti s = 0 then [] else [ti]) = if (!decide (tord ti s = 0)) then [ti] else []
          rw [if_pos z, decide_eq_true z]
          rfl
        · show (if tord ti s = 0 then [] else [ti]) = if (!decide (tord ti s = 0)) then [ti] else []
          rw [if_neg z, decide_eq_false z]
          rfl
    have hgl : (us.take (i + 1)).getLast? = some ti := by rw [htk, List.getLast?_append]; rfl
    have eH3 := eH.trans e3
    have step : ∀ b : Bool, b = (match (us.take i).getLast? with | some s => !decide (tord ti s = 0) | none => true) → ∀ H4, H4 = (if b then upd H3 pf (.lst (fs ++ [x])) else H3) → Ex H H4 ∧ H4 p2 = some (.lst ys) ∧ Reps K H4 us ys ∧ H4 pf = some (.lst (fs ++ if b then [x] else [])) ∧ Reps K H4 (onceT none (us.take (i + 1))) (fs ++ if b then [x] else []) ∧ KeyL K H4 p (pre ti) := fun b hb H4 h4 => by
      rw [key b hb]
      subst h4
      cases b with
      | true =>
        show Ex H (upd H3 pf (.lst (fs ++ [x]))) ∧ upd H3 pf (.lst (fs ++ [x])) p2 = some (.lst ys) ∧ Reps K (upd H3 pf (.lst (fs ++ [x]))) us ys ∧ upd H3 pf (.lst (fs ++ [x])) pf = some (.lst (fs ++ [x])) ∧ Reps K (upd H3 pf (.lst (fs ++ [x]))) (onceT none (us.take i) ++ [ti]) (fs ++ [x]) ∧ KeyL K (upd H3 pf (.lst (fs ++ [x]))) p (pre ti)
        have t4 : Tups K H3 (upd H3 pf (.lst (fs ++ [x]))) := Tups.lst hF3
        refine ⟨Ex.mut eH3 hpf, ?_, (hR'.mono t3).mono t4, upd_same, ?_, hk.put hF3 np⟩
        · rw [upd_ne n2]
          exact e3 _ _ hL'
        · exact ((hRf.mono t3).mono t4).app (Reps.one ((hri.mono t3).mono t4))
      | false =>
        show Ex H H3 ∧ H3 p2 = some (.lst ys) ∧ Reps K H3 us ys ∧ H3 pf = some (.lst (fs ++ [])) ∧ Reps K H3 (onceT none (us.take i) ++ []) (fs ++ []) ∧ KeyL K H3 p (pre ti)
        rw [List.append_nil, List.append_nil]
        exact ⟨eH3, e3 _ _ hL', hR'.mono t3, hF3, hRf.mono t3, hk⟩
    have hx' := hF3
    cases hg : (us.take i).getLast? with
    | none =>
      rw [hg] at hLK step
      obtain rfl := hLK
      refine ⟨_, rfl, _, rfl, _, _, hk.dp, .non, keys_shaped (ok_pre (oks_get okU hti)), rfl, true, rfl, iteT ?_⟩
      obtain ⟨f1, f2, f3, f4, f5, f6⟩ := step true rfl _ rfl
      refine ⟨_, rfl, .inl ⟨rfl, fs, SqL.of hF3⟩, _, rfl, pf, fs, _, rfl, rfl, hF3, small5' (by omega), ?_⟩
      exact ⟨_, rfl, _, _, _, _, rfl, f1, f2, f3, f4, f5, by rw [hgl]; exact ⟨p, rfl, np, f6⟩⟩
    | some s =>
      rw [hg] at hLK step
      obtain ⟨pl, rfl, nl, hkl⟩ := hLK
      refine ⟨_, rfl, _, rfl, _, _, hk.dp, (hkl.ex e3).dp, keys_shaped (ok_pre (oks_get okU hti)), keys_shaped (ok_pre ?_), _, rfl, ?_⟩
      · exact oks_all.mp okU _ (List.mem_of_mem_take (List.mem_of_getLast? hg))
      rw [eqv_keys]
      have ek : kC ((pre ti).map hcode) ((pre s).map hcode) = tord ti s := ord_key _ _
      rw [ek]
      by_cases z : tord ti s = 0
      · rw [decide_eq_true z]
        obtain ⟨f1, f2, f3, f4, f5, f6⟩ := step false (by show false = !decide (tord ti s = 0); rw [decide_eq_true z]; rfl) _ rfl
        refine iteF ?_
        exact ⟨_, rfl, _, _, _, _, rfl, f1, f2, f3, f4, f5, by rw [hgl]; exact ⟨p, rfl, np, f6⟩⟩
      · rw [decide_eq_false z]
        obtain ⟨f1, f2, f3, f4, f5, f6⟩ := step true (by show true = !decide (tord ti s = 0); rw [decide_eq_false z]; rfl) _ rfl
        refine iteT ?_
        refine ⟨_, rfl, .inl ⟨rfl, fs, SqL.of hF3⟩, _, rfl, pf, fs, _, rfl, rfl, hF3, small5' (by omega), ?_⟩
        exact ⟨_, rfl, _, _, _, _, rfl, f1, f2, f3, f4, f5, by rw [hgl]; exact ⟨p, rfl, np, f6⟩⟩
  · rintro σ' H' ⟨v, x3, x4, fs, rfl, eH, hL', hR', hF, hRf, _⟩
    rw [← lU, List.take_length] at hRf
    exact ⟨_, rfl, q pf fs us H' hpf eH hF pm ri hRf⟩
end
end Hm

set_option Elab.async false
set_option linter.all false
set_option maxRecDepth 100000
set_option maxHeartbeats 2000000
namespace Hm
open PySem PySem.Spec PyProof.Rows L2 HT
open Evl (Ex)
section
variable {P : Program} {w : World} {K : PySem.W.Frag} {mg : Str → Option Value} {base : Heap}
/-! ### _witness_key -/
/-- a pair of a witness and something -/
def WAt (K : PySem.W.Frag) (H : Hp) (t : Tm) (v : V) : Prop := ∃ a x y, v = .ref a ∧ SqT K H a [x, y] ∧ Rep K H t x
theorem ok_witness_key (T : Tx K mg) : FnOk P w K mg base CX0 5 T.f_witness_key T.d_witness_key ["pair"] (spKeyG K (WAt K)) := by
  refine T.h_witness_key.F.ok sc_witness_key (fun vs H Q E h => ?_) (fun cdv A outer s H vs Q E hr h => ?_)
  · obtain ⟨v, t, rfl, _⟩ := h
    rfl
  obtain ⟨v, t, rfl, ⟨a, x, y, rfl, hS, hR⟩, hO, hz, q⟩ := h
  refine ⟨_, (pss_one (ps_ret (cl (ok_order_key T) T.h_order_key hr (pa_cons (pe_ix ix_tup (pv 0) pe_int (fun _ _ => rfl)) pa_nil)))), ?_⟩
  exact ⟨_, rfl, a, _, 0, _, rfl, rfl, hS, at0, _, _, rfl, hR, hO, hz, q⟩
/-! ### _is_pair -/
def pairD : Od → Bool
  | .tup [a, b] => isT a && isT b
  | _ => false
def spIsPair (K : PySem.W.Frag) : Sp := fun vs H Q _ => ∃ v d, vs = [v] ∧ OdAt K H v d ∧ sizeD d ≤ 60000 ∧ ∀ H', Ex H H' → Q (.bl (pairD d)) H'
theorem ok_is_pair (T : Tx K mg) : FnOk P w K mg base CX0 5 T.f_is_pair T.d_is_pair ["pair"] (spIsPair K) := by
  refine T.h_is_pair.F.ok sc_is_pair (fun vs H Q E h => ?_) (fun cdv A outer s H vs Q E hr h => ?_)
  · obtain ⟨x, d, rfl, _⟩ := h
    rfl
  obtain ⟨x, d, rfl, hv, hz, q⟩ := h
  have ty := ty_od hv
  refine ⟨_, (pss_one (ps_ret (pe_and (pe_callB call_isi rfl T.b_isinstance (by decide +kernel) (pa_cons (pv 0) (pa_cons (pe_bltn (v := .ty "tuple") (u := .type "tuple") rfl T.b_tuple (by decide +kernel) rfl) pa_nil))) (pe_and (pe_cmpR op_eq (pe_callB call_len_seq rfl T.b_len (by decide +kernel) (pa_cons (pv 0) pa_nil)) pe_int (nomark _)) (pe_and (cl (ok_is_term T) T.h_is_term hr (pa_cons (pe_ix ix_tup (pv 0) pe_int (fun _ _ => rfl)) pa_nil)) (pe_one (cl (ok_is_term T) T.h_is_term hr (pa_cons (pe_ix ix_tup (pv 0) pe_int (fun _ _ => rfl)) pa_nil)))))))), ?_⟩
  cases hv with
  | str z => exact ⟨_, rfl, _, _, _, _, false, rfl, .ty "tuple", ty, kit_ty (a := "str") (by decide +kernel), false, rfl, iteF (q _ (Ex.refl _))⟩
  | int i => exact ⟨_, rfl, _, _, _, _, false, rfl, .ty "tuple", ty, kit_ty (a := "int") (by decide +kernel), false, rfl, iteF (q _ (Ex.refl _))⟩
  | bl i => exact ⟨_, rfl, _, _, _, _, false, rfl, .ty "tuple", ty, kit_ty (a := "bool") (by decide +kernel), false, rfl, iteF (q _ (Ex.refl _))⟩
  | non => exact ⟨_, rfl, _, _, _, _, false, rfl, .ty "tuple", ty, kit_ty (a := "NoneType") (by decide +kernel), false, rfl, iteF (q _ (Ex.refl _))⟩
  | lst h => exact ⟨_, rfl, _, _, _, _, false, rfl, .ty "tuple", ty, kit_ty (a := "list") (by decide +kernel), false, rfl, iteF (q _ (Ex.refl _))⟩
  | dic h => exact ⟨_, rfl, _, _, _, _, false, rfl, .ty "tuple", ty, kit_ty (a := "dict") (by decide +kernel), false, rfl, iteF (q _ (Ex.refl _))⟩
  | @tup a xs ds hT hA =>
    refine ⟨_, rfl, _, _, _, _, true, rfl, .ty "tuple", ty, kit_ty (a := "tuple") (by decide +kernel), true, rfl, iteT ?_⟩
    have hl := hA.len
    refine ⟨_, rfl, a, _, rfl, .inr hT, rfl, _, rfl, ?_⟩
    rw [show decide (V.int ((xs.length : Nat) : Int) = V.int 2) = decide (xs.length = 2) from dec_len (m := 2)]
    cases hA with
    | nil => exact iteF (q _ (Ex.refl _))
    | @cons x1 w1 d1 e1 hx1 hr1 =>
      cases hr1 with
      | nil => exact iteF (q _ (Ex.refl _))
      | @cons x2 w2 d2 e2 hx2 hr2 =>
        have s1 : sizeD d1 ≤ 60000 := Nat.le_trans (by rw [sizeD, sizesD]; omega) hz
        have s2 : sizeD d2 ≤ 60000 := Nat.le_trans (by rw [sizeD, sizesD, sizesD]; omega) hz
        cases hr2 with
        | nil =>
          have ep : pairD (.tup [d1, d2]) = (isT d1 && isT d2) := rfl
          rw [ep] at q
          refine iteT ⟨_, rfl, a, _, 0, _, rfl, rfl, hT, at0, _, _, rfl, hx1, s1, fun H1 e1 => ?_⟩
          cases c : isT d1 with
          | false =>
            rw [c] at q
            exact ⟨false, rfl, iteF (q _ e1)⟩
          | true =>
            rw [c] at q
            exact ⟨true, rfl, iteT ⟨_, rfl, a, _, 1, _, rfl, rfl, Evl.ex_t e1 hT, atI_nat (xs := [x1, x2]) (j := 1) rfl, _, _, rfl, hx2.mono (Kind.of e1), s2, fun H2 e2 => q _ (e1.trans e2)⟩⟩
        | cons _ _ =>
          rw [decide_eq_false (by rw [List.length_cons, List.length_cons, List.length_cons]; omega)]
          exact iteF (q _ (Ex.refl _))
/-! ### demand_pairs -/
theorem ok_bap_init (T : Tx K mg) : FnOk P w K mg base CX0 1 T.i_Bap T.d_Bap ["self", "pairs"] (RG.spIni T.a_Bap "pairs") := by
  refine T.F_Bap.ok sc_BadPairs_init (fun vs H Q E h => ?_) (fun cdv A outer s H vs Q E hr h => ?_)
  · obtain ⟨a, v, rfl, _⟩ := h
    rfl
  obtain ⟨a, v, rfl, ha, q⟩ := h
  refine ⟨_, (pss_cons (ps_expr (RG.pe_hinit T.e_Horn rfl (pa_cons (pv 0) (pa_cons pe_str pa_nil)))) (pss_one (ps_ost (pv 0) (pv 1)))), ?_⟩
  refine ⟨_, rfl, a, _, [.str "no pairs of terms"], rfl, by decide, T.e_Bap.oex, ha, _, rfl, _, rfl, a, _, rfl, T.e_Bap.oex, T.e_Bap.noF, .inl ⟨ha, fun d hd ne => q d hd ne⟩⟩
theorem kitAny_lt {t : String} {b1 b2 : Bool} (h1 : kitB t "list" = some b1) (h2 : kitB t "tuple" = some b2) : PySem.W.kitAny K (.type t) [.type "list", .type "tuple"] = some (b1 || b2) := by
  unfold PySem.W.kitAny
  rw [kit_ty h1]
  cases b1 with
  | true => rfl
  | false =>
    show PySem.W.kitAny K (.type t) [.type "tuple"] = some b2
    unfold PySem.W.kitAny
    rw [kit_ty h2]
    cases b2 <;> rfl
def spDPairs (K : PySem.W.Frag) (C : Addr) : Sp := fun vs H Q E => ∃ v, vs = [v] ∧
  ((∃ a xs ds, v = .ref a ∧ (H a = some (.lst xs) ∨ SqT K H a xs) ∧ OdAll K H xs ds ∧ (∀ d ∈ ds, sizeD d ≤ 60000) ∧ xs.length ≤ 1000 ∧ (ds.all pairD = true → ∀ u H', Ex H H' → Q u H') ∧ (ds.all pairD = false → RG.Comes C "pairs" v H E)) ∨
   (∃ d, OdAt K H v d ∧ tyN d ≠ "list" ∧ tyN d ≠ "tuple" ∧ RG.Comes C "pairs" v H E))
theorem OdAll.get {H : Hp} : ∀ {vs : List V} {ds : List Od} {i : Nat} {v : V}, OdAll K H vs ds → vs[i]? = some v → ∃ d, ds[i]? = some d ∧ OdAt K H v d
  | _, _, 0, _, .cons h _, e => by
    cases e
    exact ⟨_, rfl, h⟩
  | _, _, i + 1, _, .cons _ r, e => OdAll.get (i := i) r e
theorem ok_demand_pairs (T : Tx K mg) : FnOk P w K mg base (L2.CX P w) 6 T.f_demand_pairs T.d_demand_pairs ["pairs"] (spDPairs K T.a_Bap) := by
  refine T.h_demand_pairs.F.okX sc_demand_pairs (fun vs H Q E h => ?_) (fun cdv A outer s H vs Q E hr h => ?_)
  · obtain ⟨v, rfl, _⟩ := h
    rfl
  obtain ⟨v, rfl, h⟩ := h
  rcases h with ⟨a, xs, ds, rfl, hS | hS, hA, hz, hx, q, e⟩ | ⟨d, hv, n1, n2, e⟩
  · refine ⟨_, (pss_one (ps_if (PW.pt (pw_or (pt_not (pt_val (pe_callB call_isiT rfl T.b_isinstance (by decide +kernel) (pa_cons (pv 0) (pa_cons (pe_tup (pa_cons (pe_bltn (v := .ty "list") (u := .type "list") rfl T.b_list (by decide +kernel) rfl) (pa_cons (pe_bltn (v := .ty "tuple") (u := .type "tuple") rfl T.b_tuple (by decide +kernel) rfl) pa_nil))) pa_nil))))) (pw_or1 (pt_not (pt_val (pe_callB (cr_all rfl) rfl T.b_all (by decide +kernel) (pa_cons (pe_lc (own := [("pair", 1)]) (g := gName 1) rfl sc_demand_pairs.nd (pi_list (pv 0)) (blkOk_by (own := [("pair", 1)]) (N := ["pairs", "pair"]) (sc := defScope s_demand_pairs) (by decide +kernel)) (fun _ _ _ _ _ => pg_name (i := 1) sc_demand_pairs.nd rfl (Or.inl rfl)) (fun _ _ _ _ _ => pts_nil) (fun _ _ _ _ _ => (cl (ok_is_pair T) T.h_is_pair hr (pa_cons (pv 1) pa_nil)))) pa_nil)))))))
      (pss_one (ps_raise rfl (takes_of rfl rfl rfl rfl) (pmk_oex T.e_Bap.oex T.e_Bap.iC T.e_Bap.tI (ok_bap_init T) (hr.mono (by decide)) T.b_Bap .nil pass0 rfl T.e_Bap.at_ (pa_cons (pv 0) pa_nil))))
      pss_nil)), ?_⟩
    refine ⟨_, rfl, (by show 2 ≤ sizeLine; decide), fun p hp => ?_⟩
    have e1 := Ex.new (o := HO.tup [V.ty "list", V.ty "tuple"]) hp
    refine ⟨_, p, _, _, _, true, rfl, upd_same, .cons (.ty "list") (.cons (.ty "tuple") .nil), .base (.lst (e1 _ _ hS)), kitAny_lt (t := "list") (b1 := true) (b2 := false) (by decide +kernel) (by decide +kernel), true, rfl, iteF ?_⟩
    refine ⟨_, rfl, a, rfl, ⟨xs, SqL.of (e1 _ _ hS)⟩, fun D hD => ?_⟩
    have hfree : H D = none := ex_none e1 hD
    have hld := hA.len
    refine lc_it walk_list (fun i H' => Ex H H' ∧ H' D = some (.lst ((ds.take i).map fun d => V.bl (pairD d)))) ⟨e1.trans (Ex.new hD), upd_same⟩ (fun i H' _ h => SqL.of (h.1 _ _ hS)) ?_ ?_
    · rintro i x Hx H' hi ⟨eH, hL⟩ ⟨rfl, hx1⟩
      obtain ⟨d, hd, hvd⟩ := hA.get hx1
      refine ⟨rfl, yesI ⟨_, rfl, x, d, rfl, hvd.mono (Kind.of eH), hz d (List.mem_of_getElem? hd), fun H2 e2 => ?_⟩⟩
      have hL2 := e2 D _ hL
      refine ⟨_, hL2, ?_, Ex.mut (eH.trans e2) hfree, ?_⟩
      · rw [List.length_map, List.length_take]
        exact small5' (by omega)
      · rw [upd_same, tk_succ (x := d) (fun d => V.bl (pairD d)) hd]
    · rintro H' ⟨eH, hL⟩
      refine ⟨D, ds.map pairD, rfl, SqL.of ?_, ?_⟩
      · rw [hL, List.take_of_length_le (by omega), List.map_map]
        rfl
      · have : (ds.map pairD).all id = ds.all pairD := by
          rw [List.all_map]
          rfl
        rw [this]
        cases c : ds.all pairD with
        | true => exact ⟨true, rfl, iteF (q c _ _ eH)⟩
        | false => exact ⟨false, rfl, iteT ⟨_, rfl, RG.made_err fun dd H2 h1 e2 h2 => e c dd H2 (ex_none eH h1) (eH.trans e2) h2⟩⟩
  · refine ⟨_, (pss_one (ps_if (PW.pt (pw_or (pt_not (pt_val (pe_callB call_isiT rfl T.b_isinstance (by decide +kernel) (pa_cons (pv 0) (pa_cons (pe_tup (pa_cons (pe_bltn (v := .ty "list") (u := .type "list") rfl T.b_list (by decide +kernel) rfl) (pa_cons (pe_bltn (v := .ty "tuple") (u := .type "tuple") rfl T.b_tuple (by decide +kernel) rfl) pa_nil))) pa_nil))))) (pw_or1 (pt_not (pt_val (pe_callB (cr_all rfl) rfl T.b_all (by decide +kernel) (pa_cons (pe_lc (own := [("pair", 1)]) (g := gName 1) rfl sc_demand_pairs.nd (pi_tup (pv 0)) (blkOk_by (own := [("pair", 1)]) (N := ["pairs", "pair"]) (sc := defScope s_demand_pairs) (by decide +kernel)) (fun _ _ _ _ _ => pg_name (i := 1) sc_demand_pairs.nd rfl (Or.inl rfl)) (fun _ _ _ _ _ => pts_nil) (fun _ _ _ _ _ => (cl (ok_is_pair T) T.h_is_pair hr (pa_cons (pv 1) pa_nil)))) pa_nil)))))))
      (pss_one (ps_raise rfl (takes_of rfl rfl rfl rfl) (pmk_oex T.e_Bap.oex T.e_Bap.iC T.e_Bap.tI (ok_bap_init T) (hr.mono (by decide)) T.b_Bap .nil pass0 rfl T.e_Bap.at_ (pa_cons (pv 0) pa_nil))))
      pss_nil)), ?_⟩
    refine ⟨_, rfl, (by show 2 ≤ sizeLine; decide), fun p hp => ?_⟩
    have e1 := Ex.new (o := HO.tup [V.ty "list", V.ty "tuple"]) hp
    refine ⟨_, p, _, _, _, true, rfl, upd_same, .cons (.ty "list") (.cons (.ty "tuple") .nil), tyx_tup (Evl.ex_t e1 hS), kitAny_lt (t := "tuple") (b1 := false) (b2 := true) (by decide +kernel) (by decide +kernel), true, rfl, iteF ?_⟩
    refine ⟨_, rfl, a, rfl, ⟨xs, Evl.ex_t e1 hS⟩, fun D hD => ?_⟩
    have hfree : H D = none := ex_none e1 hD
    have hld := hA.len
    refine lc_it walk_tup (fun i H' => Ex H H' ∧ H' D = some (.lst ((ds.take i).map fun d => V.bl (pairD d)))) ⟨e1.trans (Ex.new hD), upd_same⟩ (fun i H' _ h => Evl.ex_t h.1 hS) ?_ ?_
    · rintro i x Hx H' hi ⟨eH, hL⟩ ⟨rfl, hx1⟩
      obtain ⟨d, hd, hvd⟩ := hA.get hx1
      refine ⟨rfl, yesI ⟨_, rfl, x, d, rfl, hvd.mono (Kind.of eH), hz d (List.mem_of_getElem? hd), fun H2 e2 => ?_⟩⟩
      have hL2 := e2 D _ hL
      refine ⟨_, hL2, ?_, Ex.mut (eH.trans e2) hfree, ?_⟩
      · rw [List.length_map, List.length_take]
        exact small5' (by omega)
      · rw [upd_same, tk_succ (x := d) (fun d => V.bl (pairD d)) hd]
    · rintro H' ⟨eH, hL⟩
      refine ⟨D, ds.map pairD, rfl, SqL.of ?_, ?_⟩
      · rw [hL, List.take_of_length_le (by omega), List.map_map]
        rfl
      · have : (ds.map pairD).all id = ds.all pairD := by
          rw [List.all_map]
          rfl
        rw [this]
        cases c : ds.all pairD with
        | true => exact ⟨true, rfl, iteF (q c _ _ eH)⟩
        | false => exact ⟨false, rfl, iteT ⟨_, rfl, RG.made_err fun dd H2 h1 e2 h2 => e c dd H2 (ex_none eH h1) (eH.trans e2) h2⟩⟩
  · refine ⟨_, (pss_one (ps_if (PW.pt (pw_or (pt_not (pt_val (pe_callB call_isiT rfl T.b_isinstance (by decide +kernel) (pa_cons (pv 0) (pa_cons (pe_tup (pa_cons (pe_bltn (v := .ty "list") (u := .type "list") rfl T.b_list (by decide +kernel) rfl) (pa_cons (pe_bltn (v := .ty "tuple") (u := .type "tuple") rfl T.b_tuple (by decide +kernel) rfl) pa_nil))) pa_nil))))) (pw_or1 (pt_not (pt_val (pe_callB (cr_all rfl) rfl T.b_all (by decide +kernel) (pa_cons (pe_lc (own := [("pair", 1)]) (g := gName 1) rfl sc_demand_pairs.nd (pi_list (pv 0)) (blkOk_by (own := [("pair", 1)]) (N := ["pairs", "pair"]) (sc := defScope s_demand_pairs) (by decide +kernel)) (fun _ _ _ _ _ => pg_name (i := 1) sc_demand_pairs.nd rfl (Or.inl rfl)) (fun _ _ _ _ _ => pts_nil) (fun _ _ _ _ _ => (cl (ok_is_pair T) T.h_is_pair hr (pa_cons (pv 1) pa_nil)))) pa_nil)))))))
      (pss_one (ps_raise rfl (takes_of rfl rfl rfl rfl) (pmk_oex T.e_Bap.oex T.e_Bap.iC T.e_Bap.tI (ok_bap_init T) (hr.mono (by decide)) T.b_Bap .nil pass0 rfl T.e_Bap.at_ (pa_cons (pv 0) pa_nil))))
      pss_nil)), ?_⟩
    refine ⟨_, rfl, (by show 2 ≤ sizeLine; decide), fun p hp => ?_⟩
    have e1 := Ex.new (o := HO.tup [V.ty "list", V.ty "tuple"]) hp
    have ty := ty_od (hv.mono (Kind.of e1))
    have k1 : ∃ t, tyN d = t ∧ kitB t "list" = some false ∧ kitB t "tuple" = some false := by
      cases d with
      | str z => exact ⟨"str", rfl, by decide +kernel, by decide +kernel⟩
      | int i => exact ⟨"int", rfl, by decide +kernel, by decide +kernel⟩
      | bl i => exact ⟨"bool", rfl, by decide +kernel, by decide +kernel⟩
      | non => exact ⟨"NoneType", rfl, by decide +kernel, by decide +kernel⟩
      | lst => exact absurd rfl n1
      | dic => exact ⟨"dict", rfl, by decide +kernel, by decide +kernel⟩
      | tup _ => exact absurd rfl n2
    obtain ⟨t, ht, k1, k2⟩ := k1
    rw [ht] at ty
    refine ⟨_, p, _, _, _, false, rfl, upd_same, .cons (.ty "list") (.cons (.ty "tuple") .nil), ty, kitAny_lt k1 k2, false, rfl, iteT ?_⟩
    exact ⟨_, rfl, RG.made_err fun dd H2 h1 e2 h2 => e dd H2 (ex_none e1 h1) (e1.trans e2) h2⟩
end
end Hm

set_option Elab.async false
set_option linter.all false
set_option maxRecDepth 100000
set_option maxHeartbeats 2000000
namespace Hm
open PySem PySem.Spec PyProof.Rows L2 HT
open Evl (Ex)
/-! ### the free variables of a goal, plain -/
/-- the goal behind all marks -/
def bareT : Tm → Tm
  | .comp f [a, b] => if f = Str.ofString "^" then bareT b else .comp f [a, b]
  | t => t
/-- with those bound that the marks bind -/
def boundT : List Int → Tm → List Int
  | acc, .comp f [a, b] => if f = Str.ofString "^" then boundT ((varsOf a).foldl addNew acc) b else acc
  | acc, _ => acc
def freeT (acc : List Int) (g : Tm) : List Int := (varsOf (bareT g)).filter fun k => !decide (k ∈ boundT acc g)
theorem foldAdd_len : ∀ (xs acc : List Int), (xs.foldl addNew acc).length ≤ acc.length + xs.length
  | [], acc => Nat.le_refl _
  | x :: xs, acc => by
    have h1 := foldAdd_len xs (addNew acc x)
    have h2 := addNew_len acc x
    show ((xs.foldl addNew (addNew acc x))).length ≤ _
    rw [List.length_cons]
    omega
section
variable {P : Program} {w : World} {K : PySem.W.Frag} {mg : Str → Option Value} {base : Heap}
def spFree (K : PySem.W.Frag) (C : Addr) : Sp := fun vs H Q E => ∃ v v' d d', vs = [v, v'] ∧ OdAt K H v d ∧ OdAt K H v' d' ∧ sizeD d ≤ 60000 ∧ sizeD d' ≤ 60000 ∧
  ((isT d = false ∧ RG.Comes C "term" v H E) ∨ (isT d = true ∧ isT d' = false ∧ RG.Comes C "term" v' H E) ∨
   (isT d = true ∧ isT d' = true ∧ ∃ t g, Rep K H t v ∧ Rep K H g v' ∧ Ok t ∧ Ok g ∧ size t ≤ 1400 ∧ size g ≤ 1400 ∧ ∀ p l u H', H p = none → H l = none → Ex H H' → SqT K H' p [.ref l, u] → H' l = some (.lst ((freeT (varsOf t) g).map V.int)) → Rep K H' (bareT g) u → Q (.ref p) H'))
theorem ok_free_of (T : Tx K mg) : FnOk P w K mg base (L2.CX P w) 7 T.f_free_of T.d_free_of ["template", "goal"] (spFree K T.a_Bad) := by
  refine T.h_free_of.F.okX sc_free_of (fun vs H Q E h => ?_) (fun cdv A outer s H vs Q E hr h => ?_)
  · obtain ⟨v, _, _, _, rfl, _⟩ := h
    rfl
  obtain ⟨v, v', d, d', rfl, hv, hv', hz, hz', h⟩ := h
  have hu1 := hu_of hr
  have hu := hu1
  refine ⟨_, (pss_cons (ps_expr (pe_callS (ok_demand_term T) (hr.mono (by decide)) rfl T.h_demand_term.m T.h_demand_term.F.kp T.h_demand_term.b (fun σ => passAt (takes_of rfl rfl rfl rfl) σ) (pa_cons (pv 0) pa_nil)))
    (pss_cons (ps_expr (pe_callS (ok_demand_term T) (hr.mono (by decide)) rfl T.h_demand_term.m T.h_demand_term.F.kp T.h_demand_term.b (fun σ => passAt (takes_of rfl rfl rfl rfl) σ) (pa_cons (pv 1) pa_nil)))
    (PSs.nox (pss_cons (ps_set (i := 2) sc_free_of.nd rfl (Or.inr rfl) (pe_dc (own := [("k", 3)]) (g := gName 3) rfl sc_free_of.nd (pi_list (cl (ok_numbers_in T) T.h_numbers_in hr (pa_cons (pv 0) pa_nil))) (blkOk_by (own := [("k", 3)]) (N := ["template", "goal", "bound", "k"]) (sc := defScope s_free_of) (by decide +kernel)) (fun _ _ _ _ _ => pg_name (i := 3) sc_free_of.nd rfl (Or.inl rfl)) (fun _ _ _ _ _ => pts_nil) (fun _ _ _ _ _ => (pv 3)) (fun _ _ _ _ _ => pe_bl)))
    (pss_cons (ps_while PassesOwn.never (PW.pt (pw_and (pt_val (pe_callB call_isi rfl T.b_isinstance (by decide +kernel) (pa_cons (pv 1) (pa_cons (pe_bltn (v := .ty "tuple") (u := .type "tuple") rfl T.b_tuple (by decide +kernel) rfl) pa_nil)))) (pw_and (pt_cmpR op_eq (pe_callB call_len_seq rfl T.b_len (by decide +kernel) (pa_cons (pv 1) pa_nil)) pe_int (nomark _)) (pw_and1 (pt_cmpR op_eq (pe_ix ix_tup (pv 1) pe_int (fun _ _ => rfl)) pe_str (nomark _))))))
      (pss_cons (ps_for PassesOwn.never rfl (pi_list (cl (ok_numbers_in T) T.h_numbers_in hr (pa_cons (pe_ix ix_tup (pv 1) pe_int (fun _ _ => rfl)) pa_nil))) (pg_name (i := 3) sc_free_of.nd rfl (Or.inl rfl))
      (pss_one (ps_dput hu (pv 2) (pv 3) pe_bl rfl)))
    (pss_one (ps_set (i := 1) sc_free_of.nd rfl (Or.inl rfl) (pe_ix ix_tup (pv 1) pe_int (fun _ _ => rfl))))))
    (pss_one (ps_ret (pe_tup (pa_cons (pe_lc (own := [("k", 3)]) (g := gName 3) rfl sc_free_of.nd (pi_list (cl (ok_numbers_in T) T.h_numbers_in hr (pa_cons (pv 1) pa_nil))) (blkOk_by (own := [("k", 3)]) (N := ["template", "goal", "bound", "k"]) (sc := defScope s_free_of) (by decide +kernel)) (fun _ _ _ _ _ => pg_name (i := 3) sc_free_of.nd rfl (Or.inl rfl)) (fun _ _ _ _ _ => pts_one (pt_cmp (pc_dnotin hu1 (pv 3) (pv 2)))) (fun _ _ _ _ _ => (pv 3))) (pa_cons (pv 1) pa_nil)))))))))), ?_⟩
  rcases h with ⟨hf, e⟩ | ⟨ht, hf, e⟩ | ⟨ht, ht', t, g, hR, hG, hO, hO', st, sg, q⟩
  · exact ⟨_, rfl, v, d, rfl, hv, hz, fun ht => (by rw [hf] at ht; cases ht), fun _ => e⟩
  · exact ⟨_, rfl, v, d, rfl, hv, hz, fun _ u H1 e1 => ⟨_, rfl, v', d', rfl, hv'.mono (Kind.of e1), hz', fun h => (by rw [hf] at h; cases h), fun _ => fun dd H2 h1 e2 h2 => e dd H2 (ex_none e1 h1) (e1.trans e2) h2⟩, fun h => (by rw [ht] at h; cases h)⟩
  refine ⟨_, rfl, v, d, rfl, hv, hz, fun _ _ H1 e1 => ?_, fun h => (by rw [ht] at h; cases h)⟩
  refine ⟨_, rfl, v', d', rfl, hv'.mono (Kind.of e1), hz', fun _ _ H2 e2 => ?_, fun h => (by rw [ht'] at h; cases h)⟩
  have e12 := e1.trans e2
  have hvl := varsOf_len t
  refine ⟨_, rfl, v, t, rfl, hR.mono (Tups.of e12), hO, by omega, fun pl H3 hpl e3 hL => ?_⟩
  refine ⟨pl, rfl, ⟨_, SqL.of hL⟩, fun D hD => dc_it walk_list (fun i H' => Ex H3 H' ∧ H' D = some (.dK (mkD ((varsOf t).take i)))) ⟨Ex.new hD, upd_same⟩ (fun i H' _ h => SqL.of (h.1 _ _ hL)) ?_ ?_⟩
  · rintro i x H4 H5 hi ⟨e4, hK⟩ ⟨rfl, hx⟩
    obtain ⟨k, hk, rfl⟩ : ∃ k, (varsOf t)[i]? = some k ∧ x = .int k := by
      rw [List.getElem?_map] at hx
      cases z : (varsOf t)[i]? with
      | none => rw [z] at hx; cases hx
      | some k => rw [z] at hx; exact ⟨k, rfl, (Option.some.inj hx).symm⟩
    have nk : k ∉ (varsOf t).take i := fun m => by
      obtain ⟨j, hj, e⟩ := List.getElem_of_mem m
      rw [List.length_take] at hj
      rw [List.getElem_take] at e
      have := (List.getElem?_inj (by omega) (varsOf_nodup t)).mp ((List.getElem?_eq_getElem (by omega)).trans (by rw [e, hk] : some ((varsOf t)[j]) = (varsOf t)[i]?))
      omega
    refine ⟨rfl, yesI ⟨_, rfl, _, Sum.inl k, rfl, hK, ?_, Ex.mut e4 hD, ?_⟩⟩
    · unfold mkD
      rw [List.length_map, List.length_take]
      exact small5' (by omega)
    · rw [upd_same, mkD_put, take_snocT hk]
      unfold addNew
      rw [if_neg nk]
  rintro H4 ⟨e4, hK⟩
  rw [List.length_map, List.take_length] at hK
  have eD : H D = none := ex_none e12 (ex_none e3 hD)
  have e14 : Ex H H4 := (e12.trans e3).trans e4
  refine ⟨fun m σ' H' => ∃ gv g1 acc k0, σ' = [some v, some gv, some (.ref D), k0] ∧ Ex H H' ∧ Rep K H' g1 gv ∧ H' D = some (.dK (mkD acc)) ∧ Ok g1 ∧ size g1 = m ∧ acc.length + size g1 ≤ 2800 ∧ bareT g1 = bareT g ∧ boundT acc g1 = boundT (varsOf t) g,
    ⟨size g, v', g, varsOf t, none, rfl, e14, hG.mono (Tups.of e14), hK, hO', rfl, by omega, rfl, rfl⟩, ?_⟩
  rintro m σ' H' ⟨gv, g1, acc, k0, rfl, eH, hR1, hK1, hO1, rfl, hle, hba, hbo⟩
  cases g1 with
  | int i0 =>
    have hR0 := hR1
    unfold Rep at hR1
    subst hR1
    refine ⟨_, rfl, _, _, _, _, false, rfl, .ty "tuple", .base (.int i0), kit_ty (by decide +kernel), false, rfl, iteF ?_⟩
    have hbare : bareT (.int i0) = .int i0 := by simp [bareT]
    have hbound : boundT acc (.int i0) = acc := by simp [boundT]
    have eb : bareT g = .int i0 := hba.symm.trans hbare
    have ec : boundT (varsOf t) g = acc := hbo.symm.trans hbound
    have hv1 := varsOf_len (.int i0)
    refine ⟨_, rfl, _, _, rfl, hR0, hO1, by omega, fun pl2 H5 hpl2 e5 hL5 => ⟨pl2, rfl, ⟨_, SqL.of hL5⟩, fun D2 hD2 => lc_it walk_list (fun i H' => Ex H5 H' ∧ H' D2 = some (.lst ((((varsOf (.int i0)).take i).filter fun k => !decide (k ∈ acc)).map V.int))) ⟨Ex.new hD2, upd_same⟩ (fun i H' _ h => SqL.of (h.1 _ _ hL5)) ?_ ?_⟩⟩
    · rintro i x H6 H7 hi ⟨e6, hL6⟩ ⟨rfl, hx⟩
      obtain ⟨k, hk, rfl⟩ : ∃ k, (varsOf (.int i0))[i]? = some k ∧ x = .int k := by
        rw [List.getElem?_map] at hx
        cases z : (varsOf (.int i0))[i]? with
        | none => rw [z] at hx; cases hx
        | some k => rw [z] at hx; exact ⟨k, rfl, (Option.some.inj hx).symm⟩
      have hK6 := e6 _ _ (e5 _ _ hK1)
      have ht6 : ((varsOf (.int i0)).take (i + 1)).filter (fun k => !decide (k ∈ acc)) = ((varsOf (.int i0)).take i).filter (fun k => !decide (k ∈ acc)) ++ [k].filter (fun k => !decide (k ∈ acc)) := by rw [take_snocT hk, List.filter_append]
      have gD : DGet H7 D (.int k) (if k ∈ acc then some (.bl true) else none) := by
        have h := DGet.k (k := (Sum.inl k : Key)) hK6
        rw [mkD_val] at h
        exact h
      refine ⟨rfl, _, rfl, _, rfl, D, _, rfl, gD, ?_⟩
      by_cases m : k ∈ acc
      · rw [if_pos m]
        refine ⟨false, rfl, iteF ⟨e6, ?_⟩⟩
        rw [ht6, List.filter_cons_of_neg (by rw [decide_eq_true m]; decide)]
        rw [List.filter_nil, List.append_nil]
        exact hL6
      · rw [if_neg m]
        refine ⟨true, rfl, iteT ⟨_, rfl, _, hL6, ?_, Ex.mut e6 hD2, ?_⟩⟩
        · rw [List.length_map]
          exact small5' (Nat.le_trans (List.length_filter_le _ _) (by rw [List.length_take]; omega))
        · rw [upd_same, ht6, List.filter_cons_of_pos (by rw [decide_eq_false m]; rfl), List.filter_nil, List.map_append]
          rfl
    · rintro H6 ⟨e6, hL6⟩
      rw [List.length_map, List.take_length] at hL6
      have e06 : Ex H H6 := eH.trans (e5.trans e6)
      refine ⟨_, rfl, (by show 2 ≤ sizeLine; decide), fun p hp => q p D2 _ _ (ex_none e06 hp) (ex_none (eH.trans e5) hD2) (e06.trans (Ex.new hp)) (SqT.of upd_same) ?_ ?_⟩
      · unfold freeT
        rw [eb, ec]
        exact (Ex.new hp) _ _ hL6
      · rw [eb]
        exact hR0.mono (Tups.of ((e5.trans e6).trans (Ex.new hp)))
  | atom i0 =>
    have hR0 := hR1
    unfold Rep at hR1
    subst hR1
    refine ⟨_, rfl, _, _, _, _, false, rfl, .ty "tuple", .base (.str i0), kit_ty (by decide +kernel), false, rfl, iteF ?_⟩
    have hbare : bareT (.atom i0) = .atom i0 := by simp [bareT]
    have hbound : boundT acc (.atom i0) = acc := by simp [boundT]
    have eb : bareT g = .atom i0 := hba.symm.trans hbare
    have ec : boundT (varsOf t) g = acc := hbo.symm.trans hbound
    have hv1 := varsOf_len (.atom i0)
    refine ⟨_, rfl, _, _, rfl, hR0, hO1, by omega, fun pl2 H5 hpl2 e5 hL5 => ⟨pl2, rfl, ⟨_, SqL.of hL5⟩, fun D2 hD2 => lc_it walk_list (fun i H' => Ex H5 H' ∧ H' D2 = some (.lst ((((varsOf (.atom i0)).take i).filter fun k => !decide (k ∈ acc)).map V.int))) ⟨Ex.new hD2, upd_same⟩ (fun i H' _ h => SqL.of (h.1 _ _ hL5)) ?_ ?_⟩⟩
    · rintro i x H6 H7 hi ⟨e6, hL6⟩ ⟨rfl, hx⟩
      obtain ⟨k, hk, rfl⟩ : ∃ k, (varsOf (.atom i0))[i]? = some k ∧ x = .int k := by
        rw [List.getElem?_map] at hx
        cases z : (varsOf (.atom i0))[i]? with
        | none => rw [z] at hx; cases hx
        | some k => rw [z] at hx; exact ⟨k, rfl, (Option.some.inj hx).symm⟩
      have hK6 := e6 _ _ (e5 _ _ hK1)
      have ht6 : ((varsOf (.atom i0)).take (i + 1)).filter (fun k => !decide (k ∈ acc)) = ((varsOf (.atom i0)).take i).filter (fun k => !decide (k ∈ acc)) ++ [k].filter (fun k => !decide (k ∈ acc)) := by rw [take_snocT hk, List.filter_append]
      have gD : DGet H7 D (.int k) (if k ∈ acc then some (.bl true) else none) := by
        have h := DGet.k (k := (Sum.inl k : Key)) hK6
        rw [mkD_val] at h
        exact h
      refine ⟨rfl, _, rfl, _, rfl, D, _, rfl, gD, ?_⟩
      by_cases m : k ∈ acc
      · rw [if_pos m]
        refine ⟨false, rfl, iteF ⟨e6, ?_⟩⟩
        rw [ht6, List.filter_cons_of_neg (by rw [decide_eq_true m]; decide)]
        rw [List.filter_nil, List.append_nil]
        exact hL6
      · rw [if_neg m]
        refine ⟨true, rfl, iteT ⟨_, rfl, _, hL6, ?_, Ex.mut e6 hD2, ?_⟩⟩
        · rw [List.length_map]
          exact small5' (Nat.le_trans (List.length_filter_le _ _) (by rw [List.length_take]; omega))
        · rw [upd_same, ht6, List.filter_cons_of_pos (by rw [decide_eq_false m]; rfl), List.filter_nil, List.map_append]
          rfl
    · rintro H6 ⟨e6, hL6⟩
      rw [List.length_map, List.take_length] at hL6
      have e06 : Ex H H6 := eH.trans (e5.trans e6)
      refine ⟨_, rfl, (by show 2 ≤ sizeLine; decide), fun p hp => q p D2 _ _ (ex_none e06 hp) (ex_none (eH.trans e5) hD2) (e06.trans (Ex.new hp)) (SqT.of upd_same) ?_ ?_⟩
      · unfold freeT
        rw [eb, ec]
        exact (Ex.new hp) _ _ hL6
      · rw [eb]
        exact hR0.mono (Tups.of ((e5.trans e6).trans (Ex.new hp)))
  | var i0 =>
    have hR0 := hR1
    unfold Rep at hR1
    obtain ⟨a, rfl, hT⟩ := hR1
    refine ⟨_, rfl, _, _, _, _, true, rfl, .ty "tuple", tyx_tup hT, kit_ty (by decide +kernel), true, rfl, iteT ?_⟩
    refine ⟨_, rfl, a, _, rfl, .inr hT, rfl, _, rfl, iteF ?_⟩
    have hbare : bareT (.var i0) = .var i0 := by simp [bareT]
    have hbound : boundT acc (.var i0) = acc := by simp [boundT]
    have eb : bareT g = .var i0 := hba.symm.trans hbare
    have ec : boundT (varsOf t) g = acc := hbo.symm.trans hbound
    have hv1 := varsOf_len (.var i0)
    refine ⟨_, rfl, _, _, rfl, hR0, hO1, by omega, fun pl2 H5 hpl2 e5 hL5 => ⟨pl2, rfl, ⟨_, SqL.of hL5⟩, fun D2 hD2 => lc_it walk_list (fun i H' => Ex H5 H' ∧ H' D2 = some (.lst ((((varsOf (.var i0)).take i).filter fun k => !decide (k ∈ acc)).map V.int))) ⟨Ex.new hD2, upd_same⟩ (fun i H' _ h => SqL.of (h.1 _ _ hL5)) ?_ ?_⟩⟩
    · rintro i x H6 H7 hi ⟨e6, hL6⟩ ⟨rfl, hx⟩
      obtain ⟨k, hk, rfl⟩ : ∃ k, (varsOf (.var i0))[i]? = some k ∧ x = .int k := by
        rw [List.getElem?_map] at hx
        cases z : (varsOf (.var i0))[i]? with
        | none => rw [z] at hx; cases hx
        | some k => rw [z] at hx; exact ⟨k, rfl, (Option.some.inj hx).symm⟩
      have hK6 := e6 _ _ (e5 _ _ hK1)
      have ht6 : ((varsOf (.var i0)).take (i + 1)).filter (fun k => !decide (k ∈ acc)) = ((varsOf (.var i0)).take i).filter (fun k => !decide (k ∈ acc)) ++ [k].filter (fun k => !decide (k ∈ acc)) := by rw [take_snocT hk, List.filter_append]
      have gD : DGet H7 D (.int k) (if k ∈ acc then some (.bl true) else none) := by
        have h := DGet.k (k := (Sum.inl k : Key)) hK6
        rw [mkD_val] at h
        exact h
      refine ⟨rfl, _, rfl, _, rfl, D, _, rfl, gD, ?_⟩
      by_cases m : k ∈ acc
      · rw [if_pos m]
        refine ⟨false, rfl, iteF ⟨e6, ?_⟩⟩
        rw [ht6, List.filter_cons_of_neg (by rw [decide_eq_true m]; decide)]
        rw [List.filter_nil, List.append_nil]
        exact hL6
      · rw [if_neg m]
        refine ⟨true, rfl, iteT ⟨_, rfl, _, hL6, ?_, Ex.mut e6 hD2, ?_⟩⟩
        · rw [List.length_map]
          exact small5' (Nat.le_trans (List.length_filter_le _ _) (by rw [List.length_take]; omega))
        · rw [upd_same, ht6, List.filter_cons_of_pos (by rw [decide_eq_false m]; rfl), List.filter_nil, List.map_append]
          rfl
    · rintro H6 ⟨e6, hL6⟩
      rw [List.length_map, List.take_length] at hL6
      have e06 : Ex H H6 := eH.trans (e5.trans e6)
      refine ⟨_, rfl, (by show 2 ≤ sizeLine; decide), fun p hp => q p D2 _ _ (ex_none e06 hp) (ex_none (eH.trans e5) hD2) (e06.trans (Ex.new hp)) (SqT.of upd_same) ?_ ?_⟩
      · unfold freeT
        rw [eb, ec]
        exact (Ex.new hp) _ _ hL6
      · rw [eb]
        exact hR0.mono (Tups.of ((e5.trans e6).trans (Ex.new hp)))
  | comp f as =>
    have hR0 := hR1
    unfold Rep at hR1
    obtain ⟨a, ws, rfl, hT, hA⟩ := hR1
    refine ⟨_, rfl, _, _, _, _, true, rfl, .ty "tuple", tyx_tup hT, kit_ty (by decide +kernel), true, rfl, iteT ?_⟩
    refine ⟨_, rfl, a, _, rfl, .inr hT, rfl, _, rfl, ?_⟩
    have hl := hA.len
    rw [show decide (V.int (((V.str f :: ws).length : Nat) : Int) = V.int 3) = decide ((V.str f :: ws).length = 3) from dec_len (m := 3)]
    match as, hA, hO1, hR0, hle, hba, hbo, hl with
    | [], hA, hO1, hR0, hle, hba, hbo, hl =>
      have hbare : bareT (.comp f []) = .comp f [] := by simp [bareT]
      have hbound : boundT acc (.comp f []) = acc := by simp [boundT]
      rw [decide_eq_false (by rw [List.length_cons, ← hl, List.length_nil]; omega)]
      refine iteF ?_
      have eb : bareT g = .comp f [] := hba.symm.trans hbare
      have ec : boundT (varsOf t) g = acc := hbo.symm.trans hbound
      have hv1 := varsOf_len (.comp f [])
      refine ⟨_, rfl, _, _, rfl, hR0, hO1, by omega, fun pl2 H5 hpl2 e5 hL5 => ⟨pl2, rfl, ⟨_, SqL.of hL5⟩, fun D2 hD2 => lc_it walk_list (fun i H' => Ex H5 H' ∧ H' D2 = some (.lst ((((varsOf (.comp f [])).take i).filter fun k => !decide (k ∈ acc)).map V.int))) ⟨Ex.new hD2, upd_same⟩ (fun i H' _ h => SqL.of (h.1 _ _ hL5)) ?_ ?_⟩⟩
      · rintro i x H6 H7 hi ⟨e6, hL6⟩ ⟨rfl, hx⟩
        obtain ⟨k, hk, rfl⟩ : ∃ k, (varsOf (.comp f []))[i]? = some k ∧ x = .int k := by
          rw [List.getElem?_map] at hx
          cases z : (varsOf (.comp f []))[i]? with
          | none => rw [z] at hx; cases hx
          | some k => rw [z] at hx; exact ⟨k, rfl, (Option.some.inj hx).symm⟩
        have hK6 := e6 _ _ (e5 _ _ hK1)
        have ht6 : ((varsOf (.comp f [])).take (i + 1)).filter (fun k => !decide (k ∈ acc)) = ((varsOf (.comp f [])).take i).filter (fun k => !decide (k ∈ acc)) ++ [k].filter (fun k => !decide (k ∈ acc)) := by rw [take_snocT hk, List.filter_append]
        have gD : DGet H7 D (.int k) (if k ∈ acc then some (.bl true) else none) := by
          have h := DGet.k (k := (Sum.inl k : Key)) hK6
          rw [mkD_val] at h
          exact h
        refine ⟨rfl, _, rfl, _, rfl, D, _, rfl, gD, ?_⟩
        by_cases m : k ∈ acc
        · rw [if_pos m]
          refine ⟨false, rfl, iteF ⟨e6, ?_⟩⟩
          rw [ht6, List.filter_cons_of_neg (by rw [decide_eq_true m]; decide)]
          rw [List.filter_nil, List.append_nil]
          exact hL6
        · rw [if_neg m]
          refine ⟨true, rfl, iteT ⟨_, rfl, _, hL6, ?_, Ex.mut e6 hD2, ?_⟩⟩
          · rw [List.length_map]
            exact small5' (Nat.le_trans (List.length_filter_le _ _) (by rw [List.length_take]; omega))
          · rw [upd_same, ht6, List.filter_cons_of_pos (by rw [decide_eq_false m]; rfl), List.filter_nil, List.map_append]
            rfl
      · rintro H6 ⟨e6, hL6⟩
        rw [List.length_map, List.take_length] at hL6
        have e06 : Ex H H6 := eH.trans (e5.trans e6)
        refine ⟨_, rfl, (by show 2 ≤ sizeLine; decide), fun p hp => q p D2 _ _ (ex_none e06 hp) (ex_none (eH.trans e5) hD2) (e06.trans (Ex.new hp)) (SqT.of upd_same) ?_ ?_⟩
        · unfold freeT
          rw [eb, ec]
          exact (Ex.new hp) _ _ hL6
        · rw [eb]
          exact hR0.mono (Tups.of ((e5.trans e6).trans (Ex.new hp)))
    | [b1], hA, hO1, hR0, hle, hba, hbo, hl =>
      have hbare : bareT (.comp f [b1]) = .comp f [b1] := by simp [bareT]
      have hbound : boundT acc (.comp f [b1]) = acc := by simp [boundT]
      rw [decide_eq_false (by rw [List.length_cons, ← hl, List.length_singleton]; omega)]
      refine iteF ?_
      have eb : bareT g = .comp f [b1] := hba.symm.trans hbare
      have ec : boundT (varsOf t) g = acc := hbo.symm.trans hbound
      have hv1 := varsOf_len (.comp f [b1])
      refine ⟨_, rfl, _, _, rfl, hR0, hO1, by omega, fun pl2 H5 hpl2 e5 hL5 => ⟨pl2, rfl, ⟨_, SqL.of hL5⟩, fun D2 hD2 => lc_it walk_list (fun i H' => Ex H5 H' ∧ H' D2 = some (.lst ((((varsOf (.comp f [b1])).take i).filter fun k => !decide (k ∈ acc)).map V.int))) ⟨Ex.new hD2, upd_same⟩ (fun i H' _ h => SqL.of (h.1 _ _ hL5)) ?_ ?_⟩⟩
      · rintro i x H6 H7 hi ⟨e6, hL6⟩ ⟨rfl, hx⟩
        obtain ⟨k, hk, rfl⟩ : ∃ k, (varsOf (.comp f [b1]))[i]? = some k ∧ x = .int k := by
          rw [List.getElem?_map] at hx
          cases z : (varsOf (.comp f [b1]))[i]? with
          | none => rw [z] at hx; cases hx
          | some k => rw [z] at hx; exact ⟨k, rfl, (Option.some.inj hx).symm⟩
        have hK6 := e6 _ _ (e5 _ _ hK1)
        have ht6 : ((varsOf (.comp f [b1])).take (i + 1)).filter (fun k => !decide (k ∈ acc)) = ((varsOf (.comp f [b1])).take i).filter (fun k => !decide (k ∈ acc)) ++ [k].filter (fun k => !decide (k ∈ acc)) := by rw [take_snocT hk, List.filter_append]
        have gD : DGet H7 D (.int k) (if k ∈ acc then some (.bl true) else none) := by
          have h := DGet.k (k := (Sum.inl k : Key)) hK6
          rw [mkD_val] at h
          exact h
        refine ⟨rfl, _, rfl, _, rfl, D, _, rfl, gD, ?_⟩
        by_cases m : k ∈ acc
        · rw [if_pos m]
          refine ⟨false, rfl, iteF ⟨e6, ?_⟩⟩
          rw [ht6, List.filter_cons_of_neg (by rw [decide_eq_true m]; decide)]
          rw [List.filter_nil, List.append_nil]
          exact hL6
        · rw [if_neg m]
          refine ⟨true, rfl, iteT ⟨_, rfl, _, hL6, ?_, Ex.mut e6 hD2, ?_⟩⟩
          · rw [List.length_map]
            exact small5' (Nat.le_trans (List.length_filter_le _ _) (by rw [List.length_take]; omega))
          · rw [upd_same, ht6, List.filter_cons_of_pos (by rw [decide_eq_false m]; rfl), List.filter_nil, List.map_append]
            rfl
      · rintro H6 ⟨e6, hL6⟩
        rw [List.length_map, List.take_length] at hL6
        have e06 : Ex H H6 := eH.trans (e5.trans e6)
        refine ⟨_, rfl, (by show 2 ≤ sizeLine; decide), fun p hp => q p D2 _ _ (ex_none e06 hp) (ex_none (eH.trans e5) hD2) (e06.trans (Ex.new hp)) (SqT.of upd_same) ?_ ?_⟩
        · unfold freeT
          rw [eb, ec]
          exact (Ex.new hp) _ _ hL6
        · rw [eb]
          exact hR0.mono (Tups.of ((e5.trans e6).trans (Ex.new hp)))
    | b1 :: b2 :: b3 :: bs, hA, hO1, hR0, hle, hba, hbo, hl =>
      have hbare : bareT (.comp f (b1 :: b2 :: b3 :: bs)) = .comp f (b1 :: b2 :: b3 :: bs) := by simp [bareT]
      have hbound : boundT acc (.comp f (b1 :: b2 :: b3 :: bs)) = acc := by simp [boundT]
      rw [decide_eq_false (by rw [List.length_cons, ← hl, List.length_cons, List.length_cons, List.length_cons]; omega)]
      refine iteF ?_
      have eb : bareT g = .comp f (b1 :: b2 :: b3 :: bs) := hba.symm.trans hbare
      have ec : boundT (varsOf t) g = acc := hbo.symm.trans hbound
      have hv1 := varsOf_len (.comp f (b1 :: b2 :: b3 :: bs))
      refine ⟨_, rfl, _, _, rfl, hR0, hO1, by omega, fun pl2 H5 hpl2 e5 hL5 => ⟨pl2, rfl, ⟨_, SqL.of hL5⟩, fun D2 hD2 => lc_it walk_list (fun i H' => Ex H5 H' ∧ H' D2 = some (.lst ((((varsOf (.comp f (b1 :: b2 :: b3 :: bs))).take i).filter fun k => !decide (k ∈ acc)).map V.int))) ⟨Ex.new hD2, upd_same⟩ (fun i H' _ h => SqL.of (h.1 _ _ hL5)) ?_ ?_⟩⟩
      · rintro i x H6 H7 hi ⟨e6, hL6⟩ ⟨rfl, hx⟩
        obtain ⟨k, hk, rfl⟩ : ∃ k, (varsOf (.comp f (b1 :: b2 :: b3 :: bs)))[i]? = some k ∧ x = .int k := by
          rw [List.getElem?_map] at hx
          cases z : (varsOf (.comp f (b1 :: b2 :: b3 :: bs)))[i]? with
          | none => rw [z] at hx; cases hx
          | some k => rw [z] at hx; exact ⟨k, rfl, (Option.some.inj hx).symm⟩
        have hK6 := e6 _ _ (e5 _ _ hK1)
        have ht6 : ((varsOf (.comp f (b1 :: b2 :: b3 :: bs))).take (i + 1)).filter (fun k => !decide (k ∈ acc)) = ((varsOf (.comp f (b1 :: b2 :: b3 :: bs))).take i).filter (fun k => !decide (k ∈ acc)) ++ [k].filter (fun k => !decide (k ∈ acc)) := by rw [take_snocT hk, List.filter_append]
        have gD : DGet H7 D (.int k) (if k ∈ acc then some (.bl true) else none) := by
          have h := DGet.k (k := (Sum.inl k : Key)) hK6
          rw [mkD_val] at h
          exact h
        refine ⟨rfl, _, rfl, _, rfl, D, _, rfl, gD, ?_⟩
        by_cases m : k ∈ acc
        · rw [if_pos m]
          refine ⟨false, rfl, iteF ⟨e6, ?_⟩⟩
          rw [ht6, List.filter_cons_of_neg (by rw [decide_eq_true m]; decide)]
          rw [List.filter_nil, List.append_nil]
          exact hL6
        · rw [if_neg m]
          refine ⟨true, rfl, iteT ⟨_, rfl, _, hL6, ?_, Ex.mut e6 hD2, ?_⟩⟩
          · rw [List.length_map]
            exact small5' (Nat.le_trans (List.length_filter_le _ _) (by rw [List.length_take]; omega))
          · rw [upd_same, ht6, List.filter_cons_of_pos (by rw [decide_eq_false m]; rfl), List.filter_nil, List.map_append]
            rfl
      · rintro H6 ⟨e6, hL6⟩
        rw [List.length_map, List.take_length] at hL6
        have e06 : Ex H H6 := eH.trans (e5.trans e6)
        refine ⟨_, rfl, (by show 2 ≤ sizeLine; decide), fun p hp => q p D2 _ _ (ex_none e06 hp) (ex_none (eH.trans e5) hD2) (e06.trans (Ex.new hp)) (SqT.of upd_same) ?_ ?_⟩
        · unfold freeT
          rw [eb, ec]
          exact (Ex.new hp) _ _ hL6
        · rw [eb]
          exact hR0.mono (Tups.of ((e5.trans e6).trans (Ex.new hp)))
    | [b1, b2], hA, hO1, hR0, hle, hba, hbo, hl =>
      obtain ⟨w1, ws1, rfl, hw1, hA1⟩ := hA.cons_inv
      obtain ⟨w2, ws2, rfl, hw2, hA2⟩ := hA1.cons_inv
      obtain rfl := hA2.nil_inv
      refine iteT ⟨_, rfl, a, _, 0, _, rfl, rfl, hT, at0, rfl, _, rfl, ?_⟩
      by_cases hf : f = Str.ofString "^"
      · subst hf
        rw [show decide (V.str (Str.ofString "^") = V.str (Str.ofString "^")) = true from decide_eq_true rfl]
        have hbare : bareT (.comp (Str.ofString "^") [b1, b2]) = bareT b2 := by simp [bareT]
        have hbound : boundT acc (.comp (Str.ofString "^") [b1, b2]) = boundT ((varsOf b1).foldl addNew acc) b2 := by simp [boundT]
        have hos : Ok b1 ∧ Ok b2 := by
          have := ok_args hO1
          rw [show (Tm.comp (Str.ofString "^") [b1, b2]).args = [b1, b2] from rfl, oks_cons, oks_cons] at this
          exact ⟨this.1, this.2.1⟩
        have hsz : size (.comp (Str.ofString "^") [b1, b2]) = 1 + (size b1 + (size b2 + 0)) := by
          rw [size, sizes, sizes, sizes]
        have hv1 := varsOf_len b1
        refine iteT ⟨fun σ2 H2 => ∃ m', m' < size (.comp (Str.ofString "^") [b1, b2]) ∧ ∃ gv g1 acc k0, σ2 = [some v, some gv, some (.ref D), k0] ∧ Ex H H2 ∧ Rep K H2 g1 gv ∧ H2 D = some (.dK (mkD acc)) ∧ Ok g1 ∧ size g1 = m' ∧ acc.length + size g1 ≤ 2800 ∧ bareT g1 = bareT g ∧ boundT acc g1 = boundT (varsOf t) g, fun _ _ h => h, ?_⟩
        refine ⟨_, rfl, a, _, 1, _, rfl, rfl, hT, atI_nat (xs := [.str (Str.ofString "^"), w1, w2]) (j := 1) rfl, _, _, rfl, hw1, hos.1, by omega, fun pl2 H5 hpl2 e5 hL5 => ?_⟩
        refine ⟨pl2, rfl, ⟨_, SqL.of hL5⟩, for_list (fun i σ' H' => ∃ x, σ' = [some v, some (.ref a), some (.ref D), x] ∧ Ex H H' ∧ Tups K H5 H' ∧ H' pl2 = some (.lst ((varsOf b1).map V.int)) ∧ H' D = some (.dK (mkD (((varsOf b1).take i).foldl addNew acc)))) ⟨k0, rfl, eH.trans e5, Tups.refl _, hL5, e5 D _ hK1⟩ (fun i σ' H' _ ⟨_, _, _, _, h, _⟩ => SqL.of h) ?_ ?_⟩
        · rintro i x σ' H6 hx ⟨x3, rfl, e6, t6, hL6, hK6⟩
          obtain ⟨k, hk, rfl⟩ : ∃ k, (varsOf b1)[i]? = some k ∧ x = .int k := by
            rw [List.getElem?_map] at hx
            cases z : (varsOf b1)[i]? with
            | none => rw [z] at hx; cases hx
            | some k => rw [z] at hx; exact ⟨k, rfl, (Option.some.inj hx).symm⟩
          have hfl := foldAdd_len ((varsOf b1).take i) acc
          rw [List.length_take] at hfl
          have t3 : Tups K H6 (upd H6 D (.dK (putK (mkD (((varsOf b1).take i).foldl addNew acc)) (Sum.inl k : Key) (.bl true)))) := tups_dk hK6
          have nD : pl2 ≠ D := fun e => by rw [e, hK1] at hpl2; cases hpl2
          refine ⟨_, rfl, _, rfl, D, _, rfl, .inl ⟨_, Sum.inl k, hK6, rfl, ?_, rfl⟩, ?_⟩
          · unfold mkD
            rw [List.length_map]
            exact small5' (by omega)
          · refine ⟨_, rfl, Ex.mut e6 eD, t6.trans t3, ?_, ?_⟩
            · rw [upd_ne nD]
              exact hL6
            · rw [upd_same, mkD_put, take_snocT hk, List.foldl_append]
              rfl
        · rintro σ' H6 ⟨x3, rfl, e6, t6, hL6, hK6⟩
          rw [List.length_map, List.take_length] at hK6
          have tt := (Tups.of e5).trans t6
          refine ⟨_, rfl, a, _, 2, _, rfl, rfl, tt _ _ hT, atI_nat (xs := [.str (Str.ofString "^"), w1, w2]) (j := 2) rfl, ?_⟩
          exact ⟨size b2, by omega, w2, b2, _, x3, rfl, e6, hw2.mono tt, hK6, hos.2, rfl, by have := foldAdd_len (varsOf b1) acc; omega, hbare.symm.trans hba, hbound.symm.trans hbo⟩
      · have hbare : bareT (.comp f [b1, b2]) = .comp f [b1, b2] := by simp [bareT, hf]
        have hbound : boundT acc (.comp f [b1, b2]) = acc := by simp [boundT, hf]
        rw [show decide (V.str f = V.str (Str.ofString "^")) = false from decide_eq_false fun e => hf (by injection e)]
        refine iteF ?_
        have eb : bareT g = .comp f [b1, b2] := hba.symm.trans hbare
        have ec : boundT (varsOf t) g = acc := hbo.symm.trans hbound
        have hv1 := varsOf_len (.comp f [b1, b2])
        refine ⟨_, rfl, _, _, rfl, hR0, hO1, by omega, fun pl2 H5 hpl2 e5 hL5 => ⟨pl2, rfl, ⟨_, SqL.of hL5⟩, fun D2 hD2 => lc_it walk_list (fun i H' => Ex H5 H' ∧ H' D2 = some (.lst ((((varsOf (.comp f [b1, b2])).take i).filter fun k => !decide (k ∈ acc)).map V.int))) ⟨Ex.new hD2, upd_same⟩ (fun i H' _ h => SqL.of (h.1 _ _ hL5)) ?_ ?_⟩⟩
        · rintro i x H6 H7 hi ⟨e6, hL6⟩ ⟨rfl, hx⟩
          obtain ⟨k, hk, rfl⟩ : ∃ k, (varsOf (.comp f [b1, b2]))[i]? = some k ∧ x = .int k := by
            rw [List.getElem?_map] at hx
            cases z : (varsOf (.comp f [b1, b2]))[i]? with
            | none => rw [z] at hx; cases hx
            | some k => rw [z] at hx; exact ⟨k, rfl, (Option.some.inj hx).symm⟩
          have hK6 := e6 _ _ (e5 _ _ hK1)
          have ht6 : ((varsOf (.comp f [b1, b2])).take (i + 1)).filter (fun k => !decide (k ∈ acc)) = ((varsOf (.comp f [b1, b2])).take i).filter (fun k => !decide (k ∈ acc)) ++ [k].filter (fun k => !decide (k ∈ acc)) := by rw [take_snocT hk, List.filter_append]
          have gD : DGet H7 D (.int k) (if k ∈ acc then some (.bl true) else none) := by
            have h := DGet.k (k := (Sum.inl k : Key)) hK6
            rw [mkD_val] at h
            exact h
          refine ⟨rfl, _, rfl, _, rfl, D, _, rfl, gD, ?_⟩
          by_cases m : k ∈ acc
          · rw [if_pos m]
            refine ⟨false, rfl, iteF ⟨e6, ?_⟩⟩
            rw [ht6, List.filter_cons_of_neg (by rw [decide_eq_true m]; decide)]
            rw [List.filter_nil, List.append_nil]
            exact hL6
          · rw [if_neg m]
            refine ⟨true, rfl, iteT ⟨_, rfl, _, hL6, ?_, Ex.mut e6 hD2, ?_⟩⟩
            · rw [List.length_map]
              exact small5' (Nat.le_trans (List.length_filter_le _ _) (by rw [List.length_take]; omega))
            · rw [upd_same, ht6, List.filter_cons_of_pos (by rw [decide_eq_false m]; rfl), List.filter_nil, List.map_append]
              rfl
        · rintro H6 ⟨e6, hL6⟩
          rw [List.length_map, List.take_length] at hL6
          have e06 : Ex H H6 := eH.trans (e5.trans e6)
          refine ⟨_, rfl, (by show 2 ≤ sizeLine; decide), fun p hp => q p D2 _ _ (ex_none e06 hp) (ex_none (eH.trans e5) hD2) (e06.trans (Ex.new hp)) (SqT.of upd_same) ?_ ?_⟩
          · unfold freeT
            rw [eb, ec]
            exact (Ex.new hp) _ _ hL6
          · rw [eb]
            exact hR0.mono (Tups.of ((e5.trans e6).trans (Ex.new hp)))
end
end Hm

set_option Elab.async false
set_option linter.all false
set_option maxRecDepth 100000
set_option maxHeartbeats 1000000
/-! facts about dicts with nested keys -/
namespace Hm
open PySem PySem.Spec PyProof.Rows L2
section
variable {K : PySem.W.Frag} {H H' : Hp}
mutual
theorem KRep.mono (e : Tups K H H') : ∀ {k : DK} {v : V}, KRep K H k v → KRep K H' k v
  | .leaf (.inl i), v, h => by
    unfold KRep at h ⊢
    exact h
  | .leaf (.inr i), v, h => by
    unfold KRep at h ⊢
    exact h
  | .tup ks, v, h => by
    unfold KRep at h ⊢
    obtain ⟨a, vs, e1, h1, h2⟩ := h
    exact ⟨a, vs, e1, e _ _ h1, KReps.mono e h2⟩
theorem KReps.mono (e : Tups K H H') : ∀ {ks : List DK} {vs : List V}, KReps K H ks vs → KReps K H' ks vs
  | [], vs, h => by
    unfold KReps at h ⊢
    exact h
  | k :: ks, vs, h => by
    unfold KReps at h ⊢
    obtain ⟨v, ws, e1, h1, h2⟩ := h
    exact ⟨v, ws, e1, KRep.mono e h1, KReps.mono e h2⟩
end
theorem KeysOk.mono (e : Tups K H H') {kvs : List NKV} (h : KeysOk K H kvs) : KeysOk K H' kvs := fun x hx => ⟨(h x hx).1.mono e, (h x hx).2⟩
theorem KeysOk.nil : KeysOk K H [] := fun x hx => by cases hx
theorem KeysOk.put {kvs : List NKV} {k : DK} {a : Addr} {v : V} (h : KeysOk K H kvs) (hk : KRep K H k (.ref a)) (ho : KOk k) : KeysOk K H (putN kvs k a v) := fun x hx => by
  unfold putN at hx
  split at hx
  · obtain ⟨y, hy, e⟩ := List.mem_map.mp hx
    split at e
    · subst e
      exact h y hy
    · subst e
      exact h y hy
  · rcases List.mem_append.mp hx with hx | hx
    · exact h x hx
    · rw [List.mem_singleton.mp hx]
      exact ⟨hk, ho⟩
end
theorem valN_nil {k : DK} : valN [] k = none := rfl
theorem valN_pos {e : NKV} {r : List NKV} {k : DK} (h : e.1 = k) : valN (e :: r) k = some e.2.2 := by simp [valN, List.find?_cons, h]
theorem valN_neg {e : NKV} {r : List NKV} {k : DK} (h : ¬ e.1 = k) : valN (e :: r) k = valN r k := by simp [valN, List.find?_cons, h]
theorem valN_app {k : DK} : ∀ (a b : List NKV), valN (a ++ b) k = (valN a k).or (valN b k)
  | [], b => by simp [valN_nil]
  | e :: a, b => by
    by_cases h : e.1 = k
    · rw [List.cons_append, valN_pos h, valN_pos h]
      rfl
    · rw [List.cons_append, valN_neg h, valN_neg h, valN_app a b]
theorem valN_repl {k j : DK} {v : V} : ∀ {kvs : List NKV}, valN (kvs.map fun e => if e.1 = k then (e.1, e.2.1, v) else e) j = if j = k then (if (valN kvs k).isSome = true then some v else none) else valN kvs j
  | [] => by
    simp [valN_nil]
  | e :: r => by
    have ih := valN_repl (k := k) (j := j) (v := v) (kvs := r)
    rw [List.map_cons]
    by_cases h : e.1 = k
    · rw [if_pos h]
      by_cases hj : j = k
      · subst hj
        rw [if_pos rfl, valN_pos (e := (e.1, e.2.1, v)) h, valN_pos h]
        rfl
      · rw [if_neg hj] at ih ⊢
        have h2 : ¬ e.1 = j := fun z => hj (z.symm.trans h)
        rw [valN_neg (e := (e.1, e.2.1, v)) h2, valN_neg h2, ih]
    · rw [if_neg h]
      by_cases hj : j = k
      · subst hj
        rw [valN_neg h, valN_neg h, ih]
      · rw [if_neg hj] at ih ⊢
        by_cases h2 : e.1 = j
        · rw [valN_pos h2, valN_pos h2]
        · rw [valN_neg h2, valN_neg h2, ih]
/-- what a store leaves to be found -/
theorem valN_put {kvs : List NKV} {k j : DK} {a : Addr} {v : V} : valN (putN kvs k a v) j = if j = k then some v else valN kvs j := by
  unfold putN
  by_cases h : (valN kvs k).isSome = true
  · rw [if_pos h, valN_repl, if_pos h]
  · rw [if_neg h, valN_app]
    by_cases hj : j = k
    · subst hj
      rw [if_pos rfl]
      cases e : valN kvs j with
      | none => rw [valN_pos (e := (j, a, v)) rfl]; rfl
      | some u => rw [e] at h; exact absurd rfl h
    · rw [if_neg hj, valN_neg (e := (k, a, v)) (fun z => hj z.symm), valN_nil]
      cases valN kvs j <;> rfl
theorem putN_new {kvs : List NKV} {k : DK} {a : Addr} {v : V} (h : valN kvs k = none) : putN kvs k a v = kvs ++ [(k, a, v)] := by
  unfold putN
  rw [h]
  rfl
/-- a dict with nested keys is none of the other things -/
theorem dn_ne {P : Program} {w : World} {d b : Addr} {kvs : List NKV} {H : Hp} {o : HO} (h : H d = some (DN P w d kvs)) (hb : H b = some o) (no : ∀ φ, o ≠ .ext φ) : b ≠ d := fun z => by
  subst z
  rw [h] at hb
  exact no _ (Option.some.inj hb).symm
end Hm

set_option Elab.async false
set_option linter.all false
set_option maxRecDepth 100000
set_option maxHeartbeats 2000000
namespace Hm
open PySem PySem.Spec PyProof.Rows L2 HT
open Evl (Ex)
theorem szl {n : Nat} (h : n ≤ 10000000) : n < sizeLine := Nat.lt_of_le_of_lt h (by decide)
/-! ### rows of parts -/
def iK (n : Int) : DK := .leaf (.inl n)
def sK (s : Str) : DK := .leaf (.inr s)
def hdK : Tm → DK
  | .var k => .tup [iK 0, iK k]
  | .int i => .tup [iK 1, iK i]
  | .atom s => .tup [iK 2, sK s]
  | .comp f as => .tup [iK 3, iK (as.length : Int), sK f]
structure PRow where
  hd : DK
  as : List Nat
  deriving DecidableEq
def PRow.key (r : PRow) : DK := .tup (r.hd :: r.as.map fun (n : Nat) => iK (n : Int))
theorem keys_inj : ∀ {xs ys : List Nat}, (xs.map fun (n : Nat) => iK (n : Int)) = (ys.map fun (n : Nat) => iK (n : Int)) → xs = ys
  | [], [], _ => rfl
  | [], _ :: _, h => by cases h
  | _ :: _, [], h => by cases h
  | x :: xs, y :: ys, h => by
    injection h with h1 h2
    unfold iK at h1
    injection h1 with h1
    injection h1 with h1
    rw [keys_inj h2, Int.ofNat.inj h1]
theorem PRow.key_inj {r s : PRow} (h : r.key = s.key) : r = s := by
  obtain ⟨a, as⟩ := r
  obtain ⟨b, bs⟩ := s
  unfold PRow.key at h
  injection h with h
  injection h with h1 h2
  dsimp only at h1 h2
  rw [h1, keys_inj h2]
def ixR (R : List PRow) (x : PRow) : Option Nat := R.findIdx? fun y => decide (y = x)
def insR (R : List PRow) (x : PRow) : List PRow × Nat := match ixR R x with
  | some n => (R, n)
  | none => (R ++ [x], R.length)
theorem ixR_app (R : List PRow) (x y : PRow) : ixR (R ++ [x]) y = (ixR R y).or (if x = y then some R.length else none) := by
  unfold ixR
  rw [List.findIdx?_append]
  congr 1
  by_cases e : x = y
  · subst e
    simp
  · simp [e]
theorem ixR_self {R : List PRow} {x : PRow} (h : ixR R x = none) : ixR (R ++ [x]) x = some R.length := by
  rw [ixR_app, h, if_pos rfl]
  rfl
section
variable {P : Program} {w : World} {K : PySem.W.Frag} {mg : Str → Option Value} {base : Heap}
structure Pt (P : Program) (w : World) (K : PySem.W.Frag) (C : Addr) (H : Hp) (S r pl : Addr) (R : List PRow) : Prop where
  ins : ∃ dx, H S = some (.ins C dx [("rows", .ref r), ("places", .ref pl)])
  row : ∃ vs, H r = some (.lst vs) ∧ PySem.Paired (fun v x => KRep K H (PRow.key x) v) vs R
  plc : ∃ kvs, H pl = some (DN P w pl kvs) ∧ KeysOk K H kvs ∧ kvs.length ≤ R.length ∧ ∀ x : PRow, valN kvs x.key = (ixR R x).map fun (n : Nat) => V.int (n : Int)
  len : R.length ≤ 1000000
/-- all but the parts stays -/
def Kpt (S r pl : Addr) (H H' : Hp) : Prop := ∀ b o, b ≠ S → b ≠ r → b ≠ pl → H b = some o → H' b = some o
theorem Kpt.of {S r pl : Addr} {H H' : Hp} (e : Ex H H') : Kpt S r pl H H' := fun b o _ _ _ h => e b o h
theorem Kpt.trans {S r pl : Addr} {H H1 H2 : Hp} (a : Kpt S r pl H H1) (b : Kpt S r pl H1 H2) : Kpt S r pl H H2 := fun x o n1 n2 n3 h => b x o n1 n2 n3 (a x o n1 n2 n3 h)
theorem Tups.dn {H : Hp} {d : Addr} {kvs : List NKV} {o : HO} (h : H d = some (DN P w d kvs)) : Tups K H (upd H d o) := fun a ys q => by
  have ne : ∀ {u : HO}, H a = some u → (∀ φ, u ≠ .ext φ) → a ≠ d := fun e no z => by
    subst z
    rw [h] at e
    exact no _ (Option.some.inj e).symm
  rcases q with (q | ⟨o', q⟩) | q
  · exact .inl (.inl (by rw [upd_ne (ne q (fun φ z => by cases z))]; exact q))
  · exact .inl (.inr ⟨o', by rw [upd_ne (ne q (fun φ z => by cases z))]; exact q⟩)
  · exact .inr q
theorem Pt.ex {C S r pl : Addr} {H H' : Hp} {R : List PRow} (h : Pt P w K C H S r pl R) (e : Ex H H') : Pt P w K C H' S r pl R := by
  obtain ⟨⟨dx, h1⟩, ⟨vs, h2, h3⟩, ⟨kvs, h4, h5, h6, h7⟩, h8⟩ := h
  exact ⟨⟨dx, e _ _ h1⟩, ⟨vs, e _ _ h2, Paired.mapP h3 fun _ _ q => KRep.mono (.of e) q⟩, ⟨kvs, e _ _ h4, h5.mono (.of e), h6, h7⟩, h8⟩
theorem Pt.tups {C S r pl : Addr} {H H' : Hp} {R : List PRow} (h : Pt P w K C H S r pl R) (k : Kpt S r pl H H') : Tups K H H' := fun a ys q => by
  obtain ⟨⟨dx, h1⟩, ⟨vs, h2, _⟩, ⟨kvs, h4, _⟩, _⟩ := h
  have go : ∀ {o : HO}, H a = some o → (∀ x y z, o ≠ .ins x y z) → (∀ x, o ≠ .lst x) → (∀ φ, o ≠ .ext φ) → H' a = some o := fun e n1 n2 n3 =>
    k _ _ (fun z => by subst z; rw [h1] at e; exact n1 _ _ _ (Option.some.inj e).symm) (fun z => by subst z; rw [h2] at e; exact n2 _ (Option.some.inj e).symm) (fun z => by subst z; rw [h4] at e; exact n3 _ (Option.some.inj e).symm) e
  rcases q with (q | ⟨o', q⟩) | q
  · exact .inl (.inl (go q (fun _ _ _ z => by cases z) (fun _ z => by cases z) (fun _ z => by cases z)))
  · exact .inl (.inr ⟨o', go q (fun _ _ _ z => by cases z) (fun _ z => by cases z) (fun _ z => by cases z)⟩)
  · exact .inr q
theorem Pt.mv {C S r pl : Addr} {H H' : Hp} {R : List PRow} (h : Pt P w K C H S r pl R) (t : Tups K H H') (k1 : ∀ o, H S = some o → H' S = some o) (k2 : ∀ o, H r = some o → H' r = some o) (k3 : ∀ o, H pl = some o → H' pl = some o) : Pt P w K C H' S r pl R := by
  obtain ⟨⟨dx, h1⟩, ⟨vs, h2, h3⟩, ⟨kvs, h4, h5, h6, h7⟩, h8⟩ := h
  exact ⟨⟨dx, k1 _ h1⟩, ⟨vs, k2 _ h2, Paired.mapP h3 fun _ _ q => KRep.mono t q⟩, ⟨kvs, k3 _ h4, h5.mono t, h6, h7⟩, h8⟩
def spInitP (P : Program) (w : World) (K : PySem.W.Frag) (C : Addr) : Sp := fun vs H Q _ => ∃ (S dx : Addr), vs = [.ref S] ∧ H S = some (.ins C dx []) ∧ ∀ r pl H', H r = none → H pl = none → r ≠ pl → (∀ b o, b ≠ S → H b = some o → H' b = some o) → Pt P w K C H' S r pl [] → Q .non H'
theorem ok_St_init (T : Tx K mg) : FnOk P w K mg base CX0 1 T.f_St_init T.d_St_init ["self"] (spInitP P w K T.C) := by
  refine T.F_St_init.ok sc_St_init (fun vs H Q E h => ?_) (fun cdv A outer s H vs Q E hr h => ?_)
  · obtain ⟨v, d, rfl, _⟩ := h
    rfl
  obtain ⟨S, dx, rfl, hS, k⟩ := h
  refine ⟨_, (pss_cons (ps_fld (pv 0) (pe_lst pa_nil) rfl)
    (pss_one (ps_fld (pv 0) pe_nnew rfl))), ?_⟩
  refine ⟨Nat.zero_le _, fun r hr' => ?_⟩
  have n1 : S ≠ r := ne_of_none hS hr'
  refine ⟨_, rfl, S, T.C, dx, [], rfl, (by rw [upd_ne n1]; exact hS), T.cl, T.n_rows, (by show 0 < 1000; decide), ?_⟩
  intro pl hpl
  have n2 : S ≠ pl := fun z => by subst z; rw [upd_same] at hpl; cases hpl
  have n3 : r ≠ pl := fun z => by
    subst z
    rw [upd_ne n1.symm, upd_same] at hpl
    cases hpl
  refine ⟨_, rfl, S, T.C, dx, _, rfl, (by rw [upd_ne n2, upd_same]), T.cl, T.n_places, (by show 1 < 1000; decide), ?_⟩
  rw [upd_ne n2.symm, upd_ne n3.symm] at hpl
  refine k r pl _ hr' hpl n3 (fun b o nb hb => ?_) ⟨⟨dx, upd_same⟩, ⟨[], ?_, .nil⟩, ⟨[], ?_, KeysOk.nil, Nat.le_refl _, fun x => rfl⟩, Nat.zero_le _⟩
  · rw [upd_ne nb, upd_ne (ne_of_none hb hpl), upd_ne nb, upd_ne (ne_of_none hb hr')]
    exact hb
  · rw [upd_ne n1.symm, upd_ne n3, upd_ne n1.symm, upd_same]
  · rw [upd_ne n2.symm]
    exact upd_same
def spNumOf (P : Program) (w : World) (K : PySem.W.Frag) (C : Addr) : Sp := fun vs H Q _ => ∃ S r pl R a x, vs = [.ref S, .ref a] ∧ Pt P w K C H S r pl R ∧ KRep K H (PRow.key x) (.ref a) ∧ KOk (PRow.key x) ∧ R.length + 1 ≤ 1000000 ∧
  ∀ H', Kpt S r pl H H' → Pt P w K C H' S r pl (insR R x).1 → Q (.int ((insR R x).2 : Int)) H'
theorem ok_St_number_of (T : Tx K mg) : FnOk P w K mg base CX0 1 T.f_St_number_of T.d_St_number_of ["self", "row"] (spNumOf P w K T.C) := by
  refine T.h_St_number_of.F.ok sc_St_number_of (fun vs H Q E h => ?_) (fun cdv A outer s H vs Q E hr h => ?_)
  · obtain ⟨_, _, _, _, _, _, rfl, _⟩ := h
    rfl
  obtain ⟨S, r, pl, R, a, x, rfl, hP, hx, ox, hl, q⟩ := h
  have hu := hu_of hr
  have hu16 := Nat.lt_of_le_of_lt (Nat.add_le_add_left (show 16 ≤ 64 by decide) _) hr.units
  refine ⟨_, (Evl.pss_cut (ps_if (pt_cmp (pc_nnotin hu16 (pv 1) (pe_fld (pv 0) rfl)))
      (pss_cons (ps_nput hu16 (pe_fld (pv 0) rfl) (pv 1) (pe_callB call_len_seq rfl T.b_len (by decide +kernel) (pa_cons (pe_fld (pv 0) rfl) pa_nil)) rfl)
    (pss_one (ps_expr (pe_bm PySem.F.plainAttrs_list PySem.F.slot_list_append PySem.F.type_list_append mt_append (pe_fld (pv 0) rfl) (pa_cons (pv 1) pa_nil)))))
      pss_nil)
    (pss_one (ps_ret (pe_nget hu16 (pe_fld (pv 0) rfl) (pv 1) (fun _ _ => rfl))))), ?_⟩
  have hxa := hx
  obtain ⟨dx, hS⟩ := hP.ins
  obtain ⟨vs, hr1, hv⟩ := hP.row
  obtain ⟨kvs, h4, h5, h6, h7⟩ := hP.plc
  have lvs := hv.length
  have nSr : S ≠ r := ne_of hS hr1 (by intro z; cases z)
  have nSp : S ≠ pl := fun z => by
    rw [z, h4] at hS
    cases hS
  have nrp : r ≠ pl := fun z => by
    rw [z, h4] at hr1
    cases hr1
  refine ⟨fun σ' H' => σ' = [some (.ref S), some (.ref a)] ∧ Kpt S r pl H H' ∧ Pt P w K T.C H' S r pl (insR R x).1 ∧ KRep K H' x.key (.ref a) ∧ ixR (insR R x).1 x = some (insR R x).2, ?_, ?_⟩
  · refine ⟨_, rfl, _, rfl, S, T.C, dx, _, _, rfl, hS, T.cl, T.n_places, rfl, pl, a, kvs, x.key, ⟨rfl, rfl, h4, h5, hx, ox⟩, ?_⟩
    rw [h7]
    cases e : ixR R x with
    | some n =>
      have ei : insR R x = (R, n) := by unfold insR; rw [e]
      refine ⟨false, rfl, iteF ⟨rfl, .of (Ex.refl _), by rw [ei]; exact hP, hx, by rw [ei]; exact e⟩⟩
    | none =>
      have ei : insR R x = (R ++ [x], R.length) := by unfold insR; rw [e]
      have lk : kvs.length < sizeLine := szl (by omega)
      refine ⟨true, rfl, iteT ⟨_, rfl, S, T.C, dx, _, _, rfl, hS, T.cl, T.n_rows, rfl, r, vs, rfl, .inl (.of hr1), _, rfl, S, T.C, dx, _, _, rfl, hS, T.cl, T.n_places, rfl, _, rfl, pl, a, kvs, x.key, ⟨rfl, rfl, h4, h5, hx, ox⟩, lk, ?_⟩⟩
      have t1 : Tups K H (upd H pl (DN P w pl (putN kvs x.key a (V.int (vs.length : Int))))) := Tups.dn (P := P) (w := w) h4
      have hS1 : (upd H pl (DN P w pl (putN kvs x.key a (V.int (vs.length : Int))))) S = some (.ins T.C dx [("rows", .ref r), ("places", .ref pl)]) := by rw [upd_ne nSp]; exact hS
      have hr2 : (upd H pl (DN P w pl (putN kvs x.key a (V.int (vs.length : Int))))) r = some (.lst vs) := by rw [upd_ne nrp]; exact hr1
      have hp2 : (upd H pl (DN P w pl (putN kvs x.key a (V.int (vs.length : Int))))) pl = some (DN P w pl (putN kvs x.key a (V.int (vs.length : Int)))) := upd_same
      have k1 : Kpt S r pl H (upd H pl (DN P w pl (putN kvs x.key a (V.int (vs.length : Int))))) := fun b o _ _ nb e => by rw [upd_ne nb]; exact e
      have hx1 := KRep.mono t1 hx
      have hv1 := Paired.mapP hv fun _ _ q => KRep.mono t1 q
      have h51 := (h5.put (v := V.int (vs.length : Int)) hx ox).mono t1
      have l1 := putN_len kvs x.key a (V.int (vs.length : Int))
      refine ⟨_, rfl, S, T.C, dx, _, _, rfl, hS1, T.cl, T.n_rows, rfl, .inl ⟨rfl, _, .of hr2⟩, _, rfl, r, vs, .ref a, rfl, rfl, hr2, szl (by omega), ?_⟩
      have t2 := Tups.lst (K := K) (o := .lst (vs ++ [.ref a])) hr2
      have key : ∀ y : PRow, valN (putN kvs x.key a (V.int (vs.length : Int))) y.key = (ixR (R ++ [x]) y).map fun (n : Nat) => V.int (n : Int) := fun y => by
        rw [valN_put, ixR_app, h7]
        by_cases c : y = x
        · subst c
          rw [if_pos rfl, if_pos rfl, e, lvs]
          rfl
        · rw [if_neg (fun z => c (PRow.key_inj z)), if_neg (fun z => c z.symm)]
          cases ixR R y <;> rfl
      refine ⟨rfl, k1.trans fun b o _ nb _ e => by rw [upd_ne nb]; exact e, ?_, KRep.mono t2 hx1, ?_⟩
      · rw [ei]
        refine ⟨⟨dx, by rw [upd_ne nSr]; exact hS1⟩, ⟨_, upd_same, Paired.snoc (Paired.mapP hv1 fun _ _ q => KRep.mono t2 q) (KRep.mono t2 hx1)⟩, ⟨_, by rw [upd_ne nrp.symm]; exact hp2, h51.mono t2, ?_, key⟩, ?_⟩
        · rw [List.length_append, List.length_singleton]
          omega
        · rw [List.length_append, List.length_singleton]
          exact hl
      · rw [ei]
        exact ixR_self e
  · rintro _ H1 ⟨rfl, k1, hP1, hx1, hi1⟩
    obtain ⟨dx1, hS1⟩ := hP1.ins
    have hP2 := hP1
    obtain ⟨kv1, g4, g5, g6, g7⟩ := hP1.plc
    refine ⟨_, rfl, S, T.C, dx1, _, _, rfl, hS1, T.cl, T.n_places, rfl, _, rfl, pl, a, kv1, x.key, _, ⟨rfl, rfl, g4, g5, hx1, ox⟩, (by rw [g7, hi1]; rfl), q _ k1 hP2⟩
end
end Hm

set_option Elab.async false
set_option linter.all false
namespace Hm
open PySem PySem.Spec PyProof.Rows L2 HT
/-! ### del xs[j:] of a list, j at most its length -/
theorem del_from (n j : Nat) (h : j ≤ n) : sliceBounds (some (j : Int)) none none n = ((n : Int) - ((n - j : Nat) : Int), (n : Int), 1) := by
  have h2 : ¬ (j : Int) < 0 := by omega
  have h3 : (1 : Int) > 0 := by decide
  simp only [sliceBounds, Option.getD_none, h2, h3, if_true, if_false]
  have e : min (j : Int) (n : Int) = (n : Int) - ((n - j : Nat) : Int) := by omega
  rw [e, show max 0 ((n : Int) - ((n - j : Nat) : Int)) = (n : Int) - ((n - j : Nat) : Int) by omega]
section
variable {prog : Program} {w : World} {A : Around} {E : Value → Shared → Prop} {s : Shared}
theorem delItem_from {l sl : Addr} {its : List Value} {n m : Nat} {j : Int} {ti : Tok} {Q : Unit → Shared → Prop}
    (e : s.heap.get? l = some { cls := .type "list", data := .seq its.toArray n }) (hs : s.heap.IsSliceOf sl (.int j ti) .none .none) (hb : sliceBounds (some j) none none its.length = ((its.length : Int) - m, (its.length : Int), 1)) (hm : m ≤ its.length) (hsz : its.length ≤ sizeLine)
    (h : ∀ f : Array Value → Array Value, f its.toArray = (its.take (its.length - m)).toArray → Q () { s with heap := s.heap.update l (Obj.mapSeq f) }) :
    wpAny (model prog w) A (delItem (.ref l) (.ref sl)) Q E s := by
  have hl : s.heap.IsList l its.toArray := PySem.IsL.isList e
  obtain ⟨os, hos, hcs, hds⟩ := id hs
  have hTs : s.TypeIs (.ref sl) "slice" := ⟨os, hos, hcs⟩
  have hstep : ¬ ((rawPart none == rawInt 0) = true) := Bool.false_ne_true
  refine wpAny_delItem_slot hl.typeIs (by decide) PySem.F.slot_list_delitem
    (wpAny_call_entry PySem.F.slot_list_delitem hl.typeIs PySem.F.entry_list_delitem ?_ (PySem.F.args_list_delitem_2 _ _))
  show wpAny _ _ (Builtin.List.listSubscript? (.ref sl) >>= _) _ _ s
  refine wpAny_bind ?_
  unfold Builtin.List.listSubscript?
  refine wpAny_bind (wpAny_specialOf hTs slice_no_index ?_)
  simp only [Option.isNone_none, if_true]
  refine wpAny_pure ?_
  show wpAny _ _ (typeOf (.ref sl) >>= _) _ _ s
  refine wpAny_bind (wpAny_typeOf hTs ?_)
  first
    | rw [if_neg (by decide)]
    | refine PySem.W.KFB.if_not (by decide) ?_
  rw [listSliceParts_eq]
  refine wpAny_bind (wpAny_bind (wpAny_field hos hds (x := .none) rfl (wpAny_bind (wpAny_listPart .none ?_))))
  rw [if_neg hstep]
  refine wpAny_bind (wpAny_field hos hds (x := .int j ti) rfl (wpAny_bind (wpAny_listPart (.int j ti) ?_)))
  refine wpAny_bind (wpAny_field hos hds (x := .none) rfl (wpAny_bind (wpAny_listPart .none (wpAny_pure ?_))))
  unfold Builtin.List.listItems
  refine wpAny_bind (wpAny_bind (wpAny_seqItems e rfl (wpAny_pure ?_)))
  refine wpAny_bind (wpAny_of_eq ((sliceIndices_raw (some j) none none its.toArray.size (by simp)).trans (congrArg (pure : Int × Int × Int → Sem (Int × Int × Int)) (show sliceBounds (some j) none none its.toArray.size = ((its.length : Int) - m, (its.length : Int), 1) from hb))) ?_)
  refine wpAny_bind (wpAny_rule ?_)
  have hf := congrArg List.toArray (del_keep its.length m hm its 0 (Nat.zero_add _))
  rw [Nat.sub_zero] at hf
  show wpAny _ _ (updateSeq l (fun xs : Array Value => (xs.toList.zipIdx.filterMap fun (p : Value × Nat) => if sel ((its.length : Int) - m) (its.length : Int) 1 p.2 then none else some p.1).toArray) >>= _) _ _ s
  have hf' : (fun xs : Array Value => (xs.toList.zipIdx.filterMap fun (p : Value × Nat) => if sel ((its.length : Int) - m) (its.length : Int) 1 p.2 then none else some p.1).toArray) its.toArray = (its.take (its.length - m)).toArray := hf
  have hz2 : ((fun xs : Array Value => (xs.toList.zipIdx.filterMap fun (p : Value × Nat) => if sel ((its.length : Int) - m) (its.length : Int) 1 p.2 then none else some p.1).toArray) its.toArray).size ≤ sizeLine + 1 := by
    rw [hf', List.size_toArray, List.length_take]
    omega
  refine wpAny_bind (wpAny_updateSeq (hz := by rw [List.size_toArray]; exact hsz) (_hz' := hz2) e rfl ?_)
  refine wpAny_bind (wpAny_letGo ?_)
  have k := h (fun xs : Array Value => (xs.toList.zipIdx.filterMap fun (p : Value × Nat) => if sel ((its.length : Int) - m) (its.length : Int) 1 p.2 then none else some p.1).toArray) hf'
  first
    | exact wpAny_bind (wpAny_pure (wpAny_pure ⟨.none, rfl, k⟩))
    | exact wpAny_pure ⟨.none, rfl, k⟩
end
def tDelFrom (te tu : TE) : TS := fun D σ H => te σ H fun x H1 => tPart tu σ H1 fun o H2 => ∃ (l : Addr) (xs : List V) (j : Nat), x = .ref l ∧ o = some (j : Int) ∧ H2 l = some (.lst xs) ∧ j ≤ xs.length ∧ D.nx σ (upd H2 l (.lst (xs.take j)))
section
variable {X : Cx}
theorem ps_delFrom {e u : Expr} {te tu : TE} {p3 tpos pos : Pos} (he : PE X e te) (hu : PE X u tu) : PS X (.Delete [.Subscript e (.Slice (some u) none none p3) tpos] pos) (tDelFrom te tu) := by
  refine ⟨fun pins s σ H D I h => ?_⟩
  refine wpAny_Delete (wpAny_deleteEach_cons (wpAny_delete_Subscript (thn (he.run pins s σ H _ I h) fun v s1 ⟨x, H1, I1, r1, q1⟩ => ?_)))
  have hup : PO X (some u) (tPart tu) := po_some hu
  refine wpAny_Slice (thn (hup.run pins s1 σ H1 (fun o H2 => ∃ (l : Addr) (xs : List V) (j : Nat), x = .ref l ∧ o = some ((j : Int)) ∧ H2 l = some (.lst xs) ∧ j ≤ xs.length ∧ D.nx σ (upd H2 l (.lst (xs.take j)))) I1 q1) fun vl s2 ⟨o, H2, I2, pl, q2⟩ => ?_)
  obtain ⟨l, xs, j, ex, eo, hH, hm, q⟩ := q2
  subst ex eo
  cases r1
  rw [evalPart_none]
  refine wpAny_pure ?_
  refine wpAny_pure ?_
  obtain ⟨i, ti, rfl, ei⟩ : ∃ i ti, vl = Value.int i ti ∧ i = (j : Int) := by
    cases pl
    exact ⟨_, _, rfl, rfl⟩
  subst ei
  have I5 : Inv X pins σ H2 { s2 with heap := s2.heap.push { cls := .type "slice", data := .fields #[.int ((j : Int)) ti, Value.none, Value.none] } } := I2.kept (t' := s2.toks) fun b ob q => Heap.get?_push_of_some _ q
  obtain ⟨z, its, n, r, hl, e5⟩ := I5.lstM hH
  have hj : j ≤ its.length := by omega
  refine delItem_from (m := its.length - j) e5 (Heap.IsSliceOf.new _ (.int (j : Int) ti) Value.none Value.none) (del_from its.length j hj) (by omega) (by omega) fun f hf => wpAny_deleteEach_nil ⟨σ, _, ?_, q⟩
  rw [show its.length - (its.length - j) = j by omega] at hf
  refine I5.lset (its' := its.take j) (t' := s2.toks) hH e5 hf ?_ (by rw [List.length_take]; omega)
  exact r.take _
end
end Hm

set_option Elab.async false
set_option linter.all false
set_option maxRecDepth 100000
set_option maxHeartbeats 2000000
namespace Hm
open PySem PySem.Spec PyProof.Rows L2 HT
open Evl (Ex)
/-! ### the number of a term, plain -/
mutual
def nrT (kn : Int → Option Nat) (R : List PRow) : Tm → List PRow × Nat
  | .var k => match kn k with
    | some n => (R, n)
    | none => insR R ⟨hdK (.var k), []⟩
  | .atom s => insR R ⟨hdK (.atom s), []⟩
  | .int i => insR R ⟨hdK (.int i), []⟩
  | .comp f as => insR (nrTs kn R as).1 ⟨hdK (.comp f as), (nrTs kn R as).2⟩
def nrTs (kn : Int → Option Nat) (R : List PRow) : List Tm → List PRow × List Nat
  | [] => (R, [])
  | t :: ts => ((nrT kn (nrTs kn R ts).1 t).1, (nrT kn (nrTs kn R ts).1 t).2 :: (nrTs kn R ts).2)
end
/-- one part, from the right -/
def tnP (kn : Int → Option Nat) (t : Tm) (s : List PRow × List Nat) : List PRow × List Nat := match t with
  | .var k => match kn k with
    | some n => (s.1, n :: s.2)
    | none => ((insR s.1 ⟨hdK (.var k), []⟩).1, (insR s.1 ⟨hdK (.var k), []⟩).2 :: s.2)
  | .comp f as => ((insR s.1 ⟨hdK (.comp f as), s.2.take as.length⟩).1, (insR s.1 ⟨hdK (.comp f as), s.2.take as.length⟩).2 :: s.2.drop as.length)
  | .atom a => ((insR s.1 ⟨hdK (.atom a), []⟩).1, (insR s.1 ⟨hdK (.atom a), []⟩).2 :: s.2)
  | .int a => ((insR s.1 ⟨hdK (.int a), []⟩).1, (insR s.1 ⟨hdK (.int a), []⟩).2 :: s.2)
theorem nrTs_len (kn : Int → Option Nat) (R : List PRow) : ∀ ts : List Tm, (nrTs kn R ts).2.length = ts.length
  | [] => rfl
  | t :: ts => by
    show (nrTs kn R ts).2.length + 1 = _
    rw [nrTs_len kn R ts]
    rfl
mutual
theorem fold_pre (kn : Int → Option Nat) : ∀ (t : Tm) (R : List PRow) (st : List Nat), (pre t).foldr (tnP kn) (R, st) = ((nrT kn R t).1, (nrT kn R t).2 :: st)
  | .var k, R, st => by
    show tnP kn (.var k) (R, st) = _
    unfold tnP nrT
    dsimp only
    cases kn k <;> rfl
  | .atom s, R, st => by
    show tnP kn (.atom s) (R, st) = _
    unfold tnP nrT
    rfl
  | .int s, R, st => by
    show tnP kn (.int s) (R, st) = _
    unfold tnP nrT
    rfl
  | .comp f as, R, st => by
    show tnP kn (.comp f as) ((pres as).foldr (tnP kn) (R, st)) = _
    rw [fold_pres kn as R st]
    have hl := nrTs_len kn R as
    unfold tnP nrT
    dsimp only
    rw [List.take_append_of_le_length (by omega), List.take_of_length_le (by omega), List.drop_append_of_le_length (by omega), List.drop_of_length_le (by omega), List.nil_append]
theorem fold_pres (kn : Int → Option Nat) : ∀ (ts : List Tm) (R : List PRow) (st : List Nat), (pres ts).foldr (tnP kn) (R, st) = ((nrTs kn R ts).1, (nrTs kn R ts).2 ++ st)
  | [], R, st => rfl
  | t :: ts, R, st => by
    rw [pres_cons, List.foldr_append, fold_pres kn ts R st, fold_pre kn t]
    rfl
end
theorem insR_len (R : List PRow) (x : PRow) : (insR R x).1.length ≤ R.length + 1 := by
  unfold insR
  split
  · exact Nat.le_succ _
  · show (R ++ [x]).length ≤ _
    rw [List.length_append]
    exact Nat.le_refl _
theorem tnP_len (kn : Int → Option Nat) (t : Tm) (s : List PRow × List Nat) : (tnP kn t s).1.length ≤ s.1.length + 1 ∧ (tnP kn t s).2.length ≤ s.2.length + 1 := by
  cases t with
  | var k =>
    unfold tnP
    dsimp only
    cases kn k with
    | some n => exact ⟨Nat.le_succ _, Nat.le_refl _⟩
    | none => exact ⟨insR_len _ _, Nat.le_refl _⟩
  | atom a => exact ⟨insR_len _ _, Nat.le_refl _⟩
  | int a => exact ⟨insR_len _ _, Nat.le_refl _⟩
  | comp f as =>
    refine ⟨insR_len _ _, ?_⟩
    show (s.2.drop as.length).length + 1 ≤ _
    rw [List.length_drop]
    omega
theorem fold_lenP (kn : Int → Option Nat) : ∀ (ts : List Tm) (s : List PRow × List Nat), (ts.foldr (tnP kn) s).1.length ≤ s.1.length + ts.length ∧ (ts.foldr (tnP kn) s).2.length ≤ s.2.length + ts.length
  | [], s => ⟨Nat.le_refl _, Nat.le_refl _⟩
  | t :: ts, s => by
    have h1 := fold_lenP kn ts s
    have h2 := tnP_len kn t (ts.foldr (tnP kn) s)
    rw [List.foldr_cons, List.length_cons]
    omega
/-! each compound finds its arguments -/
def Sf : List Tm → Prop
  | [] => True
  | .comp _ as :: l => (∃ pb, l = pres as ++ pb) ∧ Sf l
  | .var _ :: l => Sf l
  | .atom _ :: l => Sf l
  | .int _ :: l => Sf l
mutual
theorem sf_pre : ∀ (t : Tm) (l : List Tm), Sf l → Sf (pre t ++ l)
  | .var _, _, h => h
  | .atom _, _, h => h
  | .int _, _, h => h
  | .comp f as, l, h => ⟨⟨l, rfl⟩, sf_pres as l h⟩
theorem sf_pres : ∀ (ts : List Tm) (l : List Tm), Sf l → Sf (pres ts ++ l)
  | [], _, h => h
  | t :: ts, l, h => by
    rw [pres_cons, List.append_assoc]
    exact sf_pre t _ (sf_pres ts l h)
end
theorem sf_tail {x : Tm} {l : List Tm} (h : Sf (x :: l)) : Sf l := by
  cases x with
  | comp f as => exact h.2
  | var _ => exact h
  | atom _ => exact h
  | int _ => exact h
theorem sf_drop : ∀ {l : List Tm} (j : Nat), Sf l → Sf (l.drop j)
  | [], j, _ => by rw [List.drop_nil]; trivial
  | _ :: _, 0, h => h
  | x :: l, j + 1, h => by
    rw [List.drop_succ_cons]
    exact sf_drop j (sf_tail h)
theorem sf_room (kn : Int → Option Nat) {f : Str} {as l : List Tm} (h : Sf (.comp f as :: l)) (s : List PRow × List Nat) : as.length ≤ (l.foldr (tnP kn) s).2.length := by
  obtain ⟨⟨pb, rfl⟩, _⟩ := h
  rw [List.foldr_append, fold_pres kn as]
  show _ ≤ ((nrTs kn _ as).2 ++ _).length
  rw [List.length_append, nrTs_len]
  omega
section
variable {P : Program} {w : World} {K : PySem.W.Frag} {mg : Str → Option Value} {base : Heap}
theorem krep_hd {H : Hp} {tt : Tm} {ph : Addr} (h : SqT K H ph (hdV tt)) : KRep K H (hdK tt) (.ref ph) := by
  cases tt with
  | var k =>
    unfold hdK iK KRep
    refine ⟨ph, _, rfl, h, ?_⟩
    unfold hdV KReps
    refine ⟨_, _, rfl, by unfold KRep; rfl, ?_⟩
    unfold KReps
    exact ⟨_, _, rfl, by unfold KRep; rfl, by unfold KReps; rfl⟩
  | int k =>
    unfold hdK iK KRep
    refine ⟨ph, _, rfl, h, ?_⟩
    unfold hdV KReps
    refine ⟨_, _, rfl, by unfold KRep; rfl, ?_⟩
    unfold KReps
    exact ⟨_, _, rfl, by unfold KRep; rfl, by unfold KReps; rfl⟩
  | atom k =>
    unfold hdK iK sK KRep
    refine ⟨ph, _, rfl, h, ?_⟩
    unfold hdV KReps
    refine ⟨_, _, rfl, by unfold KRep; rfl, ?_⟩
    unfold KReps
    exact ⟨_, _, rfl, by unfold KRep; rfl, by unfold KReps; rfl⟩
  | comp f as =>
    unfold hdK iK sK KRep
    refine ⟨ph, _, rfl, h, ?_⟩
    unfold hdV KReps
    refine ⟨_, _, rfl, by unfold KRep; rfl, ?_⟩
    unfold KReps
    refine ⟨_, _, rfl, by unfold KRep; rfl, ?_⟩
    unfold KReps
    exact ⟨_, _, rfl, by unfold KRep; rfl, by unfold KReps; rfl⟩
theorem kreps_nat {H : Hp} : ∀ xs : List Nat, KReps K H (xs.map fun (n : Nat) => iK (n : Int)) (xs.map fun (n : Nat) => V.int (n : Int))
  | [] => by
    show KReps K H [] []
    unfold KReps
    rfl
  | x :: xs => by
    show KReps K H (iK (x : Int) :: xs.map fun (n : Nat) => iK (n : Int)) (V.int (x : Int) :: xs.map fun (n : Nat) => V.int (n : Int))
    unfold KReps
    exact ⟨_, _, rfl, by unfold iK KRep; rfl, kreps_nat xs⟩
theorem krep_row {H : Hp} {tt : Tm} {ph tp : Addr} {xs : List Nat} (h : SqT K H ph (hdV tt)) (g : SqT K H tp (.ref ph :: xs.map fun (n : Nat) => V.int (n : Int))) : KRep K H (PRow.key ⟨hdK tt, xs⟩) (.ref tp) := by
  unfold PRow.key KRep
  refine ⟨tp, _, rfl, g, ?_⟩
  unfold KReps
  exact ⟨_, _, rfl, krep_hd h, kreps_nat xs⟩
theorem nat_dep : ∀ xs : List Nat, DK.deps (xs.map fun (n : Nat) => iK (n : Int)) = 0
  | [] => rfl
  | x :: xs => by
    show max 0 (DK.deps (xs.map fun (n : Nat) => iK (n : Int))) = 0
    rw [nat_dep xs]
    rfl
theorem nat_lay : ∀ xs : List Nat, PyData.canLayAll0 (DK.pds (xs.map fun (n : Nat) => iK (n : Int))) = true
  | [] => rfl
  | x :: xs => by
    show (true && PyData.canLayAll0 (DK.pds (xs.map fun (n : Nat) => iK (n : Int)))) = true
    rw [nat_lay xs]
    rfl
theorem kok_row {tt : Tm} (h : Ok tt) (xs : List Nat) : KOk (PRow.key ⟨hdK tt, xs⟩) := by
  refine ⟨?_, ?_⟩
  · show max (DK.dep (hdK tt)) (DK.deps (xs.map fun (n : Nat) => iK (n : Int))) + 1 ≤ 6
    rw [nat_dep]
    have : DK.dep (hdK tt) ≤ 1 := by cases tt <;> exact Nat.le_of_ble_eq_true rfl
    omega
  · show ((DK.pd (hdK tt)).canLay0 && PyData.canLayAll0 (DK.pds (xs.map fun (n : Nat) => iK (n : Int)))) = true
    rw [nat_lay, Bool.and_true]
    cases tt with
    | var k => rfl
    | int k => rfl
    | atom a =>
      unfold Ok at h
      show (true && ((PyData.str a).canLay0 && true)) = true
      rw [strOk_of h]
      rfl
    | comp f as =>
      unfold Ok at h
      show (true && (true && ((PyData.str f).canLay0 && true))) = true
      rw [strOk_of h.1]
      rfl
theorem tnP_row (kn : Int → Option Nat) {tt : Tm} (h : ∀ k, tt = .var k → kn k = none) (R : List PRow) (ns : List Nat) : tnP kn tt (R, ns) = ((insR R ⟨hdK tt, ns.take tt.args.length⟩).1, (insR R ⟨hdK tt, ns.take tt.args.length⟩).2 :: ns.drop tt.args.length) := by
  cases tt with
  | var k =>
    unfold tnP
    dsimp only
    rw [h k rfl]
    rfl
  | atom a => rfl
  | int a => rfl
  | comp f as => rfl
def NkAt (H : Hp) (D : Addr) (kn : Int → Option Nat) : Prop := ∃ kvs : List (Key × V), H D = some (.dK kvs) ∧ ∀ k : Int, valV kvs (.inl k) = (kn k).map fun (n : Nat) => V.int (n : Int)
def spNumber (P : Program) (w : World) (K : PySem.W.Frag) (C : Addr) : Sp := fun vs H Q _ => ∃ S r pl R v t D kn, vs = [.ref S, v, .ref D] ∧ Pt P w K C H S r pl R ∧ Rep K H t v ∧ Ok t ∧ size t ≤ 50000 ∧ NkAt H D kn ∧ R.length + size t ≤ 1000000 ∧
  ∀ H', Kpt S r pl H H' → Pt P w K C H' S r pl (nrT kn R t).1 → Q (.int ((nrT kn R t).2 : Int)) H'
theorem ok_St_number (T : Tx K mg) : FnOk P w K mg base CX0 4 T.f_St_number T.d_St_number ["self", "term", "known"] (spNumber P w K T.C) := by
  refine T.h_St_number.F.ok sc_St_number (fun vs H Q E h => ?_) (fun cdv A outer s H vs Q E hr h => ?_)
  · obtain ⟨_, _, _, _, _, _, _, _, rfl, _⟩ := h
    rfl
  obtain ⟨S, r, pl, R, v, t, D, kn, rfl, hP, hR, hO, hz, hN, hl, q⟩ := h
  have hu := hu_of hr
  have hu1 := Nat.lt_of_le_of_lt (Nat.add_le_add_left (show 1 ≤ 64 by decide) _) hr.units
  refine ⟨_, (pss_cons (ps_set (i := 3) sc_St_number.nd rfl (Or.inl rfl) (pe_lst pa_nil))
    (pss_cons (ps_for PassesOwn.never rfl (pi_reversed rfl T.b_reversed (pa_cons (cl (ok_parts_of T) T.h_parts_of hr (pa_cons (pv 1) pa_nil)) pa_nil)) (pg_name (i := 4) sc_St_number.nd rfl (Or.inl rfl))
      (pss_cons (ps_set (i := 5) sc_St_number.nd rfl (Or.inl rfl) (pe_callB call_len_seq rfl T.b_len (by decide +kernel) (pa_cons (cl (ok_arguments_t T) T.h_arguments_of hr (pa_cons (pv 4) pa_nil)) pa_nil)))
    (pss_cons (ps_set (i := 6) sc_St_number.nd rfl (Or.inl rfl) (pe_backL (pv 3) (pe_op op_sub (pe_un un_neg (pv 5)) pe_int)))
    (pss_cons (ps_delFrom (pv 3) (pe_op op_sub (pe_callB call_len_seq rfl T.b_len (by decide +kernel) (pa_cons (pv 3) pa_nil)) (pv 5)))
    (pss_one (ps_if (PW.pt (pw_and (pt_val (cl (ok_is_variable T) T.h_is_variable hr (pa_cons (pv 4) pa_nil))) (pw_and1 (pt_cmp (pc_din hu1 (pe_ix ix_tup (pv 4) pe_int (fun _ _ => rfl)) (pv 2))))))
      (pss_one (ps_expr (pe_bm PySem.F.plainAttrs_list PySem.F.slot_list_append PySem.F.type_list_append mt_append (pv 3) (pa_cons (pe_dget hu1 (pv 2) (pe_ix ix_tup (pv 4) pe_int (fun _ _ => rfl)) (fun _ _ => rfl)) pa_nil))))
      (pss_one (ps_expr (pe_bm PySem.F.plainAttrs_list PySem.F.slot_list_append PySem.F.type_list_append mt_append (pv 3) (pa_cons (pe_meth (pv 0) T.cl T.h_St_number_of.m (ok_St_number_of T) (hr.mono (by first | decide | omega)) T.h_St_number_of.b .nil pass0 (pa_cons (pe_tup (pa_cons (cl (ok_head_of T) T.h_head_of hr (pa_cons (pv 4) pa_nil)) (StX.pa_star (pv 6) pa_nil))) pa_nil)) pa_nil))))))))))
    (pss_one (ps_ret (pe_ix ix_list (pv 3) pe_int (fun _ _ => rfl)))))), ?_⟩
  refine ⟨Nat.zero_le _, fun d hd => ?_⟩
  have e0 : Ex H (upd H d (.lst [])) := Ex.new hd
  have hD0 : (upd H d (.lst [])) d = some (.lst []) := upd_same
  refine ⟨_, rfl, v, t, rfl, hR.mono (Tups.of e0), hz, fun lp ps H1 hlp e1 hL hPs => ?_⟩
  have e01 := e0.trans e1
  have hD1 := e1 _ _ hD0
  have lps := hPs.len
  rw [len_pre] at lps
  have ndl : lp ≠ d := (ne_of_none hD0 hlp).symm
  have n0 : ∀ {b : Addr} {o : HO}, H b = some o → b ≠ d := fun e => ne_of_none e hd
  have nlp : ∀ {b : Addr} {o : HO}, H b = some o → b ≠ lp := fun e => ne_of_none (e0 _ _ e) hlp
  obtain ⟨dx0, hS0⟩ := hP.ins
  obtain ⟨vs0, hr0, _⟩ := hP.row
  obtain ⟨kv0, hp0, _⟩ := hP.plc
  obtain ⟨kd0, hk0, hkv⟩ := hN
  have nDS : D ≠ S := fun z => by rw [z, hS0] at hk0; cases hk0
  have nDr : D ≠ r := fun z => by rw [z, hr0] at hk0; cases hk0
  have nDp : D ≠ pl := fun z => by rw [z, hp0] at hk0; cases hk0
  have hfull : ((pre t).drop (size t - size t)).foldr (tnP kn) (R, []) = ((nrT kn R t).1, [(nrT kn R t).2]) := by
    rw [Nat.sub_self, List.drop_zero, fold_pre]
  have base0 : ((pre t).drop (size t - 0)).foldr (tnP kn) (R, []) = (R, []) := by
    rw [Nat.sub_zero, ← len_pre, List.drop_length]
    rfl
  refine ⟨lp, ps, rfl, SqL.of hL, for_it walk_rev (fun i σ' H' => i ≤ size t ∧ ∃ x4 x5 x6, σ' = [some (.ref S), some v, some (.ref D), some (.ref d), x4, x5, x6] ∧ (∀ b o, b ≠ S → b ≠ r → b ≠ pl → b ≠ d → H1 b = some o → H' b = some o) ∧ Tups K H1 H' ∧ Pt P w K T.C H' S r pl (((pre t).drop (size t - i)).foldr (tnP kn) (R, [])).1 ∧ H' d = some (.lst ((((pre t).drop (size t - i)).foldr (tnP kn) (R, [])).2.reverse.map fun (n : Nat) => V.int (n : Int))))
    ⟨Nat.zero_le _, none, none, none, rfl, fun b o _ _ _ _ e => e, .of (Ex.refl _), by rw [base0]; exact hP.ex e01, by rw [base0]; exact hD1⟩ ?_ ?_ ?_⟩
  · rintro i σ' H' _ ⟨_, _, _, _, _, k1, _⟩
    exact SqL.of (k1 _ _ (nlp hS0).symm (nlp hr0).symm (nlp hp0).symm ndl hL)
  · rintro i x σ' H' H2 hi ⟨hi0, x4, x5, x6, rfl, k1, t1, hP1, hDi⟩ ⟨rfl, hx⟩
    obtain ⟨tt, htt, hrep⟩ := (hPs.mono t1).get hx
    rw [← lps] at htt hi
    have hi' : i < size t := hi
    have hdrop : (pre t).drop (size t - (i + 1)) = tt :: (pre t).drop (size t - i) := by
      have h1 : size t - (i + 1) = size t - 1 - i := by omega
      have h2 : size t - i = (size t - 1 - i) + 1 := by omega
      obtain ⟨hlt, he⟩ := List.getElem?_eq_some_iff.mp htt
      rw [h1, h2, List.drop_eq_getElem_cons hlt, he]
    have okt : Ok tt := oks_get (ok_pre hO) htt
    have sfp : Sf (pre t) := by
      have h := sf_pre t [] trivial
      rw [List.append_nil] at h
      exact h
    have sfd := sf_drop (size t - (i + 1)) sfp
    rw [hdrop] at sfd
    rw [hdrop, List.foldr_cons]
    have fl := fold_lenP kn ((pre t).drop (size t - i)) (R, [])
    rw [List.length_drop, len_pre] at fl
    have room : tt.args.length ≤ ((((pre t).drop (size t - i)).foldr (tnP kn) (R, [])).2).length := by
      cases tt with
      | comp f as => exact sf_room kn sfd _
      | var _ => exact Nat.zero_le _
      | atom _ => exact Nat.zero_le _
      | int _ => exact Nat.zero_le _
    generalize ((pre t).drop (size t - i)).foldr (tnP kn) (R, []) = st at *
    obtain ⟨R1, ns⟩ := st
    dsimp only at hP1 hDi fl room ⊢
    have fl2 : ns.length ≤ size t := by have := fl.2; simp only [List.length_nil] at this; omega
    have fl1 : R1.length ≤ R.length + i := by have := fl.1; omega
    have la : tt.args.length ≤ ns.length := room
    refine ⟨_, rfl, x, tt, rfl, hrep, fun pa wsa Ha hpa ea hTa hRa => ⟨pa, wsa, rfl, .inr (SqT.of hTa), ?_⟩⟩
    have lwa := hRa.len
    have hDa := ea _ _ hDi
    have lws : (ns.reverse.map fun (n : Nat) => V.int (n : Int)).length = ns.length := by rw [List.length_map, List.length_reverse]
    refine ⟨_, rfl, _, rfl, _, rfl, _, _, rfl, rfl, _, rfl, d, _, wsa.length, rfl, rfl, SqL.of hDa, (by rw [lws]; omega), fun p2 hp2 => ?_⟩
    have e2 := Ex.new (o := HO.lst ((ns.reverse.map fun (n : Nat) => V.int (n : Int)).drop ((ns.reverse.map fun (n : Nat) => V.int (n : Int)).length - wsa.length)).reverse) hp2
    have hD3 := e2 _ _ hDa
    have hI3 : (upd Ha p2 (HO.lst ((ns.reverse.map fun (n : Nat) => V.int (n : Int)).drop ((ns.reverse.map fun (n : Nat) => V.int (n : Int)).length - wsa.length)).reverse)) p2 = some (.lst ((ns.take tt.args.length).map fun (n : Nat) => V.int (n : Int))) := by
      rw [upd_same, lws, ← List.map_drop, ← List.map_reverse, List.drop_reverse, List.reverse_reverse, ← lwa]
      rw [show ns.length - (ns.length - tt.args.length) = tt.args.length by omega]
    have npd : p2 ≠ d := (ne_of_none hDa hp2).symm
    have p2H : H1 p2 = none ∨ True := .inr trivial
    generalize upd Ha p2 (HO.lst ((ns.reverse.map fun (n : Nat) => V.int (n : Int)).drop ((ns.reverse.map fun (n : Nat) => V.int (n : Int)).length - wsa.length)).reverse) = H3 at *
    refine ⟨_, rfl, _, rfl, d, _, rfl, .inl (SqL.of hD3), _, rfl, _, _, rfl, rfl, _, rfl, d, _, ns.length - tt.args.length, rfl, ?_, hD3, (by rw [lws]; omega), ?_⟩
    · show some (((ns.reverse.map fun (n : Nat) => V.int (n : Int)).length : Int) - (wsa.length : Int)) = _
      rw [lws, ← lwa]
      congr 1
      omega
    have hD4 : (upd H3 d (.lst ((ns.reverse.map fun (n : Nat) => V.int (n : Int)).take (ns.length - tt.args.length)))) d = some (.lst ((ns.drop tt.args.length).reverse.map fun (n : Nat) => V.int (n : Int))) := by
      rw [upd_same, ← List.map_take, List.take_reverse, show ns.length - (ns.length - tt.args.length) = tt.args.length by omega]
    have nSd : S ≠ d := n0 hS0
    have nrd : r ≠ d := n0 hr0
    have npld : pl ≠ d := n0 hp0
    have nDd : D ≠ d := n0 hk0
    have tl : Tups K H3 (upd H3 d (.lst ((ns.reverse.map fun (n : Nat) => V.int (n : Int)).take (ns.length - tt.args.length)))) := Tups.lst hD3
    have e23 := ea.trans e2
    have hI4 : (upd H3 d (.lst ((ns.reverse.map fun (n : Nat) => V.int (n : Int)).take (ns.length - tt.args.length)))) p2 = some (.lst ((ns.take tt.args.length).map fun (n : Nat) => V.int (n : Int))) := by rw [upd_ne npd]; exact hI3
    have hP4 := (hP1.ex e23).mv tl (fun o e => by rw [upd_ne nSd]; exact e) (fun o e => by rw [upd_ne nrd]; exact e) (fun o e => by rw [upd_ne npld]; exact e)
    have hk4 : (upd H3 d (.lst ((ns.reverse.map fun (n : Nat) => V.int (n : Int)).take (ns.length - tt.args.length)))) D = some (.dK kd0) := by
      rw [upd_ne nDd]
      exact e23 _ _ (k1 _ _ nDS nDr nDp nDd (e01 _ _ hk0))
    have k4 : ∀ b o, b ≠ S → b ≠ r → b ≠ pl → b ≠ d → H1 b = some o → (upd H3 d (.lst ((ns.reverse.map fun (n : Nat) => V.int (n : Int)).take (ns.length - tt.args.length)))) b = some o := fun b o n1 n2 n3 n4 e => by
      rw [upd_ne n4]
      exact e23 _ _ (k1 b o n1 n2 n3 n4 e)
    have t4 := t1.trans ((Tups.of e23).trans tl)
    have rep4 := (hrep.mono (Tups.of (K := K) e23)).mono tl
    generalize upd H3 d (.lst ((ns.reverse.map fun (n : Nat) => V.int (n : Int)).take (ns.length - tt.args.length))) = H4 at *
    clear hD3 hI3 tl e2 ea hDa hp2 hP1 hDi hrep k1 t1
    obtain ⟨dx4, hS4⟩ := hP4.ins
    refine ⟨_, rfl, x, tt, rfl, rep4, okt, isVar tt, rfl, ?_⟩
    have dis : (∃ k n, tt = .var k ∧ kn k = some n) ∨ (∃ k, tt = .var k ∧ kn k = none) ∨ isVar tt = false := by
      cases tt with
      | var k =>
        cases e : kn k with
        | some n => exact .inl ⟨k, n, rfl, e⟩
        | none => exact .inr (.inl ⟨k, rfl, e⟩)
      | atom _ => exact .inr (.inr rfl)
      | int _ => exact .inr (.inr rfl)
      | comp _ _ => exact .inr (.inr rfl)
    rcases dis with ⟨k, n, rfl, ek⟩ | ⟨k, rfl, ek⟩ | ev
    · have hR2 := rep4
      unfold Rep at hR2
      obtain ⟨pv, rfl, hT⟩ := hR2
      have gD : DGet H4 D (.int k) (some (.int (n : Int))) := by
        have h := DGet.k (k := .inl k) hk4
        rw [hkv k, ek] at h
        exact h
      refine iteT ⟨_, rfl, pv, _, 0, _, rfl, rfl, hT, at0, _, rfl, D, _, rfl, gD, true, rfl, iteT ?_⟩
      refine ⟨_, rfl, .inl ⟨rfl, _, .of hD4⟩, _, rfl, _, rfl, pv, _, 0, _, rfl, rfl, hT, at0, D, _, rfl, gD, d, _, _, rfl, rfl, hD4, szl (by rw [List.length_map, List.length_reverse, List.length_drop]; omega), ?_⟩
      have tn : tnP kn (.var k) (R1, ns) = (R1, n :: ns) := by
        unfold tnP
        dsimp only
        rw [ek]
      rw [tn]
      have t9 := Tups.lst (K := K) (o := .lst (((ns.drop (Tm.var k).args.length).reverse.map fun (n : Nat) => V.int (n : Int)) ++ [V.int (n : Int)])) hD4
      refine ⟨by omega, _, _, _, rfl, fun b o n1 n2 n3 n4 e => by rw [upd_ne n4]; exact k4 b o n1 n2 n3 n4 e, t4.trans t9, hP4.mv t9 (fun o e => by rw [upd_ne nSd]; exact e) (fun o e => by rw [upd_ne nrd]; exact e) (fun o e => by rw [upd_ne npld]; exact e), ?_⟩
      rw [upd_same, List.reverse_cons, List.map_append]
      rfl
    · have hno : ∀ k', Tm.var k = .var k' → kn k' = none := fun k' e => by cases e; exact ek
      have hR2 := rep4
      unfold Rep at hR2
      obtain ⟨pv, rfl, hT⟩ := hR2
      have gD : DGet H4 D (.int k) none := by
        have h := DGet.k (k := .inl k) hk4
        rw [hkv k, ek] at h
        exact h
      refine iteT ⟨_, rfl, pv, _, 0, _, rfl, rfl, hT, at0, _, rfl, D, _, rfl, gD, false, rfl, iteF ?_⟩
      refine ⟨_, rfl, .inl ⟨rfl, _, .of hD4⟩, _, rfl, S, dx4, _, rfl, hS4, rfl, _, rfl, _, .var k, rfl, rep4, okt, fun ph hph => ?_⟩
      have e6 := Ex.new (o := HO.tup (hdV (.var k))) hph
      have hh6 : SqT K (upd H4 ph (.tup (hdV (.var k)))) ph (hdV (.var k)) := .of upd_same
      have hI6 := e6 _ _ hI4
      generalize upd H4 ph (.tup (hdV (.var k))) = H6 at *
      refine ⟨_, rfl, p2, _, rfl, .inr (SqL.of hI6), ?_⟩
      refine ⟨?_, fun tp htp => ?_⟩
      · show (V.ref ph :: (((ns.take (Tm.var k).args.length).map fun (n : Nat) => V.int (n : Int)) ++ [])).length ≤ sizeLine
        rw [List.length_cons, List.append_nil, List.length_map, List.length_take]
        exact Nat.le_of_lt (szl (by omega))
      have e7 := Ex.new (o := HO.tup (V.ref ph :: (((ns.take (Tm.var k).args.length).map fun (n : Nat) => V.int (n : Int)) ++ []))) htp
      have q7 : SqT K (upd H6 tp (.tup (V.ref ph :: (((ns.take (Tm.var k).args.length).map fun (n : Nat) => V.int (n : Int)) ++ [])))) tp (V.ref ph :: (ns.take (Tm.var k).args.length).map fun (n : Nat) => V.int (n : Int)) := by
        refine SqT.of ?_
        rw [upd_same, List.append_nil]
      have e67 := e6.trans e7
      refine ⟨S, r, pl, R1, tp, ⟨hdK (.var k), ns.take (Tm.var k).args.length⟩, rfl, hP4.ex e67, krep_row (Evl.ex_t e7 hh6) q7, kok_row okt _, by omega, fun H8 k8 hP8 => ?_⟩
      have hD8 := k8 _ _ nSd.symm nrd.symm npld.symm (e67 _ _ hD4)
      refine ⟨d, _, _, rfl, rfl, hD8, szl (by rw [List.length_map, List.length_reverse, List.length_drop]; omega), ?_⟩
      rw [tnP_row kn hno]
      have t8 := (hP4.ex e67).tups k8
      have t9 := Tups.lst (K := K) (o := .lst (((ns.drop (Tm.var k).args.length).reverse.map fun (n : Nat) => V.int (n : Int)) ++ [V.int ((insR R1 ⟨hdK (.var k), ns.take (Tm.var k).args.length⟩).2 : Int)])) hD8
      refine ⟨by omega, _, _, _, rfl, fun b o n1 n2 n3 n4 e => by rw [upd_ne n4]; exact k8 _ _ n1 n2 n3 (e67 _ _ (k4 b o n1 n2 n3 n4 e)), t4.trans ((Tups.of e67).trans (t8.trans t9)), hP8.mv t9 (fun o e => by rw [upd_ne nSd]; exact e) (fun o e => by rw [upd_ne nrd]; exact e) (fun o e => by rw [upd_ne npld]; exact e), ?_⟩
      rw [upd_same, List.reverse_cons, List.map_append]
      rfl
    · have hno : ∀ k', tt = .var k' → kn k' = none := fun k' e => by rw [e] at ev; cases ev
      rw [ev]
      refine iteF (iteF ?_)
      refine ⟨_, rfl, .inl ⟨rfl, _, .of hD4⟩, _, rfl, S, dx4, _, rfl, hS4, rfl, _, rfl, x, tt, rfl, rep4, okt, fun ph hph => ?_⟩
      have e6 := Ex.new (o := HO.tup (hdV tt)) hph
      have hh6 : SqT K (upd H4 ph (.tup (hdV tt))) ph (hdV tt) := .of upd_same
      have hI6 := e6 _ _ hI4
      generalize upd H4 ph (.tup (hdV tt)) = H6 at *
      refine ⟨_, rfl, p2, _, rfl, .inr (SqL.of hI6), ?_⟩
      refine ⟨?_, fun tp htp => ?_⟩
      · show (V.ref ph :: (((ns.take tt.args.length).map fun (n : Nat) => V.int (n : Int)) ++ [])).length ≤ sizeLine
        rw [List.length_cons, List.append_nil, List.length_map, List.length_take]
        exact Nat.le_of_lt (szl (by omega))
      have e7 := Ex.new (o := HO.tup (V.ref ph :: (((ns.take tt.args.length).map fun (n : Nat) => V.int (n : Int)) ++ []))) htp
      have q7 : SqT K (upd H6 tp (.tup (V.ref ph :: (((ns.take tt.args.length).map fun (n : Nat) => V.int (n : Int)) ++ [])))) tp (V.ref ph :: (ns.take tt.args.length).map fun (n : Nat) => V.int (n : Int)) := by
        refine SqT.of ?_
        rw [upd_same, List.append_nil]
      have e67 := e6.trans e7
      refine ⟨S, r, pl, R1, tp, ⟨hdK tt, ns.take tt.args.length⟩, rfl, hP4.ex e67, krep_row (Evl.ex_t e7 hh6) q7, kok_row okt _, by omega, fun H8 k8 hP8 => ?_⟩
      have hD8 := k8 _ _ nSd.symm nrd.symm npld.symm (e67 _ _ hD4)
      refine ⟨d, _, _, rfl, rfl, hD8, szl (by rw [List.length_map, List.length_reverse, List.length_drop]; omega), ?_⟩
      rw [tnP_row kn hno]
      have t8 := (hP4.ex e67).tups k8
      have t9 := Tups.lst (K := K) (o := .lst (((ns.drop tt.args.length).reverse.map fun (n : Nat) => V.int (n : Int)) ++ [V.int ((insR R1 ⟨hdK tt, ns.take tt.args.length⟩).2 : Int)])) hD8
      refine ⟨by omega, _, _, _, rfl, fun b o n1 n2 n3 n4 e => by rw [upd_ne n4]; exact k8 _ _ n1 n2 n3 (e67 _ _ (k4 b o n1 n2 n3 n4 e)), t4.trans ((Tups.of e67).trans (t8.trans t9)), hP8.mv t9 (fun o e => by rw [upd_ne nSd]; exact e) (fun o e => by rw [upd_ne nrd]; exact e) (fun o e => by rw [upd_ne npld]; exact e), ?_⟩
      rw [upd_same, List.reverse_cons, List.map_append]
      rfl
  · rintro σ' H' ⟨_, x4, x5, x6, rfl, k1, t1, hP1, hDi⟩
    rw [← lps] at hP1 hDi
    rw [hfull] at hP1 hDi
    refine ⟨_, rfl, d, _, 0, .int ((nrT kn R t).2 : Int), rfl, rfl, SqL.of hDi, at0, q H' (fun b o n1 n2 n3 e => k1 b o n1 n2 n3 (n0 e) (e01 _ _ e)) hP1⟩
end
end Hm

set_option Elab.async false
set_option linter.all false
namespace Hm
open PySem PySem.Spec PyProof.Rows L2 HT
/-! ### the number tells the term -/
mutual
inductive Kn (R : List PRow) : Nat → Tm → Prop
  | mk {n : Nat} {t : Tm} {ns : List Nat} : R[n]? = some ⟨hdK t, ns⟩ → KnA R ns t.args → Kn R n t
inductive KnA (R : List PRow) : List Nat → List Tm → Prop
  | nil : KnA R [] []
  | cons {n : Nat} {ns : List Nat} {t : Tm} {ts : List Tm} : Kn R n t → KnA R ns ts → KnA R (n :: ns) (t :: ts)
end
/-- rows at the end only -/
def Pfx (R R' : List PRow) : Prop := ∀ (n : Nat) x, R[n]? = some x → R'[n]? = some x
theorem Pfx.refl (R : List PRow) : Pfx R R := fun _ _ h => h
theorem Pfx.trans {A B C : List PRow} (h : Pfx A B) (g : Pfx B C) : Pfx A C := fun n x e => g n x (h n x e)
mutual
theorem Kn.mono {R R' : List PRow} (p : Pfx R R') : ∀ {n : Nat} {t : Tm}, Kn R n t → Kn R' n t
  | _, _, .mk h a => .mk (p _ _ h) (KnA.mono p a)
theorem KnA.mono {R R' : List PRow} (p : Pfx R R') : ∀ {ns : List Nat} {ts : List Tm}, KnA R ns ts → KnA R' ns ts
  | _, _, .nil => .nil
  | _, _, .cons h a => .cons (Kn.mono p h) (KnA.mono p a)
end
theorem nodup_at {R : List PRow} (nd : R.Nodup) {n m : Nat} {x : PRow} (h : R[n]? = some x) (g : R[m]? = some x) : n = m := by
  have hn := (List.getElem?_eq_some_iff.mp h).1
  exact (List.getElem?_inj hn nd).mp (h.trans g.symm)
mutual
theorem Kn.num {R : List PRow} (nd : R.Nodup) : ∀ {t : Tm} {n m : Nat}, Kn R n t → Kn R m t → n = m
  | _, _, _, .mk h a, .mk g b => by
    have e := KnA.num nd a b
    subst e
    exact nodup_at nd h g
theorem KnA.num {R : List PRow} (nd : R.Nodup) : ∀ {ts : List Tm} {ns ms : List Nat}, KnA R ns ts → KnA R ms ts → ns = ms
  | _, _, _, .nil, .nil => rfl
  | _, _, _, .cons h a, .cons g b => by rw [Kn.num nd h g, KnA.num nd a b]
end
theorem hd_args : ∀ {t u : Tm}, hdK t = hdK u → t.args = u.args → t = u := by
  intro t u h a
  cases t <;> cases u <;> (unfold hdK iK at h; try unfold sK at h) <;> simp at h
  · rw [h]
  · rw [h]
  · rw [h]
  · obtain ⟨_, h⟩ := h
    subst h
    rename_i as bs _
    exact congrArg _ (show as = bs from a)
mutual
theorem Kn.tell {R : List PRow} : ∀ {n : Nat} {t u : Tm}, Kn R n t → Kn R n u → t = u
  | _, _, _, .mk h a, .mk g b => by
    rw [h] at g
    injection g with g
    injection g with g1 g2
    subst g2
    exact hd_args g1 (KnA.tell a b)
theorem KnA.tell {R : List PRow} : ∀ {ns : List Nat} {ts us : List Tm}, KnA R ns ts → KnA R ns us → ts = us
  | _, _, _, .nil, .nil => rfl
  | _, _, _, .cons h a, .cons g b => by rw [Kn.tell h g, KnA.tell a b]
end
theorem ixR_some {R : List PRow} {x : PRow} {n : Nat} (h : ixR R x = some n) : R[n]? = some x := by
  unfold ixR at h
  obtain ⟨hn, hx, _⟩ := List.findIdx?_eq_some_iff_getElem.mp h
  rw [List.getElem?_eq_getElem hn]
  exact congrArg some (of_decide_eq_true hx)
theorem ixR_none {R : List PRow} {x : PRow} (h : ixR R x = none) : x ∉ R := fun m => by
  unfold ixR at h
  have := List.findIdx?_eq_none_iff.mp h x m
  simp at this
theorem insR_ok {R : List PRow} (nd : R.Nodup) (x : PRow) : Pfx R (insR R x).1 ∧ (insR R x).1.Nodup ∧ (insR R x).1[(insR R x).2]? = some x := by
  unfold insR
  cases e : ixR R x with
  | some n => exact ⟨Pfx.refl _, nd, ixR_some e⟩
  | none =>
    refine ⟨fun n y h => ?_, ?_, ?_⟩
    · show (R ++ [x])[n]? = some y
      rw [List.getElem?_append_left (List.getElem?_eq_some_iff.mp h).1]
      exact h
    · show (R ++ [x]).Nodup
      rw [List.nodup_append]
      refine ⟨nd, by simp, fun a ha b hb => ?_⟩
      rw [List.mem_singleton.mp hb]
      intro z
      exact ixR_none e (z ▸ ha)
    · show (R ++ [x])[R.length]? = some x
      simp
mutual
theorem nrT_ok {kn : Int → Option Nat} {g : Int → Tm} (hn : ∀ k, kn k = none → g k = .var k) : ∀ (t : Tm) {R : List PRow}, R.Nodup → (∀ k n, kn k = some n → Kn R n (g k)) → Pfx R (nrT kn R t).1 ∧ (nrT kn R t).1.Nodup ∧ Kn (nrT kn R t).1 (nrT kn R t).2 (sub g t)
  | .var k, R, nd, hk => by
    unfold nrT sub
    cases e : kn k with
    | some n => exact ⟨Pfx.refl _, nd, hk k n e⟩
    | none =>
      obtain ⟨a, b, c⟩ := insR_ok nd ⟨hdK (.var k), []⟩
      rw [hn k e]
      exact ⟨a, b, .mk c .nil⟩
  | .int i, R, nd, hk => by
    unfold nrT sub
    obtain ⟨a, b, c⟩ := insR_ok nd ⟨hdK (.int i), []⟩
    exact ⟨a, b, .mk c .nil⟩
  | .atom i, R, nd, hk => by
    unfold nrT sub
    obtain ⟨a, b, c⟩ := insR_ok nd ⟨hdK (.atom i), []⟩
    exact ⟨a, b, .mk c .nil⟩
  | .comp f as, R, nd, hk => by
    unfold nrT sub
    obtain ⟨a1, b1, c1⟩ := nrTs_ok hn as nd hk
    obtain ⟨a, b, c⟩ := insR_ok b1 ⟨hdK (.comp f as), (nrTs kn R as).2⟩
    have eh : hdK (.comp f as) = hdK (.comp f (subs g as)) := by
      show DK.tup [iK 3, iK (as.length : Int), sK f] = DK.tup [iK 3, iK ((subs g as).length : Int), sK f]
      rw [subs_len]
    rw [eh] at a b c ⊢
    exact ⟨a1.trans a, b, .mk c (KnA.mono a c1)⟩
theorem nrTs_ok {kn : Int → Option Nat} {g : Int → Tm} (hn : ∀ k, kn k = none → g k = .var k) : ∀ (ts : List Tm) {R : List PRow}, R.Nodup → (∀ k n, kn k = some n → Kn R n (g k)) → Pfx R (nrTs kn R ts).1 ∧ (nrTs kn R ts).1.Nodup ∧ KnA (nrTs kn R ts).1 (nrTs kn R ts).2 (subs g ts)
  | [], R, nd, hk => by
    unfold nrTs subs
    exact ⟨Pfx.refl _, nd, .nil⟩
  | t :: ts, R, nd, hk => by
    unfold nrTs subs
    obtain ⟨a1, b1, c1⟩ := nrTs_ok hn ts nd hk
    obtain ⟨a, b, c⟩ := nrT_ok hn t b1 fun k n e => Kn.mono a1 (hk k n e)
    exact ⟨a1.trans a, b, .cons c (KnA.mono a c1)⟩
end
end Hm

set_option Elab.async false
set_option linter.all false
/-! the stable sort by insertion -/
namespace Hm
open SrtO
section
variable {α : Type} {lt : α → α → Bool}
def insA (lt : α → α → Bool) (x : α) (l : List α) : List α := l.filter (fun o => !lt x o) ++ [x] ++ l.filter (fun o => lt x o)
def sortA (lt : α → α → Bool) (l : List α) : List α := l.foldl (fun acc x => insA lt x acc) []
theorem insA_perm (x : α) (l : List α) : (insA lt x l).Perm (l ++ [x]) := by
  unfold insA
  rw [List.append_assoc]
  refine (List.perm_append_comm (l₁ := [x])).append_left _ |>.trans ?_
  rw [← List.append_assoc]
  refine List.Perm.append_right _ ?_
  refine List.perm_append_comm.trans ?_
  have h := List.filter_append_perm (fun o => lt x o) l
  refine List.Perm.trans ?_ h
  exact List.Perm.refl _
theorem insA_srtd (O : Swo lt) (x : α) {l : List α} (h : Srtd lt l) : Srtd lt (insA lt x l) := by
  unfold Srtd insA at *
  rw [List.append_assoc, List.pairwise_append]
  refine ⟨h.filter _, ?_, fun a ha b hb => ?_⟩
  · rw [List.pairwise_append]
    refine ⟨List.pairwise_singleton .., h.filter _, fun a ha b hb => ?_⟩
    rw [List.mem_singleton.mp ha]
    exact O.asym _ _ (List.mem_filter.mp hb).2
  · have ha2 : lt x a = false := by simpa using (List.mem_filter.mp ha).2
    rcases List.mem_append.mp hb with hb | hb
    · rw [List.mem_singleton.mp hb]
      exact ha2
    · exact O.tr _ _ _ ha2 (O.asym _ _ (List.mem_filter.mp hb).2)
theorem insA_cls (O : Swo lt) (x y : α) (l : List α) : (insA lt x l).filter (eqv lt y) = (l ++ [x]).filter (eqv lt y) := by
  unfold insA
  rw [List.filter_append, List.filter_append, List.filter_append, List.filter_filter, List.filter_filter]
  cases e : eqv lt y x with
  | true =>
    have h1 : ∀ o, (eqv lt y o && lt x o) = false := fun o => by
      rw [eqv_trans O e]
      cases q : lt x o with
      | false => rw [Bool.and_false]
      | true =>
        unfold eqv
        rw [q]
        rfl
    have h2 : ∀ o, (eqv lt y o && !lt x o) = eqv lt y o := fun o => by
      cases q : eqv lt y o with
      | false => rfl
      | true =>
        have := h1 o
        rw [q, Bool.true_and] at this
        rw [this]
        rfl
    rw [List.filter_congr (q := eqv lt y) (fun o _ => h2 o), List.filter_congr (q := fun _ => false) (fun o _ => h1 o)]
    simp
  | false =>
    have hx : [x].filter (eqv lt y) = [] := by simp [e]
    rw [hx, List.append_nil, List.append_nil]
    by_cases ex : ∃ u, u ∈ l ∧ eqv lt y u = true
    · obtain ⟨u, _, hu⟩ := ex
      obtain ⟨u1, u2⟩ := eqv_iff.mp hu
      have key : ∀ o, eqv lt y o = true → lt x o = lt x y := fun o ho => by
        obtain ⟨o1, o2⟩ := eqv_iff.mp ho
        cases q : lt x y with
        | true =>
          cases r : lt x o with
          | true => rfl
          | false => rw [O.tr _ _ _ o2 r] at q; cases q
        | false =>
          cases r : lt x o with
          | false => rfl
          | true => rw [O.tr _ _ _ o1 q] at r; cases r
      cases q : lt x y with
      | true =>
        rw [List.filter_congr (q := fun _ => false) (fun o _ => ?_), List.filter_congr (p := fun a => eqv lt y a && lt x a) (q := eqv lt y) (fun o _ => ?_)]
        · simp
        · cases r : eqv lt y o with
          | false => rfl
          | true => rw [key o r, q]; rfl
        · cases r : eqv lt y o with
          | false => rfl
          | true => rw [key o r, q]; rfl
      | false =>
        rw [List.filter_congr (p := fun a => eqv lt y a && !lt x a) (q := eqv lt y) (fun o _ => ?_), List.filter_congr (p := fun a => eqv lt y a && lt x a) (q := fun _ => false) (fun o _ => ?_)]
        · simp
        · cases r : eqv lt y o with
          | false => rfl
          | true => rw [key o r, q]; rfl
        · cases r : eqv lt y o with
          | false => rfl
          | true => rw [key o r, q]; rfl
    · have hz : ∀ o ∈ l, eqv lt y o = false := fun o ho => by
        cases r : eqv lt y o with
        | false => rfl
        | true => exact absurd ⟨o, ho, r⟩ ex
      rw [List.filter_eq_nil_iff.mpr fun o ho => by rw [hz o ho]; simp, List.filter_eq_nil_iff.mpr fun o ho => by rw [hz o ho]; simp, List.filter_eq_nil_iff.mpr fun o ho => by rw [hz o ho]; simp]
      rfl
theorem sortA_ok (O : Swo lt) : ∀ (l acc m : List α), Srtd lt acc → Stb lt acc m → Srtd lt (l.foldl (fun acc x => insA lt x acc) acc) ∧ Stb lt (l.foldl (fun acc x => insA lt x acc) acc) (m ++ l)
  | [], acc, m, h1, h2 => by rw [List.append_nil]; exact ⟨h1, h2⟩
  | x :: l, acc, m, h1, h2 => by
    have h := sortA_ok O l (insA lt x acc) (m ++ [x]) (insA_srtd O x h1) ⟨(insA_perm x acc).trans (h2.perm.append_right _), fun y => by rw [insA_cls O, List.filter_append, List.filter_append, h2.cls]⟩
    rw [List.append_assoc] at h
    exact h
theorem sortA_srtd (O : Swo lt) (l : List α) : Srtd lt (sortA lt l) := (sortA_ok O l [] [] List.Pairwise.nil ⟨List.Perm.refl _, fun _ => rfl⟩).1
theorem sortA_stb (O : Swo lt) (l : List α) : Stb lt (sortA lt l) l := (sortA_ok O l [] [] List.Pairwise.nil ⟨List.Perm.refl _, fun _ => rfl⟩).2
/-- what a stable sort by a key makes of items that bear another one -/
theorem sortA_map {β : Type} {ltb : β → β → Bool} (O : Swo ltb) (f : α → β) (l : List α) {Z : List β} (h1 : Srtd ltb Z) (h2 : Stb ltb Z (l.map f)) : Z = (sortA (fun x y => ltb (f x) (f y)) l).map f := by
  have O2 : Swo (fun x y => ltb (f x) (f y)) := ⟨fun a b => O.asym _ _, fun a b c => O.tr _ _ _⟩
  have s1 := sortA_srtd O2 l
  have s2 := Stb.map O f (sortA_stb O2 l)
  refine stb_uniq O h1 ?_ ⟨h2.perm.trans s2.perm.symm, fun x => (h2.cls x).trans (s2.cls x).symm⟩
  unfold Srtd at s1 ⊢
  exact List.pairwise_map.mpr s1
end
end Hm

set_option Elab.async false
set_option linter.all false
set_option maxRecDepth 100000
set_option maxHeartbeats 1000000
namespace Hm
open PySem PySem.Spec PyProof.Rows L2 HT
open Evl (Ex)
/-! ## mathematics of renaming -/
/-- a table that gives a variable for each variable -/
def vg (f : Int → Int) (k : Int) : Tm := .var (f k)
mutual
theorem size_vg (f : Int → Int) : ∀ t : Tm, size (sub (vg f) t) = size t
  | .var _ => rfl
  | .int _ => rfl
  | .atom _ => rfl
  | .comp g as => by
    unfold sub size
    rw [sizes_vg f as]
theorem sizes_vg (f : Int → Int) : ∀ ts : List Tm, sizes (subs (vg f) ts) = sizes ts
  | [] => rfl
  | t :: ts => by
    unfold subs
    rw [sizes_cons, sizes_cons, size_vg f t, sizes_vg f ts]
end
mutual
theorem depth_vg (f : Int → Int) : ∀ t : Tm, depth (sub (vg f) t) = depth t
  | .var _ => rfl
  | .int _ => rfl
  | .atom _ => rfl
  | .comp g as => by
    unfold sub depth
    rw [depths_vg f as]
theorem depths_vg (f : Int → Int) : ∀ ts : List Tm, depths (subs (vg f) ts) = depths ts
  | [] => rfl
  | t :: ts => by
    unfold subs
    rw [depths_cons, depths_cons, depth_vg f t, depths_vg f ts]
end
/-- the variables of a term in a row, each as often as it stands -/
def vOne : Tm → List Int
  | .var k => [k]
  | _ => []
def vSeq (t : Tm) : List Int := (pre t).flatMap vOne
theorem fold_flat : ∀ (ts : List Tm) (acc : List Int), ts.foldl stepVar acc = (ts.flatMap vOne).foldl addNew acc
  | [], _ => rfl
  | t :: ts, acc => by
    rw [List.foldl_cons, List.flatMap_cons, List.foldl_append, fold_flat ts]
    cases t <;> rfl
theorem varsOf_seq (t : Tm) : varsOf t = (vSeq t).foldl addNew [] := fold_flat _ _
mutual
theorem pre_vg (f : Int → Int) : ∀ t : Tm, (pre (sub (vg f) t)).flatMap vOne = ((pre t).flatMap vOne).map f
  | .var _ => rfl
  | .int _ => rfl
  | .atom _ => rfl
  | .comp g as => by
    unfold sub pre
    rw [List.flatMap_cons, List.flatMap_cons]
    show [] ++ _ = ([] ++ _).map f
    rw [List.nil_append, List.nil_append]
    exact pres_vg f as
theorem pres_vg (f : Int → Int) : ∀ ts : List Tm, (pres (subs (vg f) ts)).flatMap vOne = ((pres ts).flatMap vOne).map f
  | [] => rfl
  | t :: ts => by
    unfold subs
    rw [pres_cons, pres_cons, List.flatMap_append, List.flatMap_append, pre_vg f t, pres_vg f ts, List.map_append]
end
theorem vSeq_vg (f : Int → Int) (t : Tm) : vSeq (sub (vg f) t) = (vSeq t).map f := pre_vg f t
theorem mem_addNew {acc : List Int} {k j : Int} : j ∈ addNew acc k ↔ j ∈ acc ∨ j = k := by
  unfold addNew
  split
  · constructor
    · exact .inl
    · rintro (h | h)
      · exact h
      · subst h; assumption
  · simp
theorem mem_fold : ∀ (ks acc : List Int) (j : Int), j ∈ ks.foldl addNew acc ↔ j ∈ acc ∨ j ∈ ks
  | [], acc, j => by simp
  | k :: ks, acc, j => by
    rw [List.foldl_cons, mem_fold ks, mem_addNew, List.mem_cons]
    constructor
    · rintro ((h | h) | h)
      · exact .inl h
      · exact .inr (.inl h)
      · exact .inr (.inr h)
    · rintro (h | h | h)
      · exact .inl (.inl h)
      · exact .inl (.inr h)
      · exact .inr h
theorem fold_map (f : Int → Int) (S : List Int) (hf : ∀ a ∈ S, ∀ b ∈ S, f a = f b → a = b) : ∀ (ks acc : List Int), (∀ k ∈ ks, k ∈ S) → (∀ k ∈ acc, k ∈ S) → (ks.map f).foldl addNew (acc.map f) = (ks.foldl addNew acc).map f
  | [], _, _, _ => rfl
  | k :: ks, acc, h1, h2 => by
    have hk := h1 k List.mem_cons_self
    have e : addNew (acc.map f) (f k) = (addNew acc k).map f := by
      unfold addNew
      by_cases m : k ∈ acc
      · rw [if_pos m, if_pos (List.mem_map_of_mem m)]
      · rw [if_neg m, if_neg]
        · rw [List.map_append]
          rfl
        · intro z
          obtain ⟨j, hj, he⟩ := List.mem_map.mp z
          exact m (hf j (h2 j hj) k hk he ▸ hj)
    rw [List.map_cons, List.foldl_cons, List.foldl_cons, e]
    exact fold_map f S hf ks _ (fun j hj => h1 j (List.mem_cons_of_mem _ hj)) fun j hj => by
      rcases mem_addNew.mp hj with h | h
      · exact h2 j h
      · exact h ▸ hk
/-- what renumbering does to a number -/
def rf (xs : List Int) (k : Int) : Int := if k ∈ xs then ((xs.idxOf k : Nat) : Int) else k
theorem rg_vg (xs : List Int) : rg xs = vg (rf xs) := by
  funext k
  unfold rg vg rf
  split <;> rfl
theorem renum_vg (t : Tm) : renum t = sub (vg (rf (varsOf t))) t := by
  unfold renum
  rw [rg_vg]
theorem rf_nat {xs : List Int} {k : Int} (h : 0 ≤ k) : 0 ≤ rf xs k := by
  unfold rf
  split
  · exact Int.natCast_nonneg _
  · exact h
mutual
theorem ok_renum' {f : Int → Int} (hf : ∀ k, 0 ≤ k → 0 ≤ f k) : ∀ t : Tm, Ok t → Ok (sub (vg f) t)
  | .var k, h => by
    unfold Ok at h
    unfold sub vg Ok
    exact hf k h
  | .int _, h => h
  | .atom _, h => h
  | .comp g as, h => by
    unfold Ok at h
    unfold sub Ok
    rw [subs_len]
    exact ⟨h.1, h.2.1, h.2.2.1, oks_renum' hf as h.2.2.2⟩
theorem oks_renum' {f : Int → Int} (hf : ∀ k, 0 ≤ k → 0 ≤ f k) : ∀ ts : List Tm, Oks ts → Oks (subs (vg f) ts)
  | [], _ => trivial
  | t :: ts, h => by
    rw [oks_cons] at h
    unfold subs
    rw [oks_cons]
    exact ⟨ok_renum' hf t h.1, oks_renum' hf ts h.2⟩
end
theorem ok_renum {t : Tm} (h : Ok t) : Ok (renum t) := by
  rw [renum_vg]
  exact ok_renum' (fun k hk => rf_nat hk) t h
mutual
theorem sub_id {f : Int → Int} : ∀ t : Tm, (∀ k ∈ (pre t).flatMap vOne, f k = k) → sub (vg f) t = t
  | .var k, h => by
    unfold sub vg
    rw [h k (by simp [pre, vOne])]
  | .int _, _ => rfl
  | .atom _, _ => rfl
  | .comp g as, h => by
    unfold sub
    rw [subs_id as fun k hk => h k (by unfold pre; rw [List.flatMap_cons]; exact List.mem_append_right _ hk)]
theorem subs_id {f : Int → Int} : ∀ ts : List Tm, (∀ k ∈ (pres ts).flatMap vOne, f k = k) → subs (vg f) ts = ts
  | [], _ => rfl
  | t :: ts, h => by
    rw [pres_cons, List.flatMap_append] at h
    unfold subs
    rw [sub_id t fun k hk => h k (List.mem_append_left _ hk), subs_id ts fun k hk => h k (List.mem_append_right _ hk)]
end
theorem varsOf_mem {t : Tm} {k : Int} (h : k ∈ vSeq t) : k ∈ varsOf t := by
  rw [varsOf_seq]
  exact (mem_fold _ _ _).mpr (.inr h)
theorem mem_varsOf {t : Tm} {k : Int} (h : k ∈ varsOf t) : k ∈ vSeq t := by
  rw [varsOf_seq] at h
  rcases (mem_fold _ _ _).mp h with h | h
  · cases h
  · exact h
theorem rf_inj {xs : List Int} : ∀ a ∈ xs, ∀ b ∈ xs, rf xs a = rf xs b → a = b := fun a ha b hb e => by
  unfold rf at e
  rw [if_pos ha, if_pos hb] at e
  have e2 : xs.idxOf a = xs.idxOf b := by omega
  have h1 := List.getElem_idxOf (List.idxOf_lt_length_of_mem ha)
  have h2 := List.getElem_idxOf (List.idxOf_lt_length_of_mem hb)
  rw [← h1, ← h2]
  congr 1
theorem map_rf {xs : List Int} (hn : xs.Nodup) : xs.map (rf xs) = (List.range xs.length).map fun i => ((i : Nat) : Int) := by
  apply List.ext_getElem?
  intro i
  rw [List.getElem?_map, List.getElem?_map]
  by_cases hi : i < xs.length
  · rw [List.getElem?_eq_getElem hi, List.getElem?_range hi]
    show some (rf xs xs[i]) = some ((i : Nat) : Int)
    unfold rf
    rw [if_pos (List.getElem_mem hi), idx_at hn (List.getElem?_eq_getElem hi)]
  · rw [List.getElem?_eq_none (by omega), List.getElem?_eq_none (by rw [List.length_range]; omega)]
    rfl
theorem renum_renum (t : Tm) : renum (renum t) = renum t := by
  have hn := varsOf_nodup t
  have e1 : varsOf (renum t) = (List.range (varsOf t).length).map fun i => ((i : Nat) : Int) := by
    rw [renum_vg, varsOf_seq, vSeq_vg]
    have := fold_map (rf (varsOf t)) (varsOf t) rf_inj (vSeq t) [] (fun k hk => varsOf_mem hk) (fun k hk => by cases hk)
    rw [List.map_nil] at this
    rw [this, ← varsOf_seq, map_rf hn]
  rw [renum_vg (renum t)]
  refine sub_id _ fun k hk => ?_
  have hk2 : k ∈ varsOf (renum t) := varsOf_mem hk
  have hn2 := varsOf_nodup (renum t)
  rw [e1] at hk2 hn2
  rw [e1]
  unfold rf
  rw [if_pos hk2]
  obtain ⟨i, hi, e⟩ := List.mem_map.mp hk2
  have hi2 : i < (varsOf t).length := List.mem_range.mp hi
  have : ((List.range (varsOf t).length).map fun i => ((i : Nat) : Int))[i]? = some k := by
    rw [List.getElem?_map, List.getElem?_range hi2]
    exact congrArg some e
  rw [idx_at hn2 this]
  exact e
theorem size_renum (t : Tm) : size (renum t) = size t := by
  rw [renum_vg, size_vg]
theorem depth_renum (t : Tm) : depth (renum t) = depth t := by
  rw [renum_vg, depth_vg]
end Hm

set_option Elab.async false
set_option linter.all false
namespace Hm
open PySem PySem.Spec PyProof.Rows L2 HT
open Evl (Ex)
/-! ### groups, plain -/
/-- the variables of the first witness for those of a variant of it -/
def rnm (f w : Tm) (k : Int) : Tm := match ((varsOf w).zip (varsOf f)).lookup k with
  | some j => .var j
  | none => .var k
def addG : List (Tm × List Tm) → Tm × Tm → List (Tm × List Tm)
  | [], p => [(p.1, [sub (rnm p.1 p.1) p.2])]
  | g :: gs, p => if tord (renum g.1) (renum p.1) = 0 then (g.1, g.2 ++ [sub (rnm g.1 p.1) p.2]) :: gs else g :: addG gs p
/-! ### groups with where they stand -/
structure GE where
  n : Nat
  a : Addr
  l : Addr
  x : V
  ys : List V
  w : Tm
  ss : List Tm
def GE.kv (g : GE) : Key × V := ((Sum.inl (g.n : Int) : Key), V.ref g.a)
def GE.gr (g : GE) : Tm × List Tm := (g.w, g.ss)
theorem addG_miss : ∀ {Gs : List GE} {p : Tm × Tm}, (∀ h ∈ Gs, tord (renum h.w) (renum p.1) ≠ 0) → addG (Gs.map GE.gr) p = Gs.map GE.gr ++ [(p.1, [sub (rnm p.1 p.1) p.2])]
  | [], _, _ => rfl
  | g :: Gs, p, h => by
    show (if tord (renum g.w) (renum p.1) = 0 then _ else g.gr :: addG (Gs.map GE.gr) p) = _
    rw [if_neg (h g (List.mem_cons_self ..)), addG_miss fun q hq => h q (List.mem_cons_of_mem _ hq)]
    rfl
theorem addG_hit {p : Tm × Tm} {n : Nat} {y : V} : ∀ {Gs : List GE}, (Gs.map GE.n).Nodup → (∀ h ∈ Gs, (tord (renum h.w) (renum p.1) = 0 ↔ h.n = n)) → n ∈ Gs.map GE.n →
    addG (Gs.map GE.gr) p = (Gs.map fun h => if h.n = n then { h with ys := h.ys ++ [y], ss := h.ss ++ [sub (rnm h.w p.1) p.2] } else h).map GE.gr
  | [], _, _, m => absurd m List.not_mem_nil
  | g :: Gs, nd, h, m => by
    rw [List.map_cons, List.nodup_cons] at nd
    show (if tord (renum g.w) (renum p.1) = 0 then (g.w, g.ss ++ [sub (rnm g.w p.1) p.2]) :: Gs.map GE.gr else g.gr :: addG (Gs.map GE.gr) p) = _
    by_cases e : g.n = n
    · rw [if_pos ((h g (List.mem_cons_self ..)).mpr e), List.map_cons, List.map_cons, if_pos e]
      congr 1
      rw [List.map_map]
      refine List.map_congr_left fun q hq => ?_
      have nq : q.n ≠ n := fun z => nd.1 (by rw [e, ← z]; exact List.mem_map_of_mem hq)
      show q.gr = GE.gr (if q.n = n then _ else q)
      rw [if_neg nq]
    · rw [if_neg (fun z => e ((h g (List.mem_cons_self ..)).mp z)), List.map_cons, List.map_cons, if_neg e]
      congr 1
      refine addG_hit nd.2 (fun q hq => h q (List.mem_cons_of_mem _ hq)) ?_
      rcases List.mem_cons.1 m with z | z
      · exact absurd z.symm e
      · exact z
theorem val_ge : ∀ {Gs : List GE} {n : Nat}, valV (Gs.map GE.kv) (Sum.inl (n : Int) : Key) = (Gs.find? fun g => decide (g.n = n)).map fun g => V.ref g.a
  | [], _ => rfl
  | g :: Gs, n => by
    rw [List.map_cons, List.find?_cons]
    show valV (((Sum.inl (g.n : Int) : Key), V.ref g.a) :: Gs.map GE.kv) _ = _
    by_cases e : g.n = n
    · rw [valV_pos (by rw [e]), decide_eq_true e]
      rfl
    · rw [valV_neg (by intro z; injection z with z; exact e (Int.ofNat.inj z)), decide_eq_false e]
      exact val_ge

theorem val_ge_some : ∀ {Gs : List GE} {n : Nat} {v : V}, valV (Gs.map GE.kv) (Sum.inl (n : Int) : Key) = some v → ∃ g ∈ Gs, g.n = n ∧ v = .ref g.a := fun {Gs n v} h => by
  rw [val_ge] at h
  cases e : Gs.find? fun g => decide (g.n = n) with
  | none => rw [e] at h; cases h
  | some g =>
    rw [e] at h
    cases h
    exact ⟨g, List.mem_of_find?_eq_some e, of_decide_eq_true (List.find?_some (p := fun g : GE => decide (g.n = n)) e), rfl⟩
theorem val_ge_none {Gs : List GE} {n : Nat} (h : valV (Gs.map GE.kv) (Sum.inl (n : Int) : Key) = none) : ∀ g ∈ Gs, g.n ≠ n := fun g hg e => by
  rw [val_ge] at h
  cases e2 : Gs.find? fun g => decide (g.n = n) with
  | none => exact absurd (decide_eq_true e) (by simpa using List.find?_eq_none.mp e2 g hg)
  | some g => rw [e2] at h; cases h
structure GsAt (K : PySem.W.Frag) (H H' : Hp) (A : List Addr) (R : List PRow) (m : Nat) (Gs : List GE) : Prop where
  nn : (Gs.map GE.n).Nodup
  nl : (Gs.map GE.l).Nodup
  kn : ∀ g ∈ Gs, Kn R g.n (renum g.w)
  ok : ∀ g ∈ Gs, Ok g.w ∧ size g.w ≤ 300
  tp : ∀ g ∈ Gs, SqT K H' g.a [g.x, .ref g.l]
  rp : ∀ g ∈ Gs, Rep K H' g.w g.x
  ls : ∀ g ∈ Gs, H' g.l = some (.lst g.ys)
  rs : ∀ g ∈ Gs, Reps K H' g.ss g.ys
  fr : ∀ g ∈ Gs, H g.l = none ∧ g.l ∉ A
  sz : ∀ g ∈ Gs, ∀ t ∈ g.ss, Ok t ∧ size t ≤ 300
  ln : ∀ g ∈ Gs, g.ys.length ≤ m
section
variable {K : PySem.W.Frag} {H H1 H2 : Hp} {A : List Addr} {R : List PRow} {m : Nat} {Gs : List GE}
theorem GsAt.nil : GsAt K H H1 A R m [] := ⟨List.nodup_nil, List.nodup_nil, fun _ h => absurd h List.not_mem_nil, fun _ h => absurd h List.not_mem_nil, fun _ h => absurd h List.not_mem_nil, fun _ h => absurd h List.not_mem_nil, fun _ h => absurd h List.not_mem_nil, fun _ h => absurd h List.not_mem_nil, fun _ h => absurd h List.not_mem_nil, fun _ h => absurd h List.not_mem_nil, fun _ h => absurd h List.not_mem_nil⟩
theorem GsAt.mv (h : GsAt K H H1 A R m Gs) (t : Tups K H1 H2) (k : ∀ b ys, b ∉ A → H1 b = some (.lst ys) → H2 b = some (.lst ys)) : GsAt K H H2 A R m Gs :=
  ⟨h.nn, h.nl, h.kn, h.ok, fun g hg => t _ _ (h.tp g hg), fun g hg => (h.rp g hg).mono t, fun g hg => k _ _ (h.fr g hg).2 (h.ls g hg), fun g hg => (h.rs g hg).mono t, h.fr, h.sz, h.ln⟩
theorem GsAt.ex (h : GsAt K H H1 A R m Gs) (e : Ex H1 H2) : GsAt K H H2 A R m Gs := h.mv (.of e) fun b ys _ q => e _ _ q
theorem GsAt.rows {R' : List PRow} (h : GsAt K H H1 A R m Gs) (p : Pfx R R') : GsAt K H H1 A R' m Gs := ⟨h.nn, h.nl, fun g hg => (h.kn g hg).mono p, h.ok, h.tp, h.rp, h.ls, h.rs, h.fr, h.sz, h.ln⟩
theorem GsAt.num (h : GsAt K H H1 A R m Gs) (nd : R.Nodup) {n : Nat} {t : Tm} (k : Kn R n (renum t)) {g : GE} (hg : g ∈ Gs) : tord (renum g.w) (renum t) = 0 ↔ g.n = n := by
  constructor
  · intro e
    have e := tord_ok.eq _ _ e
    have := h.kn g hg
    rw [e] at this
    exact Kn.num nd this k
  · intro e
    have := h.kn g hg
    rw [e] at this
    rw [Kn.tell this k]
    exact tord_ok.refl _
/-- a group of its own for a new number -/
theorem GsAt.add (h : GsAt K H H1 A R m Gs) {n : Nat} {a l : Addr} {x : V} {t : Tm} (hn : ∀ g ∈ Gs, g.n ≠ n) (k : Kn R n (renum t)) (ho : Ok t) (hz : size t ≤ 300) (hT : SqT K H1 a [x, .ref l]) (hr : Rep K H1 t x) (hl : H1 l = some (.lst [])) (hf : H l = none) (hA : l ∉ A) (hq : ∀ g ∈ Gs, g.l ≠ l) :
    GsAt K H H1 A R m (Gs ++ [⟨n, a, l, x, [], t, []⟩]) := by
  have all : ∀ {p : GE → Prop}, (∀ g ∈ Gs, p g) → p ⟨n, a, l, x, [], t, []⟩ → ∀ g ∈ Gs ++ [⟨n, a, l, x, [], t, []⟩], p g := fun h1 h2 g hg => by
    rcases List.mem_append.mp hg with hg | hg
    · exact h1 g hg
    · rw [List.mem_singleton.mp hg]
      exact h2
  refine ⟨?_, ?_, all h.kn k, all h.ok ⟨ho, hz⟩, all h.tp hT, all h.rp hr, all h.ls hl, all h.rs Reps.nil, all h.fr ⟨hf, hA⟩, all h.sz (fun t ht => absurd ht List.not_mem_nil), all h.ln (Nat.zero_le _)⟩
  · rw [List.map_append, List.nodup_append]
    refine ⟨h.nn, by simp, fun b hb c hc => ?_⟩
    obtain ⟨g, hg, rfl⟩ := List.mem_map.mp hb
    rw [List.mem_singleton.mp hc]
    exact hn g hg
  · rw [List.map_append, List.nodup_append]
    refine ⟨h.nl, by simp, fun b hb c hc => ?_⟩
    obtain ⟨g, hg, rfl⟩ := List.mem_map.mp hb
    rw [List.mem_singleton.mp hc]
    exact hq g hg
/-- a solution more for a group -/
def GE.more (n : Nat) (y : V) (t : Tm → Tm) (h : GE) : GE := if h.n = n then { h with ys := h.ys ++ [y], ss := h.ss ++ [t h.w] } else h
theorem GE.more_kv {n : Nat} {y : V} {t : Tm → Tm} {h : GE} : (h.more n y t).kv = h.kv ∧ (h.more n y t).n = h.n ∧ (h.more n y t).l = h.l ∧ (h.more n y t).w = h.w ∧ (h.more n y t).a = h.a ∧ (h.more n y t).x = h.x := by
  unfold GE.more
  split <;> exact ⟨rfl, rfl, rfl, rfl, rfl, rfl⟩
theorem nodup_inj {α β : Type} {f : α → β} : ∀ {l : List α}, (l.map f).Nodup → ∀ {x y : α}, x ∈ l → y ∈ l → f x = f y → x = y
  | [], _, _, _, h, _, _ => absurd h List.not_mem_nil
  | a :: l, nd, x, y, hx, hy, e => by
    rw [List.map_cons, List.nodup_cons] at nd
    rcases List.mem_cons.1 hx with q1 | q1
    · rcases List.mem_cons.1 hy with q2 | q2
      · exact q1.trans q2.symm
      · exact absurd (by rw [← q1, e]; exact List.mem_map_of_mem q2) nd.1
    · rcases List.mem_cons.1 hy with q2 | q2
      · exact absurd (by rw [← q2, ← e]; exact List.mem_map_of_mem q1) nd.1
      · exact nodup_inj nd.2 q1 q2 e
theorem GsAt.app (h : GsAt K H H1 A R m Gs) {g : GE} (hg : g ∈ Gs) {y : V} {t : Tm → Tm} (hy : Rep K H1 (t g.w) y) (ho : Ok (t g.w)) (hz : size (t g.w) ≤ 300) : GsAt K H (upd H1 g.l (.lst (g.ys ++ [y]))) A R (m + 1) (Gs.map (GE.more g.n y t)) := by
  have hl := h.ls g hg
  have tu : Tups K H1 (upd H1 g.l (.lst (g.ys ++ [y]))) := Tups.lst hl
  have all : ∀ {p : GE → Prop}, (∀ q ∈ Gs, q.n ≠ g.n → p q) → p { g with ys := g.ys ++ [y], ss := g.ss ++ [t g.w] } → ∀ q ∈ Gs.map (GE.more g.n y t), p q := fun h1 h2 q hq => by
    obtain ⟨q', hq', rfl⟩ := List.mem_map.mp hq
    unfold GE.more
    by_cases e : q'.n = g.n
    · rw [if_pos e]
      have := nodup_inj h.nn hq' hg e
      subst this
      exact h2
    · rw [if_neg e]
      exact h1 q' hq' e
  have e1 : (Gs.map (GE.more g.n y t)).map GE.n = Gs.map GE.n := by
    rw [List.map_map]
    exact List.map_congr_left fun q _ => GE.more_kv.2.1
  have e2 : (Gs.map (GE.more g.n y t)).map GE.l = Gs.map GE.l := by
    rw [List.map_map]
    exact List.map_congr_left fun q _ => GE.more_kv.2.2.1
  have nl : ∀ q ∈ Gs, q.n ≠ g.n → q.l ≠ g.l := fun q hq e z => e (by rw [nodup_inj h.nl hq hg z])
  refine ⟨by rw [e1]; exact h.nn, by rw [e2]; exact h.nl, all (fun q hq _ => h.kn q hq) (h.kn g hg), all (fun q hq _ => h.ok q hq) (h.ok g hg), all (fun q hq _ => tu _ _ (h.tp q hq)) (tu _ _ (h.tp g hg)), all (fun q hq _ => (h.rp q hq).mono tu) ((h.rp g hg).mono tu), all (fun q hq e => ?_) upd_same, all (fun q hq _ => (h.rs q hq).mono tu) ?_, all (fun q hq _ => h.fr q hq) (h.fr g hg), all (fun q hq _ => h.sz q hq) ?_, all (fun q hq _ => Nat.le_succ_of_le (h.ln q hq)) ?_⟩
  · rw [upd_ne (nl q hq e)]
    exact h.ls q hq
  · exact ((h.rs g hg).mono tu).app (Reps.one (hy.mono tu))
  · intro u hu
    rcases List.mem_append.mp hu with hu | hu
    · exact h.sz g hg u hu
    · rw [List.mem_singleton.mp hu]
      exact ⟨ho, hz⟩
  · have := h.ln g hg
    show (g.ys ++ [y]).length ≤ m + 1
    rw [List.length_append, List.length_singleton]
    omega
theorem more_kvs {n : Nat} {y : V} {t : Tm → Tm} : (Gs.map (GE.more n y t)).map GE.kv = Gs.map GE.kv := by
  rw [List.map_map]
  exact List.map_congr_left fun q _ => GE.more_kv.1
/-- a turn, where the number is known -/
theorem GsAt.hit (h : GsAt K H H1 A R m Gs) (nd : R.Nodup) {n : Nat} {p : Tm × Tm} (k : Kn R n (renum p.1)) (hn : ∃ g ∈ Gs, g.n = n) (y : V) : addG (Gs.map GE.gr) p = (Gs.map (GE.more n y fun f => sub (rnm f p.1) p.2)).map GE.gr := by
  refine addG_hit h.nn (fun q hq => h.num nd k hq) ?_
  obtain ⟨g, hg, e⟩ := hn
  exact List.mem_map.mpr ⟨g, hg, e⟩
theorem GsAt.miss (h : GsAt K H H1 A R m Gs) (nd : R.Nodup) {n : Nat} {p : Tm × Tm} (k : Kn R n (renum p.1)) (hn : ∀ g ∈ Gs, g.n ≠ n) (y : V) (a l : Addr) (x : V) : addG (Gs.map GE.gr) p = ((Gs ++ [(⟨n, a, l, x, [], p.1, []⟩ : GE)]).map (GE.more n y fun f => sub (rnm f p.1) p.2)).map GE.gr := by
  rw [addG_miss fun q hq e => hn q hq ((h.num nd k hq).mp e), List.map_append, List.map_append]
  congr 1
  · rw [List.map_map]
    refine List.map_congr_left fun q hq => ?_
    show q.gr = (q.more _ _ _).gr
    unfold GE.more
    rw [if_neg (hn q hq)]
  · show _ = [(GE.more n y _ _).gr]
    unfold GE.more
    rw [if_pos rfl]
    rfl
end

/-! ### a dict of a zip -/
theorem valV_merge : ∀ (more kvs : List (Key × V)) (k : Key), (more.map Prod.fst).Nodup → valV (mergeK kvs more) k = (valV more k).or (valV kvs k)
  | [], kvs, k, _ => rfl
  | p :: r, kvs, k, nd => by
    rw [List.map_cons, List.nodup_cons] at nd
    show valV (mergeK (putK kvs p.1 p.2) r) k = _
    rw [valV_merge r _ k nd.2, valV_put]
    by_cases e : k = p.1
    · have hn : valV r k = none := by
        cases h : valV r k with
        | none => rfl
        | some v =>
          exfalso
          unfold valV at h
          cases h2 : r.find? fun kv => decide (kv.1 = k) with
          | none => rw [h2] at h; cases h
          | some q =>
            have := of_decide_eq_true (List.find?_some (p := fun kv : Key × V => decide (kv.1 = k)) h2)
            exact nd.1 (by rw [← e, ← this]; exact List.mem_map_of_mem (List.mem_of_find?_eq_some h2))
      rw [if_pos e, hn, valV_pos e.symm]
      rfl
    · rw [if_neg e, valV_neg fun z => e z.symm]
def putG (ks js : List Int) (k : Int) : Tm := match (ks.zip js).lookup k with
  | some j => .var j
  | none => .var k
theorem rnm_put (f w : Tm) : rnm f w = putG (varsOf w) (varsOf f) := rfl
theorem putG_nil (js : List Int) (k : Int) : putG [] js k = .var k := rfl
theorem putG_nil2 (ks : List Int) (k : Int) : putG ks [] k = .var k := by
  unfold putG
  rw [List.zip_nil_right]
  rfl
theorem putG_cons (a b : Int) (ks js : List Int) (k : Int) : putG (a :: ks) (b :: js) k = if k = a then .var b else putG ks js k := by
  unfold putG
  rw [List.zip_cons_cons, List.lookup_cons]
  by_cases e : k = a
  · rw [if_pos e, beq_iff_eq.mpr e]
  · rw [if_neg e, beq_eq_false_iff_ne.mpr e]
theorem tab_zip {K : PySem.W.Frag} {H : Hp} : ∀ (ks js : List Int) (us : List V), Reps K H (js.map Tm.var) us → ∀ k : Int, (∀ u, valV ((ks.map fun k => (Sum.inl k : Key)).zip us) (Sum.inl k : Key) = some u → Rep K H (putG ks js k) u) ∧ (valV ((ks.map fun k => (Sum.inl k : Key)).zip us) (Sum.inl k : Key) = none → putG ks js k = .var k)
  | [], js, us, h, k => ⟨fun u (e : (none : Option V) = some u) => (by cases e), fun _ => rfl⟩
  | a :: ks, [], us, h, k => by
    obtain rfl := h.nil_inv
    refine ⟨fun u e => (by rw [List.zip_nil_right] at e; cases e), fun _ => putG_nil2 _ _⟩
  | a :: ks, b :: js, us, h, k => by
    obtain ⟨w, ws, rfl, hw, hs⟩ := Reps.cons_inv h
    rw [putG_cons, List.map_cons, List.zip_cons_cons]
    by_cases e : k = a
    · subst e
      rw [if_pos rfl, valV_pos rfl]
      exact ⟨fun u e => (Option.some.inj e) ▸ hw, fun e => by cases e⟩
    · rw [if_neg e, valV_neg (fun z => e (by injection z with z; exact z.symm))]
      exact tab_zip ks js ws hs k
theorem vars_renum (t : Tm) : varsOf (renum t) = (List.range (varsOf t).length).map fun i => ((i : Nat) : Int) := by
  rw [renum_vg, varsOf_seq, vSeq_vg]
  have := fold_map (rf (varsOf t)) (varsOf t) rf_inj (vSeq t) [] (fun k hk => varsOf_mem hk) (fun k hk => by cases hk)
  rw [List.map_nil] at this
  rw [this, ← varsOf_seq, map_rf (varsOf_nodup t)]
theorem vars_len_renum {t u : Tm} (h : renum t = renum u) : (varsOf t).length = (varsOf u).length := by
  have e := congrArg List.length (vars_renum t)
  rw [h, vars_renum u, List.length_map, List.length_map, List.length_range, List.length_range] at e
  exact e.symm
/-- numbers for numbers -/
def putF (ks js : List Int) (k : Int) : Int := ((ks.zip js).lookup k).getD k
theorem putG_vg (ks js : List Int) : putG ks js = vg (putF ks js) := by
  funext k
  unfold putG vg putF
  cases (ks.zip js).lookup k <;> rfl
theorem look_mem {k j : Int} : ∀ {zs : List (Int × Int)}, zs.lookup k = some j → (k, j) ∈ zs
  | [], h => by cases h
  | (a, b) :: zs, h => by
    rw [List.lookup_cons] at h
    by_cases e : k = a
    · subst e
      rw [beq_self_eq_true] at h
      cases h
      exact List.mem_cons_self
    · rw [beq_eq_false_iff_ne.mpr e] at h
      exact List.mem_cons_of_mem _ (look_mem h)
theorem vars_nat : ∀ {t : Tm}, Ok t → ∀ k ∈ varsOf t, 0 ≤ k := fun {t} h k hk => by
  have hk := mem_varsOf hk
  unfold vSeq at hk
  obtain ⟨u, hu, e⟩ := List.mem_flatMap.mp hk
  have ou : Ok u := by
    obtain ⟨i, hi⟩ := List.mem_iff_getElem?.mp hu
    exact oks_get (ok_pre h) hi
  cases u with
  | var j =>
    have : k = j := by simpa [vOne] using e
    subst this
    unfold Ok at ou
    exact ou
  | int _ => simp [vOne] at e
  | atom _ => simp [vOne] at e
  | comp _ _ => simp [vOne] at e
theorem ok_rnm {f w t : Tm} (hf : Ok f) (ht : Ok t) : Ok (sub (rnm f w) t) := by
  rw [rnm_put, putG_vg]
  refine ok_renum' (fun k hk => ?_) t ht
  unfold putF
  cases e : ((varsOf w).zip (varsOf f)).lookup k with
  | none => exact hk
  | some j => exact vars_nat hf j (List.of_mem_zip (look_mem e)).2
theorem size_rnm (f w t : Tm) : size (sub (rnm f w) t) = size t := by
  rw [rnm_put, putG_vg, size_vg]
theorem nrT_len (kn : Int → Option Nat) (R : List PRow) (t : Tm) : (nrT kn R t).1.length ≤ R.length + size t := by
  have h := (fold_lenP kn (pre t) (R, [])).1
  rw [fold_pre, len_pre] at h
  exact h
end Hm

set_option Elab.async false
set_option linter.all false
/-! list(d.values()) -/
namespace Hm
open PySem PySem.Spec PyProof.Rows L2
theorem kv_snd : ∀ {kvs : List (Key × V)} {vs : List (Key × Value)}, KV kvs vs → Vals (kvs.map Prod.snd) (vs.map (·.2))
  | _, _, .nil => .nil
  | _, _, .cons h r => .cons h.2 (kv_snd r)
def tListVals (te : TE) : TE := fun σ H Q => te σ H fun x H1 => ∃ d kvs, x = .ref d ∧ H1 d = some (.dK kvs) ∧ ∀ p, H1 p = none → Q (.ref p) (upd H1 p (.lst (kvs.map Prod.snd)))
variable {X : Cx} {e : Expr} {te : TE} {p apos cpos pos : Pos}
theorem pe_listVals (hc : X.calm = true) (he : PE X e te) (hg : Gl X "list") (hm : X.mg "list" = none) (hv : bootBuiltins "list" = some (.type "list")) (hbase : attributeBase e "values" X.env (eval e X.env) = eval e X.env := by rfl) (hline : (apos.endLine == cpos.line) = true := by rfl)
    (hs : starEach [.Call (.Attribute e "values" apos) [] [] cpos] X.env = (false, eval (.Call (.Attribute e "values" apos) [] [] cpos) X.env) :: starEach [] X.env := by rfl) :
    PE X (.Call (.Name "list" p) [.Call (.Attribute e "values" apos) [] [] cpos] [] pos) (tListVals te) := by
  constructor
  intro pins s σ H Q I hq
  apply wpAny_Call_Name_kw
  apply ld_blt I hg hm hv
  refine PyProof.Rows.callWith_type1 ?_ hs rfl
  rw [hs]
  show wpAny _ _ (spliced ((false, eval (.Call (.Attribute e "values" apos) [] [] cpos) X.env) :: backTo pos (starEach [] X.env))) _ _ s
  apply Calls.spliced_cons
  refine wpAny_Call_method (T := "dict") (id := "dict.values") hbase rfl hline F.plainAttrs_dict F.slot_dict_values F.type_dict_values (thn (he.run pins s σ H _ I hq) fun u s1 ⟨x, H1, I1, rx, d, kvs, ex, hd, q⟩ => ?_)
  subst ex
  have eu : u = Value.ref d := rx
  subst eu
  obtain ⟨hz, hs0, vs, kv, hdo⟩ := I1.hok d _ hd
  obtain ⟨ep, hat⟩ := hdo.dictAt
  have lk : kvs.length = vs.length := Paired.length kv
  have I2 : Inv X pins σ H1 { s1 with heap := s1.heap.push { cls := .type "dict_values", data := .fields #[.ref d] } } := I1.kept (t' := s1.toks) fun b ob g => Heap.get?_push_of_some _ g
  refine ⟨hdo.typeIs, hdo.mapOf.noDict, ?_⟩
  show wpAny _ _ (callWith cpos (.builtin "dict.values") [.ref d] [] []) _ X.xe s1
  refine method_meetsIn F.slot_dict_values F.entry_dict_values rfl (PySem.evalArgs_none ⟨rfl, hdo.typeIs, F.args_dict_values_1 _, _, meets_dict_values (mixKind X.prog X.w) d hs0, ⟨vs, hdo⟩, ?_⟩)
  apply Calls.spliced_nil
  refine PySem.W.kdl_call (PySem.W.kdl_values (knd := mixKind X.prog X.w) (kvs := vs) (ep := ep) (d := d)) (I1.ok.hd hc) ⟨⟨_, Heap.get?_push_size _ rfl, rfl, rfl⟩, hat.push _⟩ (by rw [← lk]; exact hz) fun h' tk acc c' hk hD hacc => ?_
  have ea : acc.toList = vs.map (·.2) := PySem.W.kdl_vals_eq acc.toList (by rw [Array.length_toList]; exact hacc.1) fun j v g => hacc.2 j v (by rw [← Array.getElem?_toList]; exact g)
  refine ⟨.ref _, upd H1 _ (.lst (kvs.map Prod.snd)), I2.laid (t' := tk) hk (Nat.le_refl _) (show ObjOk X.prog X.w _ _ _ (.lst (kvs.map Prod.snd)) from ⟨by rw [List.length_map]; exact hz, acc.toList, c', by rw [ea]; exact kv_snd kv, by rw [Array.toArray_toList]; exact hD⟩), rfl, q _ (I2.hok.fresh (Nat.le_refl _))⟩
end Hm

set_option Elab.async false
set_option linter.all false
set_option maxRecDepth 100000
set_option maxHeartbeats 2000000
/-! dict(zip(a, b)) of two lists, the first of keys -/
namespace Hm
open PySem PySem.Spec PySem.W PyProof.Rows L2
def tDictZip (K : PySem.W.Frag) (ta : TA) : TE := fun σ H Q => ta σ H fun vs H1 => ∃ (a b : Addr) (ks : List Key) (ys : List V), vs = [.ref a, .ref b] ∧ SqL K H1 a (ks.map kV) ∧ SqL K H1 b ys ∧ ks.length = ys.length ∧ ks.length ≤ 1000 ∧
  ∀ p : Addr, H1 p = none → Q (.ref p) (upd H1 p (.dK (mergeK [] (ks.zip ys))))
theorem kv_zip {P : Program} {w : World} : ∀ {ks : List Key} {ys : List V} {us vs : List Value}, Vals (ks.map kV) us → Vals ys vs → ks.length = ys.length → ∃ prs : List (Key × Value), KV (ks.zip ys) prs ∧ prs.length = us.length ∧ ∀ (i : Nat) (key v : Value), us[i]? = some key → vs[i]? = some v → ∃ k, prs[i]? = some (k, v) ∧ (mixKind P w).is k key = true
  | [], [], us, vs, h1, h2, _ => by
    cases h1
    exact ⟨[], .nil, rfl, fun i key v e => by simp at e⟩
  | k :: ks, y :: ys, us, vs, h1, h2, hl => by
    rw [List.map_cons] at h1
    cases h1 with
    | @cons _ u _ us rk h1 =>
      cases h2 with
      | @cons _ v _ vs ry h2 =>
        obtain ⟨prs, a, b, c⟩ := kv_zip (P := P) (w := w) h1 h2 (by simpa using hl)
        refine ⟨(k, v) :: prs, .cons ⟨rfl, ry⟩ a, by rw [List.length_cons, List.length_cons, b], fun i key v' e1 e2 => ?_⟩
        cases i with
        | zero =>
          cases e1
          cases e2
          exact ⟨k, rfl, kV_is (P := P) (w := w) rk⟩
        | succ i => exact c i key v' (by simpa using e1) (by simpa using e2)
section
variable {X : Cx} {e e2 : Expr} {ta : TA} {p p2 zpos pos : Pos}
theorem pe_dictZip (hc : X.calm = true) (hg : Gl X "dict") (hm : X.mg "dict" = none) (hgz : Gl X "zip") (hmz : X.mg "zip" = none) (ha : PA X [e, e2] ta)
    (hs : starEach [.Call (.Name "zip" p2) [e, e2] [] zpos] X.env = (false, eval (.Call (.Name "zip" p2) [e, e2] [] zpos) X.env) :: starEach [] X.env := by rfl)
    (hsz : starEach [e, e2] X.env = (false, eval e X.env) :: starEach [e2] X.env := by rfl) (hpl : (backTo zpos (starEach [e2] X.env)).any (·.1) = false := by rfl) :
    PE X (.Call (.Name "dict" p) [.Call (.Name "zip" p2) [e, e2] [] zpos] [] pos) (tDictZip X.K ta) := by
  constructor
  intro pins s σ H Q I h
  refine wpAny_Call_Name_kw (ld_blt I hg hm (by rfl : bootBuiltins "dict" = some (.type "dict")) ?_)
  refine PyProof.Rows.callWith_type1 ?_ hs rfl
  rw [hs]
  apply Calls.spliced_cons
  refine wpAny_Call_Name_kw (ld_blt I hgz hmz PyProof.Rows.boot_zip (PyProof.Rows.callWith_type1 (thn (ha.run zpos pins s σ H _ I h) fun us s1 ⟨vs, H1, I1, r1, q1⟩ => ?_) hsz hpl))
  obtain ⟨a, b, ks, ys, rfl, hx, hy, hl, hz, q⟩ := q1
  obtain ⟨u1, u2, rfl, r2, r3⟩ := vals2 r1
  cases r2
  cases r3
  obtain ⟨its, rv, pa, _⟩ := I1.list hx
  obtain ⟨its2, rv2, pb, _⟩ := I1.list hy
  obtain ⟨o1, ho1, _⟩ := id pa.isList
  obtain ⟨o2, ho2, _⟩ := id pb.isList
  have la := Heap.lt_size ho1
  have lb := Heap.lt_size ho2
  obtain ⟨prs, kv, hpl2, hpr⟩ := kv_zip (P := X.prog) (w := X.w) rv rv2 hl
  have l1 := rv.length
  have l2 := rv2.length
  rw [List.length_map] at l1
  refine call_zip_2 pa.isList pb.isList fun h' hz1 hTI hTO h1 h2 hsize hk => Calls.spliced_nil ?_
  have I2 : Inv X pins σ H1 { s1 with heap := h' } := I1.kept (t' := s1.toks) hk
  have pa' : h'.IsList a its.toArray := pa.isList.at fun o g => hk _ o g
  have pb' : h'.IsList b its2.toArray := pb.isList.at fun o g => hk _ o g
  have D := PySem.W.ktu_apart s1.heap.objs.size a b la lb
  refine PySem.call_dict_pairs (knd := mixKind X.prog X.w) (kvs := prs) (s := { s1 with heap := h' }) (PairArg.zip _ _ _ _ _ a b D its.toArray its2.toArray) (I1.ok.hd hc) ⟨hz1, hTI, ⟨_, _, hTO⟩, h1, h2, pa', pb'⟩ ⟨?_, fun i key v hr => ?_⟩ ?_ fun h2' tk hd kp => ?_
  · rw [List.size_toArray, List.size_toArray]
    omega
  · exact hpr i key v (by simpa using hr.1) (by simpa using hr.2)
  · rw [List.size_toArray, List.size_toArray]
    exact Nat.le_trans (by omega) (show 1000 ≤ sizeLine by decide)
  · have kp2 : ∀ b o, s1.heap.get? b = some o → h2'.get? b = some o := fun b o g => by
      have lo := Heap.lt_size g
      refine kp b o (fun m => ?_) (hk b o g)
      simp only [List.mem_cons, List.not_mem_nil, or_false] at m
      rcases m with z | z | z | z <;> (rw [z] at lo; first | exact absurd lo (Nat.lt_irrefl _) | exact absurd lo (Nat.not_lt.mpr (Nat.le_add_right _ _)))
    have hL0 : s1.heap.objs.size ≤ h'.objs.size := by
      rw [hsize]
      exact Nat.le_add_right _ _
    have hm2 : (h'.objs.size == sysModules) = false := beq_eq_false_iff_ne.mpr (Nat.ne_of_gt (Nat.lt_of_lt_of_le I1.big hL0))
    have hlen : (mergeK [] (ks.zip ys)).length ≤ sizeLine := by
      refine Nat.le_trans (length_mergeK _ []) ?_
      rw [List.length_nil, Nat.zero_add, List.length_zip]
      exact Nat.le_trans (by omega) (show 1000 ≤ sizeLine by decide)
    exact ⟨.ref h'.objs.size, upd H1 h'.objs.size (.dK (mergeK [] (ks.zip ys))), I1.laid (t' := tk) kp2 hL0 (show ObjOk X.prog X.w _ _ _ (.dK (mergeK [] (ks.zip ys))) from ⟨hlen, hm2, merged [] prs, KV.merge kv .nil, hd⟩), rfl, q _ (I1.hok.fresh hL0)⟩
end
end Hm

set_option Elab.async false
set_option linter.all false
set_option maxRecDepth 100000
set_option maxHeartbeats 4000000
namespace Hm
open PySem PySem.Spec PyProof.Rows L2 HT
open Evl (Ex)
section
variable {P : Program} {w : World} {K : PySem.W.Frag} {mg : Str → Option Value} {base : Heap}
/-- a pair of terms -/
def P2At (K : PySem.W.Frag) (H : Hp) (p : Tm × Tm) (v : V) : Prop := ∃ a x y, v = .ref a ∧ SqT K H a [x, y] ∧ Rep K H p.1 x ∧ Rep K H p.2 y
/-- a group: its witness and the list of its solutions -/
def GrAt (K : PySem.W.Frag) (H0 : Hp) (p : Addr) (H : Hp) (g : Tm × List Tm) (v : V) : Prop := ∃ a x l ys, v = .ref a ∧ SqT K H a [x, .ref l] ∧ Rep K H g.1 x ∧ H l = some (.lst ys) ∧ Reps K H g.2 ys ∧ H0 l = none ∧ l ≠ p
/-- what the pairs come to: those in the order of their witnesses -/
def gsOf (ps : List (Tm × Tm)) : List (Tm × List Tm) := ps.foldl addG []
/-- by their witnesses, equal ones as they stood -/
def sortW (ps : List (Tm × Tm)) : List (Tm × Tm) := sortA (fun p q => decide (tord p.1 q.1 < 0)) ps
def sortT (ts : List Tm) : List Tm := sortA (fun p q => decide (tord p q < 0)) ts
theorem ltT_swo : SrtO.Swo (fun x y : Tm => decide (tord x y < 0)) := by
  refine ⟨fun x y h => ?_, fun x y z h1 h2 => ?_⟩
  · have := of_decide_eq_true h
    have a := tord_ok.anti x y
    exact decide_eq_false (by omega)
  · have h1 := of_decide_eq_false h1
    have h2 := of_decide_eq_false h2
    have a1 := tord_ok.anti x y
    have a2 := tord_ok.anti y z
    have a3 := tord_ok.anti x z
    have t := tord_ok.tr _ _ _ (show tord x y ≤ 0 by omega) (show tord y z ≤ 0 by omega)
    exact decide_eq_false (by omega)
theorem sortT_is {us ts : List Tm} (h : us.Perm ts) (r : Rising us) : us = sortT ts := by
  refine rising_uniq r ?_ (h.trans (sortA_stb ltT_swo ts).perm.symm)
  have s := sortA_srtd ltT_swo ts
  unfold Rising
  refine s.imp fun {a b} h => ?_
  have h := of_decide_eq_false h
  have a1 := tord_ok.anti a b
  omega
/-- the sorted pairs -/
theorem zs_is {H : Hp} {xs : List V} {ps : List (Tm × Tm)} (hP : PySem.Paired (fun x p => P2At K H p x) xs ps) {Zs : List (Tm × V)} (h1 : SrtO.Srtd ltP Zs) (h2 : SrtO.Stb ltP Zs ((ps.map Prod.fst).zip xs)) : PySem.Paired (fun x p => P2At K H p x) (Zs.map (·.2)) (sortW ps) := by
  have hl := hP.length
  have e1 : (ps.map Prod.fst).zip xs = (ps.zip xs).map fun q => (q.1.1, q.2) := by
    rw [List.zip_map_left]
    exact List.map_congr_left fun q _ => rfl
  rw [e1] at h2
  have e2 := sortA_map ltP_swo (fun q : (Tm × Tm) × V => (q.1.1, q.2)) (ps.zip xs) h1 h2
  have O3 : SrtO.Swo (fun p q : Tm × Tm => decide (tord p.1 q.1 < 0)) := ⟨fun a b => ltT_swo.asym _ _, fun a b c => ltT_swo.tr _ _ _⟩
  have e3 := sortA_map O3 (fun q : (Tm × Tm) × V => q.1) (ps.zip xs) (sortA_srtd O3 ((ps.zip xs).map fun q => q.1)) (sortA_stb O3 ((ps.zip xs).map fun q => q.1))
  have e4 : (ps.zip xs).map (fun q => q.1) = ps := by
    rw [List.map_fst_zip]
    omega
  rw [e4] at e3
  have pm := (sortA_stb (lt := fun x y : (Tm × Tm) × V => ltP (x.1.1, x.2) (y.1.1, y.2)) ⟨fun a b => ltP_swo.asym _ _, fun a b c => ltP_swo.tr _ _ _⟩ (ps.zip xs)).perm
  unfold sortW
  rw [e2, e3]
  have all : ∀ q ∈ ps.zip xs, P2At K H q.1 q.2 := fun q hq => by
    obtain ⟨j, hj⟩ := List.mem_iff_getElem?.mp hq
    obtain ⟨k1, k2⟩ := List.getElem?_zip_eq_some.mp hj
    obtain ⟨p', hp, hr⟩ := pairG_get hP k2
    rw [k1] at hp
    cases hp
    exact hr
  rw [List.map_map]
  have go : ∀ W : List ((Tm × Tm) × V), (∀ q ∈ W, P2At K H q.1 q.2) → PySem.Paired (fun x p => P2At K H p x) (W.map ((fun x : Tm × V => x.2) ∘ fun q => (q.1.1, q.2))) (W.map fun q => q.1) := fun W => by
    induction W with
    | nil => exact fun _ => .nil
    | cons q W ih => exact fun h => .cons (h q (List.mem_cons_self ..)) (ih fun q' hq => h q' (List.mem_cons_of_mem _ hq))
  exact go _ fun q hq => all q (pm.mem_iff.mp hq)
def spGrouped (P : Program) (w : World) (K : PySem.W.Frag) (C : Addr) : Sp := fun vs H Q E => ∃ wv v, vs = [wv, v] ∧
  ((∃ d, OdAt K H wv d ∧ (∀ z, d = .str z → z ≠ Str.ofString "bagof" ∧ z ≠ Str.ofString "setof") ∧ RG.Comes C "pairs" wv H E) ∨
   (∃ z, wv = .str z ∧ (z = Str.ofString "bagof" ∨ z = Str.ofString "setof") ∧ ((∃ d, OdAt K H v d ∧ tyN d ≠ "list" ∧ tyN d ≠ "tuple" ∧ RG.Comes C "pairs" v H E) ∨
    (∃ a xs ds, v = .ref a ∧ (H a = some (.lst xs) ∨ SqT K H a xs) ∧ OdAll K H xs ds ∧ (∀ d ∈ ds, sizeD d ≤ 60000) ∧ xs.length ≤ 1000 ∧ ds.all pairD = false ∧ RG.Comes C "pairs" v H E) ∨
    (∃ a xs ps, v = .ref a ∧ (H a = some (.lst xs) ∨ SqT K H a xs) ∧ PySem.Paired (fun x p => P2At K H p x) xs ps ∧ (∀ p ∈ ps, Ok p.1 ∧ Ok p.2 ∧ size p.1 ≤ 300 ∧ size p.2 ≤ 300) ∧ xs.length ≤ 30 ∧
     ∀ p gv H', H p = none → Ex H H' → H' p = some (.lst gv) → PySem.Paired (fun x g => GrAt K H p H' g x) gv (if z = Str.ofString "bagof" then gsOf (sortW ps) else (gsOf (sortW ps)).map fun g => (g.1, onceT none (sortT g.2))) → Q (.ref p) H'))))
def odP (p : Tm × Tm) : Od := .tup [odT p.1, odT p.2]
theorem od_pairs {H : Hp} : ∀ {xs : List V} {ps : List (Tm × Tm)}, PySem.Paired (fun x p => P2At K H p x) xs ps → OdAll K H xs (ps.map odP)
  | _, _, .nil => .nil
  | _, _, .cons ⟨a, x, y, e, h, r1, r2⟩ t => by
    subst e
    exact .cons (.tup h (.cons (od_rep r1) (.cons (od_rep r2) .nil))) (od_pairs t)
theorem p2_w {H : Hp} : ∀ {xs : List V} {ps : List (Tm × Tm)}, PySem.Paired (fun x p => P2At K H p x) xs ps → PySem.Paired (fun v t => WAt K H t v) xs (ps.map Prod.fst)
  | _, _, .nil => .nil
  | _, _, .cons ⟨a, x, y, e, h, r1, r2⟩ t => .cons ⟨a, x, y, e, h, r1⟩ (p2_w t)
theorem p2_mono {H H' : Hp} {xs : List V} {ps : List (Tm × Tm)} (e : Tups K H H') (h : PySem.Paired (fun x p => P2At K H p x) xs ps) : PySem.Paired (fun x p => P2At K H' p x) xs ps := Paired.mapP h fun _ _ ⟨a, x, y, e1, h1, r1, r2⟩ => ⟨a, x, y, e1, e _ _ h1, r1.mono e, r2.mono e⟩
theorem in_words {z a b : Str} : inV (.str z) [.str a, .str b] = (decide (z = a) || decide (z = b)) := by
  have h : ∀ x : Str, (x == z) = decide (z = x) := fun x => by
    by_cases e : z = x
    · subst e
      rw [decide_eq_true rfl]
      exact beq_self_eq_true z
    · rw [decide_eq_false e]
      exact beq_eq_false_iff_ne.mpr fun q => e q.symm
  show ((a == z) || ((b == z) || false)) = _
  rw [h, h, Bool.or_false]
theorem wat_mono : ∀ (H H' : Hp) (t : Tm) (v : V), Ex H H' → WAt K H t v → WAt K H' t v := fun H H' t v e ⟨a, x, y, h1, h2, h3⟩ => ⟨a, x, y, h1, Evl.ex_t e h2, h3.mono (Tups.of e)⟩
theorem both {A1 : V → Prop} {A2 : Prop} {Q M : V → Hp → Prop} {H3 H4 : Hp} {z : V} (k : ∀ v H', M v H' → Q v H') (h1 : ∀ v, A1 v → M v H3) (h2 : A2 → M z H4) : (∀ v, A1 v → Q v H3) ∧ (A2 → Q z H4) := ⟨fun v a => k _ _ (h1 v a), fun a => k _ _ (h2 a)⟩
theorem gr_all {H0 H : Hp} {p : Addr} : ∀ {Gs : List GE}, (∀ g ∈ Gs, GrAt K H0 p H g.gr (.ref g.a)) → PySem.Paired (fun x g => GrAt K H0 p H g x) ((Gs.map GE.kv).map Prod.snd) (Gs.map GE.gr)
  | [], _ => .nil
  | g :: Gs, h => .cons (h g List.mem_cons_self) (gr_all fun q hq => h q (List.mem_cons_of_mem _ hq))
theorem GrAt.mv {H0 H H' : Hp} {p : Addr} {g : Tm × List Tm} {v : V} (h : GrAt K H0 p H g v) (t : Tups K H H') (k : ∀ l ys, l ≠ p → H0 l = none → H l = some (.lst ys) → H' l = some (.lst ys)) : GrAt K H0 p H' g v := by
  obtain ⟨a, x, l, ys, e, h1, h2, h3, h4, h5, h6⟩ := h
  exact ⟨a, x, l, ys, e, t _ _ h1, h2.mono t, k _ _ h6 h5 h3, h4.mono t, h5, h6⟩
theorem tups_frz {H : Hp} {d : Addr} {ob : Obj} {kvs : List (Key × V)} {o : HO} (h : H d = some (.frz ob (.dK kvs))) : Tups K H (upd H d o) := fun a ys q => by
  rcases q with (q | ⟨o', q⟩) | q
  · exact .inl (.inl (by rw [upd_ne (ne_of q h (by intro z; cases z))]; exact q))
  · exact .inl (.inr ⟨o', by rw [upd_ne (fun z => by subst z; rw [h] at q; cases q)]; exact q⟩)
  · exact .inr q
theorem nodup_map_inj {α β : Type} {f : α → β} (hf : ∀ a b, f a = f b → a = b) : ∀ {l : List α}, l.Nodup → (l.map f).Nodup
  | [], _ => List.nodup_nil
  | a :: l, h => by
    rw [List.nodup_cons] at h
    rw [List.map_cons, List.nodup_cons]
    refine ⟨fun m => ?_, nodup_map_inj hf h.2⟩
    obtain ⟨b, hb, e⟩ := List.mem_map.mp m
    exact h.1 (hf _ _ e ▸ hb)
theorem ok_grouped (T : Tx K mg) : FnOk P w K mg base (L2.CX P w) 10 T.f_grouped T.d_grouped ["word", "pairs"] (spGrouped P w K T.a_Bap) := by
  refine T.h_grouped.F.okX sc_grouped (fun vs H Q E h => ?_) (fun cdv A outer s H vs Q E hr h => ?_)
  · obtain ⟨v, _, rfl, _⟩ := h
    rfl
  obtain ⟨wv, v, rfl, h⟩ := h
  have hu1 := hu_of hr
  have hu := hu1
  refine ⟨_, (pss_cons (ps_if (PW.pt (pw_or (pt_not (pt_val (pe_callB call_isi rfl T.b_isinstance (by decide +kernel) (pa_cons (pv 0) (pa_cons (pe_bltn (v := .ty "str") (u := .type "str") rfl T.b_str (by decide +kernel) rfl) pa_nil))))) (pw_or1 (pt_cmpR op_notIn_seq (pv 0) (pe_glob (v := .ref T.a_Wds) rfl T.m_Wds rfl) (by rfl)))))
      (pss_one (ps_raise rfl (takes_of rfl rfl rfl rfl) (pmk_oex T.e_Bap.oex T.e_Bap.iC T.e_Bap.tI (ok_bap_init T) (hr.mono (by decide)) T.b_Bap .nil pass0 rfl T.e_Bap.at_ (pa_cons (pv 0) pa_nil))))
      pss_nil)
    (pss_cons (ps_expr (pe_callS (ok_demand_pairs T) (hr.mono (by decide)) rfl T.h_demand_pairs.m T.h_demand_pairs.F.kp T.h_demand_pairs.b (fun σ => passAt (takes_of rfl rfl rfl rfl) σ) (pa_cons (pv 1) pa_nil)))
    (PSs.nox (pss_cons (ps_set (i := 2) sc_grouped.nd rfl (Or.inl rfl) pe_dnewK)
    (pss_cons (ps_set (i := 3) sc_grouped.nd rfl (Or.inl rfl) (pe_make0 T.mkS (ok_St_init T) (hr.mono (by first | decide | omega)) rfl T.mgC T.b_St_init .nil pass0))
    (pss_cons (ps_for PassesOwn.never rfl (pi_list (pe_callBK (cr_srtG wat_mono (ok_witness_key T) T.h_witness_key.b (hr.mono (by omega))) rfl T.b_sorted (by decide +kernel) (pa_cons (pv 1) pa_nil) (pk_cons (pe_glob (v := .ref T.f_witness_key) rfl T.h_witness_key.m rfl) pk_nil))) (pg_tup rfl (pgs_cons (pg_name (i := 4) sc_grouped.nd rfl (Or.inl rfl)) (pgs_cons (pg_name (i := 5) sc_grouped.nd rfl (Or.inl rfl)) pgs_nil)))
      (pss_cons (ps_set (i := 6) sc_grouped.nd rfl (Or.inl rfl) (pe_meth (pv 3) T.cl T.h_St_number.m (ok_St_number T) (hr.mono (by first | decide | omega)) T.h_St_number.b .nil pass0 (pa_cons (cl (ok_renumbered T) T.h_renumbered hr (pa_cons (pv 4) pa_nil)) (pa_cons pe_dnewK pa_nil))))
    (pss_cons (ps_asg (pe_dsetd (pv 2) (pv 6) (pe_tup (pa_cons (pv 4) (pa_cons (pe_lst pa_nil) pa_nil))) ⟨rfl, rfl, rfl, rfl⟩) (pg_tup rfl (pgs_cons (pg_name (i := 7) sc_grouped.nd rfl (Or.inl rfl)) (pgs_cons (pg_name (i := 8) sc_grouped.nd rfl (Or.inl rfl)) pgs_nil))))
    (pss_cons (ps_setLc (i := 9) (own := [("k", 10)]) (g := gName 10) rfl sc_grouped.nd rfl rfl (sw_true rfl rfl rfl (by decide +kernel)) (pi_list (cl (ok_numbers_in T) T.h_numbers_in hr (pa_cons (pv 7) pa_nil))) (blkOk_by (own := [("k", 10)]) (N := ["word", "pairs", "groups", "parts", "witness", "solution", "form", "first", "solutions", "names", "k"]) (sc := defScope s_grouped) (by decide +kernel)) (fun _ _ _ _ _ => pg_name (i := 10) sc_grouped.nd rfl (Or.inl rfl)) (fun _ _ _ _ _ => pts_nil) (fun _ _ _ _ _ => (pe_tup (pa_cons (pv 10) pa_nil))))
    (pss_one (ps_expr (pe_bm PySem.F.plainAttrs_list PySem.F.slot_list_append PySem.F.type_list_append mt_append (pv 8) (pa_cons (cl (ok_replaced T) T.h_replaced hr (pa_cons (pv 5) (pa_cons (pe_dictZip rfl rfl T.b_dict rfl T.b_zip (pa_cons (cl (ok_numbers_in T) T.h_numbers_in hr (pa_cons (pv 4) pa_nil)) (pa_cons (pv 9) pa_nil))) pa_nil))) pa_nil))))))))
    (pss_cons (ps_if (pt_cmpR op_eq (pv 0) pe_str (nomark _))
      (pss_one (ps_ret (pe_listVals rfl (pv 2) rfl T.b_list (by decide +kernel))))
      pss_nil)
    (pss_one (ps_ret (pe_lock (pe_lc (own := [("witness", 4), ("solutions", 8)]) (g := gTup K 2 (gCons (gName 4) (gCons (gName 8) gNil))) rfl sc_grouped.nd (pi_values (pv 2)) (blkOk_by (own := [("witness", 4), ("solutions", 8)]) (N := ["word", "pairs", "groups", "parts", "witness", "solution", "form", "first", "solutions", "names", "k"]) (sc := defScope s_grouped) (by decide +kernel)) (fun _ _ _ _ _ => pg_tup rfl (pgs_cons (pg_name (i := 4) sc_grouped.nd rfl (Or.inl rfl)) (pgs_cons (pg_name (i := 8) sc_grouped.nd rfl (Or.inl rfl)) pgs_nil))) (fun _ _ _ _ _ => pts_nil) (fun _ _ _ _ _ => (pe_tup (pa_cons (pv 4) (pa_cons (cl (ok_sorted_once T) T.h_sorted_once hr (pa_cons (pv 8) pa_nil)) pa_nil))))))))))))))), ?_⟩
  rcases h with ⟨d, hd, hne, e⟩ | ⟨z, rfl, hz, h⟩
  · have ty := ty_od hd
    cases hd with
    | str z =>
      obtain ⟨n1, n2⟩ := hne z rfl
      refine ⟨_, rfl, _, _, _, _, true, rfl, .ty "str", ty, kit_ty (a := "str") (by decide +kernel), true, rfl, iteF ?_⟩
      refine ⟨_, rfl, T.a_Wds, _, rfl, .inr (T.r_Wds H), rfl, rfl, true, ?_, iteT ⟨_, rfl, RG.made_err fun dd H2 h1 e2 h2 => e dd H2 h1 e2 h2⟩⟩
      show V.bl (!inV (.str z) [.str (Str.ofString "bagof"), .str (Str.ofString "setof")]) = V.bl true
      rw [in_words, decide_eq_false n1, decide_eq_false n2]
      rfl
    | int i => exact ⟨_, rfl, _, _, _, _, false, rfl, .ty "str", ty, kit_ty (a := "int") (by decide +kernel), false, rfl, iteT ⟨_, rfl, RG.made_err fun dd H2 h1 e2 h2 => e dd H2 h1 e2 h2⟩⟩
    | bl i => exact ⟨_, rfl, _, _, _, _, false, rfl, .ty "str", ty, kit_ty (a := "bool") (by decide +kernel), false, rfl, iteT ⟨_, rfl, RG.made_err fun dd H2 h1 e2 h2 => e dd H2 h1 e2 h2⟩⟩
    | non => exact ⟨_, rfl, _, _, _, _, false, rfl, .ty "str", ty, kit_ty (a := "NoneType") (by decide +kernel), false, rfl, iteT ⟨_, rfl, RG.made_err fun dd H2 h1 e2 h2 => e dd H2 h1 e2 h2⟩⟩
    | lst h => exact ⟨_, rfl, _, _, _, _, false, rfl, .ty "str", ty, kit_ty (a := "list") (by decide +kernel), false, rfl, iteT ⟨_, rfl, RG.made_err fun dd H2 h1 e2 h2 => e dd H2 h1 e2 h2⟩⟩
    | dic h => exact ⟨_, rfl, _, _, _, _, false, rfl, .ty "str", ty, kit_ty (a := "dict") (by decide +kernel), false, rfl, iteT ⟨_, rfl, RG.made_err fun dd H2 h1 e2 h2 => e dd H2 h1 e2 h2⟩⟩
    | tup h r => exact ⟨_, rfl, _, _, _, _, false, rfl, .ty "str", ty, kit_ty (a := "tuple") (by decide +kernel), false, rfl, iteT ⟨_, rfl, RG.made_err fun dd H2 h1 e2 h2 => e dd H2 h1 e2 h2⟩⟩
  · refine ⟨_, rfl, _, _, _, _, true, rfl, .ty "str", .base (.str z), kit_ty (a := "str") (by decide +kernel), true, rfl, iteF ?_⟩
    refine ⟨_, rfl, T.a_Wds, _, rfl, .inr (T.r_Wds H), rfl, rfl, false, ?_, iteF ?_⟩
    · show V.bl (!inV (.str z) [.str (Str.ofString "bagof"), .str (Str.ofString "setof")]) = V.bl false
      rw [in_words]
      rcases hz with e1 | e1
      · rw [decide_eq_true e1]
        rfl
      · rw [decide_eq_true e1, Bool.or_true]
        rfl
    refine ⟨_, rfl, v, rfl, ?_⟩
    rcases h with ⟨d, hd, n1, n2, e⟩ | ⟨a, xs, ds, rfl, hS, hA, hz2, hx, hf, e⟩ | ⟨a, xs, ps, rfl, hS, hP, hok, hx, q⟩
    · exact .inr ⟨d, hd, n1, n2, e⟩
    · exact .inl ⟨a, xs, ds, rfl, hS, hA, hz2, hx, fun t => (by rw [hf] at t; cases t), fun _ => e⟩
    refine .inl ⟨a, xs, ps.map odP, rfl, hS, od_pairs hP, fun d hd => ?_, by omega, fun _ u H1 e1 => ?_, fun hf => ?_⟩
    · obtain ⟨p, hp, rfl⟩ := List.mem_map.mp hd
      obtain ⟨o1, o2, s1, s2⟩ := hok p hp
      have z1 := sizeD_tm o1
      have z2 := sizeD_tm o2
      show 1 + (sizeD (odT p.1) + (sizeD (odT p.2) + 0)) ≤ 60000
      omega
    · intro D hD
      have eD := Ex.new (o := HO.dK []) hD
      have hD0 : (upd H1 D (.dK [])) D = some (.dK []) := upd_same
      have fD : H D = none := ex_none e1 hD
      have e01 := e1.trans eD
      generalize upd H1 D (.dK []) = H2 at *
      intro S dx hS0 hdx nS
      refine ⟨S, dx, rfl, upd_same, fun r pl H3 hr0 hpl nrp k3 hP3 => ?_⟩
      refine ⟨rfl, ?_⟩
      have e3 : Ex H2 H3 := fun b o hb => k3 b o (ne_of_none hb hS0) (by rw [upd_ne (ne_of_none hb hS0), upd_ne (ne_of_none hb hdx)]; exact hb)
      have e03 : Ex H H3 := e01.trans e3
      have hl := hP.length
      refine ⟨_, rfl, a, xs, ps.map Prod.fst, rfl, rfl, hS.elim (fun h => .inl (SqL.of (e03 _ _ h))) (fun h => .inr (Evl.ex_t e03 h)), p2_w (p2_mono (Tups.of e03) hP), oks_all.mpr fun t ht => ?_, fun t ht => ?_, by omega, fun p2 Zs H4 hp2 e4 hL4 stb srt => ?_⟩
      · obtain ⟨p, hp, rfl⟩ := List.mem_map.mp ht
        exact (hok p hp).1
      · obtain ⟨p, hp, rfl⟩ := List.mem_map.mp ht
        have := (hok p hp).2.2.1
        omega
      have hQ := zs_is (p2_mono (Tups.of e03) hP) srt stb
      have pmq := (sortA_stb (lt := fun p q : Tm × Tm => decide (tord p.1 q.1 < 0)) ⟨fun a b => ltT_swo.asym _ _, fun a b c => ltT_swo.tr _ _ _⟩ ps).perm
      have hokq : ∀ p ∈ sortW ps, Ok p.1 ∧ Ok p.2 ∧ size p.1 ≤ 300 ∧ size p.2 ≤ 300 := fun p hp => hok p (pmq.mem_iff.mp hp)
      have lq : (sortW ps).length = ps.length := pmq.length_eq
      generalize sortW ps = qs at *
      generalize Zs.map (·.2) = zs at *
      have nS2 : p2 ≠ S := fun e => by
        obtain ⟨_, hi⟩ := hP3.ins
        rw [e, hi] at hp2
        cases hp2
      have nr2 : p2 ≠ r := fun e => by
        obtain ⟨_, hi, _⟩ := hP3.row
        rw [e, hi] at hp2
        cases hp2
      have npl2 : p2 ≠ pl := fun e => by
        obtain ⟨_, hi, _⟩ := hP3.plc
        rw [e, hi] at hp2
        cases hp2
      have hD3 := e3 _ _ hD0
      have nSD : D ≠ S := ne_of_none hD0 hS0
      have out : ∀ b o, H2 b = some o → b ≠ S ∧ b ≠ r ∧ b ≠ pl := fun b o hb => by
        have hb3 : (upd (upd H2 dx (.own S)) S (.ins T.C dx [])) b = some o := by
          rw [upd_ne (ne_of_none hb hS0), upd_ne (ne_of_none hb hdx)]
          exact hb
        exact ⟨ne_of_none hb hS0, ne_of_none hb3 hr0, ne_of_none hb3 hpl⟩
      have eH4 := e03.trans e4
      obtain ⟨nDS, nDr, nDp⟩ := out D _ hD0
      refine ⟨p2, rfl, ⟨_, SqL.of hL4⟩, for_list (fun i σ' H' => ∃ R Gs x4 x5 x6 x7 x8 x9 x10, σ' = [some (.str z), some (.ref a), some (.ref D), some (.ref S), x4, x5, x6, x7, x8, x9, x10] ∧ Ex H H' ∧ Tups K H4 H' ∧ H' p2 = some (.lst zs) ∧ Pt P w K T.C H' S r pl R ∧ H' D = some (.dK (Gs.map GE.kv)) ∧ R.Nodup ∧ R.length ≤ 300 * i ∧ Gs.length ≤ i ∧ GsAt K H H' [D, p2, S, r, pl] R i Gs ∧ (qs.take i).foldl addG [] = Gs.map GE.gr) ?_ (fun i σ' H' _ ⟨_, _, _, _, _, _, _, _, _, _, _, _, h, _⟩ => SqL.of h) ?_ ?_⟩
      · exact ⟨[], [], _, _, _, _, _, _, _, rfl, eH4, Tups.refl _, hL4, hP3.ex e4, e4 _ _ hD3, List.nodup_nil, Nat.zero_le _, Nat.zero_le _, GsAt.nil, rfl⟩
      · rintro i x σ' H' hx2 ⟨R, Gs, x4, x5, x6, x7, x8, x9, x10, rfl, eH, t4, hL, hPt, hD, hnd, hRl, hkl, hG, hgs⟩
        obtain ⟨q', hq, ⟨pa, wx, sx, rfl, hT, r1, r2⟩⟩ := pairG_get hQ hx2
        obtain ⟨o1, o2, s1, s2⟩ := hokq q' (List.mem_of_getElem? hq)
        have t34 := (Tups.of e4).trans t4
        have hi : i < zs.length := (List.getElem?_eq_some_iff.mp hx2).1
        have hlz := hQ.length
        refine ⟨pa, _, rfl, t34 _ _ hT, rfl, wx, _, rfl, sx, _, rfl, rfl, ?_⟩
        obtain ⟨dxS, hS5⟩ := hPt.ins
        have r1' := r1.mono t34
        have r2' := r2.mono t34
        refine ⟨_, rfl, S, dxS, _, rfl, hS5, rfl, _, rfl, wx, q'.1, rfl, r1', o1, by omega, fun u H5 e5 hu5 => ?_⟩
        intro dn hdn
        have e6 := Ex.new (o := HO.dK []) hdn
        have hn6 : (upd H5 dn (.dK [])) dn = some (.dK []) := upd_same
        generalize upd H5 dn (.dK []) = H6 at *
        refine ⟨S, r, pl, R, u, renum q'.1, dn, fun _ => none, rfl, (hPt.ex e5).ex e6, hu5.mono (Tups.of e6), ok_renum o1, by rw [size_renum]; omega, ?_, ?_, fun H7 k7 hP7 => ?_⟩
        · exact ⟨[], hn6, fun k => rfl⟩
        · rw [size_renum]
          omega
        have e56 := e5.trans e6
        have t67 : Tups K H6 H7 := ((hPt.ex e5).ex e6).tups k7
        have hL7 := k7 _ _ nS2 nr2 npl2 (e56 _ _ hL)
        obtain ⟨px, nd7, kn7⟩ := nrT_ok (kn := fun _ => none) (g := Tm.var) (fun _ _ => rfl) (renum q'.1) hnd (fun k n e => by cases e)
        have ids : sub Tm.var (renum q'.1) = renum q'.1 := sub_id (f := id) (renum q'.1) fun _ _ => rfl
        rw [ids] at kn7
        have rl7 := nrT_len (fun _ => none) R (renum q'.1)
        rw [size_renum] at rl7
        generalize (nrT (fun _ => none) R (renum q'.1)).1 = R7 at *
        generalize (nrT (fun _ => none) R (renum q'.1)).2 = n at *
        have hD7 : H7 D = some (.dK (Gs.map GE.kv)) := k7 _ _ nDS nDr nDp (e56 _ _ hD)
        have hG7 : GsAt K H H7 [D, p2, S, r, pl] R7 i Gs := ((hG.ex e56).mv t67 fun b ys nb hb => k7 _ _ (fun e => nb (by rw [e]; simp)) (fun e => nb (by rw [e]; simp)) (fun e => nb (by rw [e]; simp)) hb).rows px
        have eH7 : Ex H H7 := fun b o hb => by
          obtain ⟨o1, o2, o3⟩ := out b o (e01 b o hb)
          exact k7 _ _ o1 o2 o3 (e56 _ _ (eH _ _ hb))
        have t47 : Tups K H4 H7 := t4.trans ((Tups.of e56).trans t67)
        have r17 := r1.mono ((Tups.of e4).trans t47)
        have r27 := r2.mono ((Tups.of e4).trans t47)
        refine ⟨_, rfl, D, rfl, .inl ⟨_, .of hD7⟩, _, rfl, _, rfl, Nat.zero_le _, fun l hl => ⟨(by show 2 ≤ sizeLine; decide), fun ga hga => ?_⟩⟩
        have nDl : D ≠ l := ne_of_none hD7 hl
        have e8 := Ex.new (o := HO.lst []) hl
        have hl8 : (upd H7 l (.lst [])) l = some (.lst []) := upd_same
        generalize upd H7 l (.lst []) = H8 at *
        have e9 := Ex.new (o := HO.tup [wx, .ref l]) hga
        have hga9 : (upd H8 ga (.tup [wx, .ref l])) ga = some (.tup [wx, .ref l]) := upd_same
        generalize upd H8 ga (.tup [wx, .ref l]) = H9 at *
        have e79 := e8.trans e9
        have hD9 := e79 _ _ hD7
        have hG9 := hG7.ex e79
        have m1 : ∀ v, valV (Gs.map GE.kv) (Sum.inl (n : Int)) = some v → ∃ Gs1 g, g ∈ Gs1 ∧ g.n = n ∧ v = .ref g.a ∧ GsAt K H H9 [D, p2, S, r, pl] R7 i Gs1 ∧ H9 D = some (.dK (Gs1.map GE.kv)) ∧ Gs1.length ≤ i + 1 ∧ (∀ b o, b ≠ D → H7 b = some o → H9 b = some o) ∧ Tups K H7 H9 ∧ ∀ y, addG (Gs.map GE.gr) q' = (Gs1.map (GE.more n y fun f => sub (rnm f q'.1) q'.2)).map GE.gr := by
          intro v hv
          obtain ⟨g, hg, hgn, rfl⟩ := val_ge_some hv
          exact ⟨Gs, g, hg, hgn, rfl, hG9, hD9, by omega, fun b o _ hb => e79 _ _ hb, .of e79, fun y => hG9.hit nd7 kn7 ⟨g, hg, hgn⟩ y⟩
        have m2 : valV (Gs.map GE.kv) (Sum.inl (n : Int)) = none → ∃ Gs1 g, g ∈ Gs1 ∧ g.n = n ∧ V.ref ga = .ref g.a ∧ GsAt K H (upd H9 D (.dK (putK (Gs.map GE.kv) (Sum.inl (n : Int)) (.ref ga)))) [D, p2, S, r, pl] R7 i Gs1 ∧ (upd H9 D (.dK (putK (Gs.map GE.kv) (Sum.inl (n : Int)) (.ref ga)))) D = some (.dK (Gs1.map GE.kv)) ∧ Gs1.length ≤ i + 1 ∧ (∀ b o, b ≠ D → H7 b = some o → (upd H9 D (.dK (putK (Gs.map GE.kv) (Sum.inl (n : Int)) (.ref ga)))) b = some o) ∧ Tups K H7 (upd H9 D (.dK (putK (Gs.map GE.kv) (Sum.inl (n : Int)) (.ref ga)))) ∧ ∀ y, addG (Gs.map GE.gr) q' = (Gs1.map (GE.more n y fun f => sub (rnm f q'.1) q'.2)).map GE.gr := by
          intro hn
          have hne := val_ge_none hn
          have tD : Tups K H9 (upd H9 D (.dK (putK (Gs.map GE.kv) (Sum.inl (n : Int)) (.ref ga)))) := tups_dk hD9
          have hlA : l ∉ [D, p2, S, r, pl] := fun hm => by
            have hX : ∀ b o, H7 b = some o → b ≠ l := fun b o hb => ne_of_none hb hl
            obtain ⟨_, hS7⟩ := hP7.ins
            obtain ⟨_, hr7, _⟩ := hP7.row
            obtain ⟨_, hpl7, _⟩ := hP7.plc
            simp only [List.mem_cons, List.not_mem_nil, or_false] at hm
            rcases hm with e | e | e | e | e
            · exact hX _ _ hD7 e.symm
            · exact hX _ _ hL7 e.symm
            · exact hX _ _ hS7 e.symm
            · exact hX _ _ hr7 e.symm
            · exact hX _ _ hpl7 e.symm
          have hGD : GsAt K H (upd H9 D (.dK (putK (Gs.map GE.kv) (Sum.inl (n : Int)) (.ref ga)))) [D, p2, S, r, pl] R7 i Gs := hG9.mv tD fun b ys nb hb => by
            rw [upd_ne (fun e => nb (by rw [e]; simp))]
            exact hb
          have nDl' : l ≠ D := nDl.symm
          refine ⟨Gs ++ [⟨n, ga, l, wx, [], q'.1, []⟩], ⟨n, ga, l, wx, [], q'.1, []⟩, by simp, rfl, rfl, hGD.add hne kn7 o1 s1 (tD _ _ (SqT.of hga9)) ((r17.mono (.of e79)).mono tD) ?_ (ex_none eH7 hl) hlA ?_, ?_, ?_, fun b o nb hb => ?_, (Tups.of e79).trans tD, fun y => hG9.miss nd7 kn7 hne y ga l wx⟩
          · rw [upd_ne nDl']
            exact e9 _ _ hl8
          · intro g hg e
            have := hG7.ls g hg
            rw [e, hl] at this
            cases this
          · rw [upd_same, putK_new _ hn, List.map_append]
            rfl
          · rw [List.length_append, List.length_singleton]
            omega
          · rw [upd_ne nb]
            exact e79 _ _ hb
        refine ⟨Gs.map GE.kv, Sum.inl (n : Int), hD9, rfl, szl (by rw [List.length_map]; omega), ?_⟩
        refine ⟨fun v hv => ?_, fun hn => ?_⟩
        have m := m1 v hv
        revert m
        generalize H9 = HX
        rotate_left
        have m := m2 hn
        revert m
        generalize upd H9 D (.dK (putK (Gs.map GE.kv) (Sum.inl (n : Int)) (.ref ga))) = HX
        generalize V.ref ga = v
        all_goals
          rintro ⟨Gs1, g, hg, hgn, rfl, hGX, hDX, hl1, kX, tX, hadd⟩
          refine ⟨g.a, [g.x, .ref g.l], rfl, hGX.tp g hg, rfl, g.x, _, rfl, .ref g.l, _, rfl, rfl, ?_⟩
          clear m1 m2
          have gw := hGX.ok g hg
          have gv := varsOf_len g.w
          refine ⟨_, rfl, g.x, g.w, rfl, hGX.rp g hg, gw.1, by omega, fun pl2 H11 hpl2 e11 hL11 => ⟨pl2, rfl, ⟨_, SqL.of hL11⟩, fun D2 hD2 => lc_it walk_list (fun i H' => Ex H11 H' ∧ ∃ us, H' D2 = some (.lst us) ∧ Reps K H' (((varsOf g.w).take i).map Tm.var) us) ⟨Ex.new hD2, [], upd_same, Reps.nil⟩ (fun i H' _ h => SqL.of (h.1 _ _ hL11)) ?_ ?_⟩⟩
          · rintro j x H12x H12 hj ⟨e12, us, hU, hUs⟩ ⟨rfl, hx⟩
            obtain ⟨k, hk, rfl⟩ : ∃ k, (varsOf g.w)[j]? = some k ∧ x = .int k := by
              rw [List.getElem?_map] at hx
              cases z : (varsOf g.w)[j]? with
              | none => rw [z] at hx; cases hx
              | some k => rw [z] at hx; exact ⟨k, rfl, (Option.some.inj hx).symm⟩
            have hul := hUs.len
            rw [List.length_map, List.length_take] at hul
            refine ⟨rfl, yesI ⟨_, rfl, (by show 1 ≤ sizeLine; decide), fun tp htp => ?_⟩⟩
            have e13 := Ex.new (o := HO.tup [.int k]) htp
            have hU13 := e13 _ _ hU
            have t13 : Tups K (upd H12 tp (.tup [.int k])) (upd (upd H12 tp (.tup [.int k])) D2 (.lst (us ++ [.ref tp]))) := Tups.lst hU13
            refine ⟨us, hU13, small5' (by omega), Ex.mut (e12.trans e13) hD2, us ++ [.ref tp], upd_same, ?_⟩
            rw [take_snocT hk, List.map_append]
            refine ((hUs.mono (.of e13)).mono t13).app (Reps.one ?_)
            unfold Rep
            exact ⟨tp, rfl, t13 _ _ (SqT.of upd_same)⟩
          · rintro H12 ⟨e12, us, hU, hUs⟩
            rw [List.length_map, List.take_length] at hUs
            have eX12 := e11.trans e12
            have hG12 := hGX.ex eX12
            have rX1 := (r17.mono tX).mono (.of eX12)
            have rX2 := (r27.mono tX).mono (.of eX12)
            have gl12 := hG12.ls g hg
            have glen := hGX.ln g hg
            have rnn : renum q'.1 = renum g.w := by
              have := hGX.kn g hg
              rw [hgn] at this
              exact Kn.tell kn7 this
            have vlen := vars_len_renum rnn
            have wv := varsOf_len q'.1
            have ulen := hUs.len
            rw [List.length_map] at ulen
            refine ⟨_, rfl, .inl ⟨rfl, g.ys, SqL.of gl12⟩, _, rfl, _, rfl, wx, q'.1, rfl, rX1, o1, by omega, fun pl3 H13 hpl3 e13 hL13 => ⟨_, rfl, pl3, D2, (varsOf q'.1).map (fun k => (Sum.inl k : Key)), us, rfl, ?_, SqL.of (e13 _ _ hU), ?_, ?_, fun dz hdz => ?_⟩⟩
            · rw [List.map_map]
              exact SqL.of hL13
            · rw [List.length_map]
              omega
            · rw [List.length_map]
              omega
            have e14 := Ex.new (o := HO.dK (mergeK [] (((varsOf q'.1).map (fun k => (Sum.inl k : Key))).zip us))) hdz
            have hd14 : (upd H13 dz (.dK (mergeK [] (((varsOf q'.1).map (fun k => (Sum.inl k : Key))).zip us)))) dz = some (.dK (mergeK [] (((varsOf q'.1).map (fun k => (Sum.inl k : Key))).zip us))) := upd_same
            generalize upd H13 dz (.dK (mergeK [] (((varsOf q'.1).map (fun k => (Sum.inl k : Key))).zip us))) = H14 at *
            have e1214 := e13.trans e14
            have nd : ((((varsOf q'.1).map (fun k => (Sum.inl k : Key))).zip us).map Prod.fst).Nodup := by
              rw [List.map_fst_zip (by rw [List.length_map]; omega)]
              exact nodup_map_inj (fun a b e => by injection e) (varsOf_nodup _)
            refine ⟨sx, q'.2, dz, rnm g.w q'.1, rfl, rX2.mono (.of e1214), o2, by omega, ⟨_, .of hd14, fun k => ?_⟩, fun y H15 e15 hy => ?_⟩
            · rw [valV_merge _ _ _ nd, valV_nil, Option.or_none, rnm_put]
              exact tab_zip (varsOf q'.1) (varsOf g.w) us (hUs.mono (.of e1214)) k
            have e1215 := e1214.trans e15
            have eX15 := eX12.trans e1215
            have hG15 := hGX.ex eX15
            have gl15 := hG15.ls g hg
            have npD : p2 ≠ D := (ne_of_none hD3 hp2).symm
            have eHX : Ex H HX := fun b o hb => kX b o (ne_of_none hb fD) (eH7 _ _ hb)
            obtain ⟨f1, f2⟩ := hGX.fr g hg
            have f3 : g.l ≠ D ∧ g.l ≠ p2 ∧ g.l ≠ S ∧ g.l ≠ r ∧ g.l ≠ pl := by
              simpa only [List.mem_cons, List.not_mem_nil, or_false, not_or] using f2
            obtain ⟨f4, f5, f6, f7, f8⟩ := f3
            have tl : Tups K H15 (upd H15 g.l (.lst (g.ys ++ [y]))) := Tups.lst gl15
            refine ⟨g.l, g.ys, y, rfl, rfl, gl15, small5' (by omega), R7, Gs1.map (GE.more g.n y fun f => sub (rnm f q'.1) q'.2), _, _, _, _, _, _, _, rfl, Ex.mut (eHX.trans eX15) f1, (t47.trans tX).trans ((Tups.of eX15).trans tl), ?_, ?_, ?_, nd7, by omega, ?_, hG15.app hg hy (ok_rnm gw.1 o2) (by rw [size_rnm]; exact s2), ?_⟩
            · rw [upd_ne f5.symm]
              exact eX15 _ _ (kX _ _ npD hL7)
            · refine ((hP7.mv tX (fun o h => kX _ _ nDS.symm h) (fun o h => kX _ _ nDr.symm h) (fun o h => kX _ _ nDp.symm h)).ex eX15).mv tl (fun o h => ?_) (fun o h => ?_) (fun o h => ?_)
              · rw [upd_ne f6.symm]
                exact h
              · rw [upd_ne f7.symm]
                exact h
              · rw [upd_ne f8.symm]
                exact h
            · rw [upd_ne f4.symm, more_kvs]
              exact eX15 _ _ hDX
            · rw [List.length_map]
              omega
            · rw [fold_take_succ _ _ hq, hgs, hgn]
              exact hadd y
      · rintro σ' H' ⟨R, Gs, x4, x5, x6, x7, x8, x9, x10, rfl, eH, t4, hL, hPt, hDk, hnd, hRl, hkl, hG, hgs⟩
        have hlz := hQ.length
        rw [hlz, List.take_length] at hgs
        have hgs : gsOf qs = Gs.map GE.gr := hgs
        rw [hgs] at q
        refine ⟨_, rfl, rfl, _, rfl, ?_⟩
        rcases hz with hz | hz
        · subst hz
          rw [if_pos rfl] at q
          refine iteT ⟨_, rfl, D, Gs.map GE.kv, rfl, hDk, fun p hp => ?_⟩
          have eN := Ex.new (o := HO.lst ((Gs.map GE.kv).map Prod.snd)) hp
          refine q p _ _ (ex_none eH hp) (eH.trans eN) upd_same (gr_all fun g hg => ?_)
          have hGN := hG.ex eN
          exact ⟨g.a, g.x, g.l, g.ys, rfl, hGN.tp g hg, hGN.rp g hg, hGN.ls g hg, hGN.rs g hg, (hGN.fr g hg).1, ne_of_none (hG.ls g hg) hp⟩
        · subst hz
          rw [if_neg (by decide +kernel)] at q
          refine iteF ⟨D, _, hDk, trivial, fun od => ?_⟩
          have tF : Tups K H' (upd H' D (.frz od (.dK (Gs.map GE.kv)))) := tups_dk hDk
          have eF : Ex H (upd H' D (.frz od (.dK (Gs.map GE.kv)))) := Ex.mut eH fD
          have hGF : GsAt K H (upd H' D (.frz od (.dK (Gs.map GE.kv)))) [D, p2, S, r, pl] R zs.length Gs := hG.mv tF fun b ys nb hb => by
            rw [upd_ne (fun e => nb (by rw [e]; simp))]
            exact hb
          have hDF : (upd H' D (.frz od (.dK (Gs.map GE.kv)))) D = some (.frz od (.dK (Gs.map GE.kv))) := upd_same
          generalize upd H' D (.frz od (.dK (Gs.map GE.kv))) = HF at *
          refine ⟨_, rfl, D, od, Gs.map GE.kv, rfl, hDF, fun Dl hDl => lc_it walk_values (fun i Hc => Ex HF Hc ∧ ∃ us, Hc Dl = some (.lst us) ∧ PySem.Paired (fun x g => GrAt K H Dl Hc g x) us ((Gs.take i).map fun g => (g.w, onceT none (sortT g.ss)))) ⟨Ex.new hDl, [], upd_same, .nil⟩ (fun i Hc _ h => h.1 _ _ hDF) ?_ ?_⟩
          · rintro i x Hc Hc2 hi ⟨ec, us, hU, hUs⟩ ⟨rfl, k, hk⟩
            obtain ⟨g, hg, rfl⟩ : ∃ g, Gs[i]? = some g ∧ x = .ref g.a := by
              rw [List.getElem?_map] at hk
              cases hg : Gs[i]? with
              | none => rw [hg] at hk; cases hk
              | some g =>
                rw [hg] at hk
                exact ⟨g, rfl, (congrArg Prod.snd (Option.some.inj hk)).symm⟩
            have gm := List.mem_of_getElem? hg
            have hGc := hGF.ex ec
            have sz := hGc.sz g gm
            have ln := hGc.ln g gm
            have hul := hUs.length
            rw [List.length_map, List.length_take] at hul
            refine ⟨g.a, [g.x, .ref g.l], rfl, hGc.tp g gm, rfl, g.x, _, rfl, .ref g.l, _, rfl, rfl, rfl, yesI ⟨_, rfl, _, rfl, g.l, g.ys, g.ss, rfl, hGc.ls g gm, hGc.rs g gm, oks_all.mpr fun t ht => (sz t ht).1, fun t ht => by have := (sz t ht).2; omega, by omega, fun p zs2 us2 H7 hp e7 hL7 pm ri hR7 => ⟨(by show 2 ≤ sizeLine; decide), fun tp htp => ?_⟩⟩⟩
            rw [sortT_is pm ri] at hR7
            have e8 := Ex.new (o := HO.tup [g.x, .ref p]) htp
            have hT8 : (upd H7 tp (.tup [g.x, .ref p])) tp = some (.tup [g.x, .ref p]) := upd_same
            generalize upd H7 tp (.tup [g.x, .ref p]) = H8 at *
            have e78 := e7.trans e8
            have hU8 := e78 _ _ hU
            have npD : p ≠ Dl := (ne_of_none hU hp).symm
            have tl : Tups K H8 (upd H8 Dl (.lst (us ++ [.ref tp]))) := Tups.lst hU8
            refine ⟨us, hU8, small5' (by omega), Ex.mut (ec.trans e78) hDl, _, upd_same, ?_⟩
            rw [take_snocT hg, List.map_append]
            refine Paired.snoc (Paired.mapP hUs fun x g h => (h.mv (.of e78) fun l ys _ _ h => e78 _ _ h).mv tl fun l ys n _ h => by rw [upd_ne n]; exact h) ?_
            refine ⟨tp, g.x, p, zs2, rfl, tl _ _ (SqT.of hT8), ((hGc.rp g gm).mono (.of e78)).mono tl, ?_, (hR7.mono (.of e8)).mono tl, ex_none (eF.trans ec) hp, npD⟩
            rw [upd_ne npD]
            exact e8 _ _ hL7
          · rintro Hc ⟨ec, us, hU, hUs⟩
            rw [List.length_map, List.take_length] at hUs
            have nDl : Dl ≠ D := (ne_of_none hDF hDl).symm
            refine ⟨ec _ _ hDF, q Dl us _ (ex_none eF hDl) (Ex.mut (eF.trans ec) fD) ?_ ?_⟩
            · rw [upd_ne nDl]
              exact hU
            · rw [List.map_map]
              have hDc := ec _ _ hDF
              refine Paired.mapP hUs fun x g hg => hg.mv (tups_frz hDc) fun l ys _ _ hl => ?_
              rw [upd_ne (ne_of hl hDc (by intro z; cases z))]
              exact hl
    · exfalso
      rw [List.all_eq_false] at hf
      obtain ⟨d, hd, hn⟩ := hf
      obtain ⟨p, hp, rfl⟩ := List.mem_map.mp hd
      obtain ⟨o1, o2, s1, s2⟩ := hok p hp
      refine hn ?_
      show (isT (odT p.1) && isT (odT p.2)) = true
      rw [isT_tm o1, isT_tm o2]
      rfl
end
end Hm

set_option Elab.async false
set_option linter.all false
set_option maxRecDepth 100000
set_option maxHeartbeats 1000000
namespace Hm
open PySem PySem.Spec PyProof.Rows L2 HT
open Evl (Ex)
/-- // by any divisor of less than 9000 bits -/
def CDivZ (_ j : Int) : Prop := j ≠ 0 ∧ j.natAbs.log2 < 9000
theorem op_fdivZ {X : Cx} : OpR X (binaryOp .FloorDiv) (rI CDivZ fun i j => .int (i.fdiv j)) := opI fun i j _ _ _ _ _ hc q => floordiv_int hc.1 q (.inl (PyProof.noPylong_of_log2 hc.2))
theorem divZ {x y : Int} (h0 : y ≠ 0) (h : y.natAbs < 2 ^ 1000) : CDivZ x y := ⟨h0, Nat.lt_of_lt_of_le (PySem.Flt.log2_lt_of (by decide) h) (by decide)⟩
/-! ## draws: a source is a list of three numbers that changes; what is drawn is any number that may come -/
def Well (H : Hp) (a : Addr) : Prop := ∃ x y z : Int, H a = some (.lst [.int x, .int y, .int z])
/-- all but the source is as it was -/
structure Dr (a : Addr) (H H' : Hp) : Prop where
  well : Well H' a
  keep : ∀ b o, b ≠ a → H b = some o → H' b = some o
theorem Dr.ex {a : Addr} {H H' : Hp} (h : Well H a) (e : Ex H H') : Dr a H H' := by
  obtain ⟨x, y, z, h⟩ := h
  exact ⟨⟨x, y, z, e _ _ h⟩, fun b o _ q => e b o q⟩
theorem Dr.trans {a : Addr} {H H1 H2 : Hp} (p : Dr a H H1) (q : Dr a H1 H2) : Dr a H H2 := ⟨q.well, fun b o n h => q.keep b o n (p.keep b o n h)⟩
theorem Dr.tups {K : PySem.W.Frag} {a : Addr} {H H' : Hp} (h : Well H a) (d : Dr a H H') : Tups K H H' := fun b ys q => by
  obtain ⟨x, y, z, h⟩ := h
  rcases q with (q | ⟨ob, q⟩) | q
  · exact .inl (.inl (d.keep _ _ (ne_of q h (by intro z; cases z)) q))
  · exact .inl (.inr ⟨ob, d.keep _ _ (ne_of q h (by intro z; cases z)) q⟩)
  · exact .inr q
theorem Dr.sql {K : PySem.W.Frag} {a l : Addr} {xs : List V} {H H' : Hp} (d : Dr a H H') (n : l ≠ a) (h : SqL K H l xs) : SqL K H' l xs := by
  rcases h with (h | ⟨o, h⟩) | h
  · exact .inl (.inl (d.keep _ _ n h))
  · exact .inl (.inr ⟨o, d.keep _ _ n h⟩)
  · exact .inr h
theorem Dr.upd {a : Addr} {H : Hp} {x y z : Int} : Dr a H (upd H a (.lst [.int x, .int y, .int z])) := ⟨⟨x, y, z, upd_same⟩, fun b o n h => by rw [upd_ne n]; exact h⟩
theorem Well.ne {H : Hp} {a p : Addr} (h : Well H a) (hp : H p = none) : p ≠ a := by
  obtain ⟨x, y, z, h⟩ := h
  exact (ne_of_none h hp).symm
section
variable {P : Program} {w : World} {K : PySem.W.Frag} {mg : Str → Option Value} {base : Heap}
def spNext : Sp := fun vs H Q _ => ∃ a m, vs = [.ref a, .int m] ∧ Well H a ∧ 0 < m ∧ m.natAbs < 2 ^ 1000 ∧ ∀ d H', 0 ≤ d → d < m → Dr a H H' → Q (.int d) H'
theorem mod_in {x m : Int} (h : 0 < m) : 0 ≤ x % m ∧ x % m < m := ⟨Int.emod_nonneg x (by omega), Int.emod_lt_of_pos x h⟩
theorem ok_law_next (T : Tx K mg) : FnOk P w K mg base CX0 1 T.f_law_next T.d_law_next ["_law_source", "_law_many"] spNext := by
  refine T.h_law_next.F.ok sc_law_next (fun vs H Q E h => ?_) (fun cdv A outer s H vs Q E hr h => ?_)
  · obtain ⟨v, t, rfl, _⟩ := h
    rfl
  obtain ⟨a, m, rfl, ⟨x, y, z, hW⟩, h0, h1, q⟩ := h
  refine ⟨_, (pss_cons (ps_if (pt_cmpR op_gt (pe_ix ix_list (pv 0) pe_int (fun _ _ => rfl)) pe_int (nomark _))
      (pss_cons (ps_set (i := 2) sc_law_next.nd rfl (Or.inl rfl) (pe_op op_mod (pe_callTy call_int1 rfl T.b_int (by decide +kernel) (pa_cons (pe_ix ix_list (pv 0) pe_int (fun _ _ => rfl)) pa_nil)) (pv 1)))
    (pss_cons (ps_asg (pe_op op_fdivZ (pe_ix ix_list (pv 0) pe_int (fun _ _ => rfl)) (pv 1)) (pg_sub (pv 0) pe_int set_list))
    (pss_one (ps_ret (pv 2)))))
      pss_nil)
    (pss_cons (ps_asg (pe_op op_add (pe_ix ix_list (pv 0) pe_int (fun _ _ => rfl)) pe_int) (pg_sub (pv 0) pe_int set_list))
    (pss_cons (ps_set (i := 3) sc_law_next.nd rfl (Or.inl rfl) pe_int)
    (pss_cons (ps_set (i := 4) sc_law_next.nd rfl (Or.inl rfl) (pe_op op_mod (pe_callTy call_int1 rfl T.b_int (by decide +kernel) (pa_cons (pe_op op_add (pe_op op_add (pe_ix ix_list (pv 0) pe_int (fun _ _ => rfl)) (pe_op op_mul pe_int (pe_ix ix_list (pv 0) pe_int (fun _ _ => rfl)))) pe_int) pa_nil)) (pv 3)))
    (pss_cons (ps_set (i := 4) sc_law_next.nd rfl (Or.inl rfl) (pe_op op_mod (pe_callTy call_int1 rfl T.b_int (by decide +kernel) (pa_cons (pe_op op_mul (pv 4) pe_int) pa_nil)) (pv 3)))
    (pss_cons (ps_set (i := 4) sc_law_next.nd rfl (Or.inl rfl) (pe_op op_mod (pe_callTy call_int1 rfl T.b_int (by decide +kernel) (pa_cons (pe_op op_mul (pv 4) (pe_op op_add (pe_op op_fdiv (pv 4) pe_int) pe_int)) pa_nil)) (pv 3)))
    (pss_cons (ps_set (i := 4) sc_law_next.nd rfl (Or.inl rfl) (pe_op op_mod (pe_callTy call_int1 rfl T.b_int (by decide +kernel) (pa_cons (pe_op op_mul (pv 4) (pe_op op_add (pe_op op_fdiv (pv 4) pe_int) pe_int)) pa_nil)) pe_int))
    (pss_one (ps_ret (pe_op op_mod (pe_callTy call_int1 rfl T.b_int (by decide +kernel) (pa_cons (pe_op op_fdiv (pv 4) pe_int) pa_nil)) (pv 1))))))))))), ?_⟩
  refine ⟨_, rfl, a, _, 0, _, rfl, rfl, SqL.of hW, at0, _, _, rfl, rfl, _, rfl, ?_⟩
  refine ite2 (fun _ => ?_) (fun _ => ?_)
  · refine ⟨_, rfl, a, _, 0, _, rfl, rfl, SqL.of hW, at0, .inl ⟨_, rfl, _, rfl, _, _, rfl, rfl, h0, ?_⟩⟩
    refine ⟨_, rfl, a, _, 0, _, rfl, rfl, SqL.of hW, at0, _, rfl, _, _, rfl, rfl, divZ (by omega) h1, ?_⟩
    refine ⟨_, rfl, a, _, 0, 0, rfl, rfl, hW, rfl, ?_⟩
    refine ⟨_, rfl, q _ _ (mod_in h0).1 (mod_in h0).2 Dr.upd⟩
  · refine ⟨_, rfl, a, _, 2, _, rfl, rfl, SqL.of hW, rfl, _, _, rfl, rfl, ?_⟩
    refine ⟨_, rfl, a, _, 2, 2, rfl, rfl, hW, rfl, ?_⟩
    have hW2 : (upd H a (.lst ([V.int x, .int y, .int z].set 2 (.int (z + 1))))) a = some (.lst [.int x, .int y, .int (z + 1)]) := upd_same
    refine ⟨_, rfl, a, _, 1, _, rfl, rfl, SqL.of hW2, rfl, ?_⟩
    refine ⟨_, rfl, a, _, 2, _, rfl, rfl, SqL.of hW2, rfl, _, _, rfl, rfl, .inl ⟨by decide, by decide⟩, _, _, rfl, rfl, _, _, rfl, rfl, .inl ⟨_, rfl, _, rfl, _, _, rfl, rfl, (show (0 : Int) < 2147483647 by decide), ?_⟩⟩
    generalize (y + 104729 * (z + 1) + 7919) % 2147483647 = n1
    refine ⟨_, rfl, _, _, rfl, rfl, .inr ⟨by decide, by decide⟩, .inl ⟨_, rfl, _, rfl, _, _, rfl, rfl, (show (0 : Int) < 2147483647 by decide), ?_⟩⟩
    have b1 := mod_in (x := n1 * 48271) (show (0 : Int) < 2147483647 by decide)
    generalize n1 * 48271 % 2147483647 = n2 at *
    refine ⟨_, rfl, _, rfl, _, _, rfl, rfl, ⟨by decide, by decide⟩, _, _, rfl, rfl, _, _, rfl, rfl, .inl ⟨by omega, by omega⟩, .inl ⟨_, rfl, _, rfl, _, _, rfl, rfl, (show (0 : Int) < 2147483647 by decide), ?_⟩⟩
    have b2 := mod_in (x := n2 * (n2 / 1009 + 69621)) (show (0 : Int) < 2147483647 by decide)
    generalize n2 * (n2 / 1009 + 69621) % 2147483647 = n3 at *
    refine ⟨_, rfl, _, rfl, _, _, rfl, rfl, ⟨by decide, by decide⟩, _, _, rfl, rfl, _, _, rfl, rfl, .inl ⟨by omega, by omega⟩, .inl ⟨_, rfl, _, _, rfl, rfl, (show (0 : Int) < 2147483399 by decide), ?_⟩⟩
    refine ⟨_, rfl, _, _, rfl, rfl, ⟨by decide, by decide⟩, .inl ⟨_, rfl, _, rfl, _, _, rfl, rfl, h0, ?_⟩⟩
    exact q _ _ (mod_in h0).1 (mod_in h0).2 Dr.upd
/-- one of some, any of them -/
def spOne (K : PySem.W.Frag) : Sp := fun vs H Q _ => ∃ a l xs, vs = [.ref a, .ref l] ∧ Well H a ∧ l ≠ a ∧ SqL K H l xs ∧ xs ≠ [] ∧ xs.length ≤ 1000 ∧ ∀ x H', x ∈ xs → Dr a H H' → Q x H'
theorem ok_law_one (T : Tx K mg) : FnOk P w K mg base CX0 2 T.f_law_one T.d_law_one ["_law_source", "_law_some"] (spOne K) := by
  refine T.h_law_one.F.ok sc_law_one (fun vs H Q E h => ?_) (fun cdv A outer s H vs Q E hr h => ?_)
  · obtain ⟨v, t, _, rfl, _⟩ := h
    rfl
  obtain ⟨a, l, xs, rfl, hW, hne, hL, hx, hz, q⟩ := h
  have hpos : 0 < xs.length := List.length_pos_iff.mpr hx
  refine ⟨_, (pss_one (ps_ret (pe_ix ix_list (pv 1) (cl (ok_law_next T) T.h_law_next hr (pa_cons (pv 0) (pa_cons (pe_callB call_len_seq rfl T.b_len (by decide +kernel) (pa_cons (pv 1) pa_nil)) pa_nil))) (fun _ _ => rfl)))), ?_⟩
  refine ⟨_, rfl, _, rfl, _, rfl, l, xs, rfl, .inl hL, a, _, rfl, hW, by omega, Nat.lt_of_le_of_lt (show ((xs.length : Int)).natAbs ≤ 1000 by omega) (by decide +kernel), fun d H' h1 h2 dr => ?_⟩
  obtain ⟨k, rfl⟩ := Int.eq_ofNat_of_zero_le h1
  have hk : k < xs.length := by omega
  exact ⟨l, xs, _, xs[k], rfl, rfl, dr.sql hne hL, atI_nat (List.getElem?_eq_getElem hk), q _ _ (List.getElem_mem hk) dr⟩
/-- a source of a cell -/
def spSrc : Sp := fun vs H Q _ => ∃ c, vs = [.int c] ∧ ∀ p x y z H', H p = none → Ex H H' → H' p = some (.lst [.int x, .int y, .int z]) → Q (.ref p) H'
theorem ok_law_source_of (T : Tx K mg) : FnOk P w K mg base CX0 1 T.f_law_source_of T.d_law_source_of ["_law_cell"] spSrc := by
  refine T.h_law_source_of.F.ok sc_law_source_of (fun vs H Q E h => ?_) (fun cdv A outer s H vs Q E hr h => ?_)
  · obtain ⟨c, rfl, _⟩ := h
    rfl
  obtain ⟨c, rfl, q⟩ := h
  refine ⟨_, (Evl.pss_cut (ps_set (i := 0) sc_law_source_of.nd rfl (Or.inl rfl) (pe_ifExp (pt_cmpR op_ge (pv 0) pe_int (nomark _)) (pv 0) (pe_op op_sub (pe_op op_sub pe_int (pe_op op_mul pe_int (pv 0))) pe_int)))
    (pss_one (ps_ret (pe_lst (pa_cons (pe_op op_mul (pv 0) (pe_callTy call_int1 rfl T.b_int (by decide +kernel) (pa_cons (pe_cmpR op_ge (pv 0) (pe_op op_pow pe_int pe_int) (nomark _)) pa_nil))) (pa_cons (pe_op op_mod (pe_callTy call_int1 rfl T.b_int (by decide +kernel) (pa_cons (pv 0) pa_nil)) pe_int) (pa_cons pe_int pa_nil))))))), ?_⟩
  refine ⟨fun σ' H' => ∃ c : Int, σ' = [some (.int c)] ∧ H' = H, ?_, ?_⟩
  · refine ⟨_, rfl, _, _, rfl, rfl, _, rfl, ?_⟩
    refine ite2 (fun _ => ?_) (fun _ => ?_)
    · exact ⟨_, rfl, _, rfl, rfl⟩
    · exact ⟨_, rfl, _, _, rfl, rfl, .inl ⟨by decide, by decide⟩, _, _, rfl, rfl, _, _, rfl, rfl, _, rfl, rfl⟩
  · rintro _ _ ⟨c, rfl, rfl⟩
    refine ⟨_, rfl, _, rfl, _, _, rfl, rfl, ⟨by decide, by decide, by decide⟩, _, _, rfl, rfl, .inr ⟨_, rfl, ?_⟩⟩
    refine ⟨_, _, rfl, rfl, .inr (by constructor <;> split <;> first | decide | omega), _, rfl, .inl ⟨_, rfl, _, _, rfl, rfl, (show (0 : Int) < 2147483647 by decide), ?_⟩⟩
    refine ⟨(by show 3 ≤ sizeLine; decide), fun p hp => ?_⟩
    exact q p _ _ _ _ hp (Ex.new hp) upd_same
end
end Hm

set_option Elab.async false
set_option linter.all false
set_option maxRecDepth 100000
set_option maxHeartbeats 1000000
namespace Hm
open PySem PySem.Spec PyProof.Rows L2 HT
open Evl (Ex)
theorem depths_get : ∀ {ts : List Tm} {i : Nat} {t : Tm}, ts[i]? = some t → depth t ≤ depths ts
  | [], i, _, e => by simp at e
  | u :: us, 0, t, e => by
    have : u = t := by simpa using e
    subst this
    rw [depths_cons]
    omega
  | u :: us, i + 1, t, e => by
    have := depths_get (ts := us) (i := i) (t := t) (by simpa using e)
    rw [depths_cons]
    omega
theorem sizes_get : ∀ {ts : List Tm} {i : Nat} {t : Tm}, ts[i]? = some t → size t ≤ sizes ts
  | [], i, _, e => by simp at e
  | u :: us, 0, t, e => by
    have : u = t := by simpa using e
    subst this
    rw [sizes_cons]
    omega
  | u :: us, i + 1, t, e => by
    have := sizes_get (ts := us) (i := i) (t := t) (by simpa using e)
    rw [sizes_cons]
    omega
theorem sizes_take (ts : List Tm) (i : Nat) : sizes (ts.take i) ≤ sizes ts := by
  have h := sizes_app (ts.take i) (ts.drop i)
  rw [List.take_append_drop] at h
  omega
theorem take_snocJ {α : Type} {l : List α} {i : Nat} {x : α} (h : l[i]? = some x) : l.take (i + 1) = l.take i ++ [x] := by
  rw [List.take_add_one, h]
  rfl
theorem pres_one (t : Tm) : pres [t] = pre t := by
  rw [pres_cons]
  unfold pres
  rw [List.append_nil]
theorem subs_app (g : Int → Tm) : ∀ xs ys : List Tm, subs g (xs ++ ys) = subs g xs ++ subs g ys
  | [], _ => by simp [subs]
  | x :: xs, ys => by
    show subs g (x :: (xs ++ ys)) = _
    rw [subs, subs, subs_app g xs ys]
    rfl
theorem subs_one (g : Int → Tm) (t : Tm) : subs g [t] = [sub g t] := by simp [subs]
theorem depth_pos (t : Tm) : 1 ≤ depth t := by
  rw [depth_eq]
  omega
theorem inV_ints (k : Int) : ∀ acc : List Int, inV (.int k) (acc.map V.int) = decide (k ∈ acc)
  | [] => by simp [inV]
  | a :: acc => by
    have ih := inV_ints k acc
    unfold inV at ih ⊢
    rw [List.map_cons, List.any_cons, ih]
    show ((a == k) || decide (k ∈ acc)) = decide (k ∈ a :: acc)
    by_cases e : a = k
    · subst e
      simp
    · have : (a == k) = false := by simpa using e
      rw [this, Bool.false_or]
      by_cases m : k ∈ acc
      · rw [decide_eq_true m, decide_eq_true (List.mem_cons_of_mem _ m)]
      · rw [decide_eq_false m, decide_eq_false]
        intro z
        rcases List.mem_cons.mp z with z | z
        · exact e z.symm
        · exact m z
theorem flat_ints (acc : List Int) : (acc.map V.int).all flatV = true := by
  rw [List.all_map, List.all_eq_true]
  intro x _
  rfl
def atomB (s : Str) : Bool := decide (s.cps.size ≤ 40) && s.cps.toList.all fun c => decide (32 ≤ c) && decide (c ≤ 126) && decide (c ≠ 37)
theorem atomB_ok {s : Str} (h : atomB s = true) : AtomOk s := by
  unfold atomB at h
  rw [Bool.and_eq_true, List.all_eq_true] at h
  refine ⟨of_decide_eq_true h.1, fun c hc => ?_⟩
  have := h.2 c hc
  rw [Bool.and_eq_true, Bool.and_eq_true] at this
  exact ⟨of_decide_eq_true this.1.1, of_decide_eq_true this.1.2, of_decide_eq_true this.2⟩

/-! ## drawn terms -/
/-- a term as it may be drawn, its depth at most n + 1 -/
def Gt (n : Nat) (t : Tm) : Prop := Ok t ∧ depth t ≤ n + 1 ∧ size t + 1 ≤ 2 ^ (n + 1) ∧ ∀ k ∈ (pre t).flatMap vOne, k < 5
def Gts (n : Nat) (ts : List Tm) : Prop := ∀ t ∈ ts, Gt n t
theorem two_pow (n : Nat) : 2 ≤ 2 ^ (n + 1) := by
  have := Nat.pow_le_pow_right (n := 2) (by decide) (show 1 ≤ n + 1 by omega)
  omega
theorem Gt.mono {n m : Nat} {t : Tm} (h : Gt n t) (e : n ≤ m) : Gt m t := ⟨h.1, by have := h.2.1; omega, Nat.le_trans h.2.2.1 (Nat.pow_le_pow_right (by decide) (by omega)), h.2.2.2⟩
theorem gt_int {n : Nat} {i : Int} (h : Ok (.int i)) : Gt n (.int i) := by
  refine ⟨h, ?_, two_pow n, fun k hk => ?_⟩
  · rw [show depth (.int i) = 1 from rfl]
    omega
  · simp [pre, vOne] at hk
theorem gt_atom {n : Nat} {z : Str} (h : atomB z = true) : Gt n (.atom z) := by
  refine ⟨by unfold Ok; exact atomB_ok h, ?_, two_pow n, fun k hk => ?_⟩
  · rw [show depth (.atom z) = 1 from rfl]
    omega
  · simp [pre, vOne] at hk
theorem gt_var {n : Nat} {i : Int} (h0 : 0 ≤ i) (h : i < 5) : Gt n (.var i) := by
  refine ⟨by unfold Ok; exact h0, ?_, two_pow n, fun k hk => ?_⟩
  · rw [show depth (.var i) = 1 from rfl]
    omega
  · simp [pre, vOne] at hk
    omega
theorem gts_sizes {n : Nat} : ∀ {ts : List Tm}, Gts n ts → sizes ts + ts.length ≤ ts.length * 2 ^ (n + 1) ∧ depths ts ≤ n + 1 ∧ Oks ts ∧ ∀ k ∈ (pres ts).flatMap vOne, k < 5
  | [], _ => ⟨by simp [sizes], by simp [depths], by unfold Oks; trivial, fun k hk => by simp [pres] at hk⟩
  | t :: ts, h => by
    obtain ⟨a, b, c, d⟩ := gts_sizes (ts := ts) fun u hu => h u (List.mem_cons_of_mem _ hu)
    obtain ⟨e1, e2, e3, e4⟩ := h t List.mem_cons_self
    refine ⟨?_, ?_, ?_, fun k hk => ?_⟩
    · rw [sizes_cons, List.length_cons, Nat.add_mul, Nat.one_mul]
      omega
    · rw [depths_cons]
      omega
    · rw [oks_cons]
      exact ⟨e1, c⟩
    · rw [pres_cons, List.flatMap_append] at hk
      rcases List.mem_append.mp hk with hk | hk
      · exact e4 k hk
      · exact d k hk
theorem gt_comp {n : Nat} {f : Str} {as : List Tm} (hf : atomB f = true) (h1 : 1 ≤ as.length) (h2 : as.length ≤ 2) (h : Gts n as) : Gt (n + 1) (.comp f as) := by
  obtain ⟨a, b, c, d⟩ := gts_sizes h
  refine ⟨?_, ?_, ?_, fun k hk => ?_⟩
  · unfold Ok
    exact ⟨atomB_ok hf, h1, by omega, c⟩
  · rw [depth_eq]
    show 1 + depths as ≤ _
    omega
  · rw [size_eq]
    show 1 + sizes as + 1 ≤ _
    have e : 2 ^ (n + 1 + 1) = 2 ^ (n + 1) * 2 := Nat.pow_succ ..
    have p2 := two_pow n
    rw [e]
    rcases (show as.length = 1 ∨ as.length = 2 by omega) with l | l <;> rw [l] at a <;> omega
  · rw [show pre (.comp f as) = .comp f as :: pres as from rfl, List.flatMap_cons] at hk
    exact d k (by simpa [vOne] using hk)
theorem Gts.snoc {n : Nat} {ts : List Tm} {t : Tm} (h : Gts n ts) (g : Gt n t) : Gts n (ts ++ [t]) := fun u hu => by
  rcases List.mem_append.mp hu with hu | hu
  · exact h u hu
  · rw [List.mem_singleton.mp hu]
    exact g
section
variable {P : Program} {w : World} {K : PySem.W.Frag} {mg : Str → Option Value} {base : Heap}
def isTup : Tm → Bool
  | .var _ => true
  | .comp _ _ => true
  | .int _ => false
  | .atom _ => false
def isAtom : Tm → Bool
  | .var _ => false
  | .comp _ _ => false
  | .int _ => false
  | .atom _ => true
def isIntT : Tm → Bool
  | .var _ => false
  | .comp _ _ => false
  | .int _ => true
  | .atom _ => false
theorem isi_tup {H : Hp} {t : Tm} {v : V} (hR : Rep K H t v) : ∃ tv, TyX K H v tv ∧ PySem.W.kitOne K tv (.type "tuple") = some (isTup t) := by
  have h := ty_od (od_rep hR)
  cases t with
  | var k => exact ⟨_, h, kit_ty (a := "tuple") (show kitB "tuple" "tuple" = some true by decide +kernel)⟩
  | int k => exact ⟨_, h, kit_ty (a := "int") (show kitB "int" "tuple" = some false by decide +kernel)⟩
  | atom k => exact ⟨_, h, kit_ty (a := "str") (show kitB "str" "tuple" = some false by decide +kernel)⟩
  | comp k as => exact ⟨_, h, kit_ty (a := "tuple") (show kitB "tuple" "tuple" = some true by decide +kernel)⟩
theorem isi_str {H : Hp} {t : Tm} {v : V} (hR : Rep K H t v) : ∃ tv, TyX K H v tv ∧ PySem.W.kitOne K tv (.type "str") = some (isAtom t) := by
  have h := ty_od (od_rep hR)
  cases t with
  | var k => exact ⟨_, h, kit_ty (a := "tuple") (show kitB "tuple" "str" = some false by decide +kernel)⟩
  | int k => exact ⟨_, h, kit_ty (a := "int") (show kitB "int" "str" = some false by decide +kernel)⟩
  | atom k => exact ⟨_, h, kit_ty (a := "str") (show kitB "str" "str" = some true by decide +kernel)⟩
  | comp k as => exact ⟨_, h, kit_ty (a := "tuple") (show kitB "tuple" "str" = some false by decide +kernel)⟩
theorem isi_int {H : Hp} {t : Tm} {v : V} (hR : Rep K H t v) : ∃ tv, TyX K H v tv ∧ PySem.W.kitOne K tv (.type "int") = some (isIntT t) := by
  have h := ty_od (od_rep hR)
  cases t with
  | var k => exact ⟨_, h, kit_ty (a := "tuple") (show kitB "tuple" "int" = some false by decide +kernel)⟩
  | int k => exact ⟨_, h, kit_ty (a := "int") (show kitB "int" "int" = some true by decide +kernel)⟩
  | atom k => exact ⟨_, h, kit_ty (a := "str") (show kitB "str" "int" = some false by decide +kernel)⟩
  | comp k as => exact ⟨_, h, kit_ty (a := "tuple") (show kitB "tuple" "int" = some false by decide +kernel)⟩
theorem rep_int {H : Hp} {i : Int} : Rep K H (.int i) (.int i) := by unfold Rep; rfl
theorem rep_comp {H : Hp} {p : Addr} {f : Str} {as : List Tm} {ws : List V} (h : SqT K H p (.str f :: ws)) (hA : Reps K H as ws) : Rep K H (.comp f as) (.ref p) := by
  unfold Rep
  exact ⟨p, ws, rfl, h, hA⟩

def spTermN (K : PySem.W.Frag) (n : Nat) : Sp := fun vs H Q _ => ∃ a d, vs = [.ref a, .int ((d : Nat) : Int)] ∧ d < n ∧ d ≤ 2 ∧ Well H a ∧ ∀ v t H', Dr a H H' → Rep K H' t v → Gt d t → Q v H'
theorem term_step (T : Tx K mg) (n : Nat) (ih : FnOk P w K mg base CX0 (n + 3) T.f_law_term T.d_law_term ["_law_source", "_law_deep"] (spTermN K n)) :
    FnOk P w K mg base CX0 (n + 3 + 1) T.f_law_term T.d_law_term ["_law_source", "_law_deep"] (spTermN K (n + 1)) := by
  refine T.h_law_term.F.ok sc_law_term (fun vs H Q E h => ?_) (fun cdv A outer s H vs Q E hr h => ?_)
  · obtain ⟨v, t, rfl, _⟩ := h
    rfl
  obtain ⟨a, d, rfl, hd, hd2, hW, q⟩ := h
  have hu := hr.units
  refine ⟨_, (pss_cons (ps_set (i := 2) sc_law_term.nd rfl (Or.inl rfl) (cl (ok_law_next T) T.h_law_next hr (pa_cons (pv 0) (pa_cons pe_int pa_nil))))
    (Evl.pss_cut (ps_if (PW.pt (pw_and (pt_cmpR op_gt (pv 1) pe_int (nomark _)) (pw_and1 (pt_cmpR op_lt (pv 2) pe_int (nomark _)))))
      (pss_cons (ps_set (i := 3) sc_law_term.nd rfl (Or.inl rfl) (pe_op op_add pe_int (cl (ok_law_next T) T.h_law_next hr (pa_cons (pv 0) (pa_cons pe_int pa_nil)))))
    (pss_cons (ps_set (i := 4) sc_law_term.nd rfl (Or.inl rfl) (cl (ok_law_one T) T.h_law_one hr (pa_cons (pv 0) (pa_cons (pe_lst (pa_cons pe_str (pa_cons pe_str (pa_cons pe_str pa_nil)))) pa_nil))))
    (pss_one (ps_ret (pe_op op_catT (pe_tup (pa_cons (pv 4) pa_nil)) (pe_callTy call_tuple_of rfl T.b_tuple (by decide +kernel) (pa_cons (pe_lc (own := [("_law_k", 5)]) (g := gName 5) rfl sc_law_term.nd (pi_range1 rfl T.b_range (pa_cons (pv 3) pa_nil)) (blkOk_by (own := [("_law_k", 5)]) (N := ["_law_source", "_law_deep", "_law_kind", "_law_many", "_law_name", "_law_k"]) (sc := defScope s_law_term) (by decide +kernel)) (fun _ _ _ _ _ => pg_name (i := 5) sc_law_term.nd rfl (Or.inl rfl)) (fun _ _ _ _ _ => pts_nil) (fun _ _ _ _ _ => (cl ih T.h_law_term hr (pa_cons (pv 0) (pa_cons (pe_op op_sub (pv 1) pe_int) pa_nil))))) pa_nil)))))))
      pss_nil)
    (pss_cons (ps_if (pt_cmpR op_lt (pv 2) pe_int (nomark _))
      (pss_one (ps_ret (pe_tup (pa_cons (cl (ok_law_next T) T.h_law_next hr (pa_cons (pv 0) (pa_cons pe_int pa_nil))) pa_nil))))
      pss_nil)
    (pss_one (ps_ret (cl (ok_law_one T) T.h_law_one hr (pa_cons (pv 0) (pa_cons (pe_lst (pa_cons pe_int (pa_cons pe_int (pa_cons pe_str (pa_cons pe_str (pa_cons pe_str (pa_cons pe_int pa_nil))))))) pa_nil)))))))), ?_⟩
  refine ⟨_, rfl, a, _, rfl, hW, by decide, by decide +kernel, fun kd H1 k0 k1 d1 => ?_⟩
  have w1 := d1.well
  refine ⟨fun σ' H' => ∃ x3 x4 x5, σ' = [some (.ref a), some (.int (d : Int)), some (.int kd), x3, x4, x5] ∧ H' = H1, ?_, ?_⟩
  · refine ⟨_, rfl, _, _, rfl, rfl, _, rfl, ?_⟩
    refine ite2 (fun c1 => ?_) (fun c1 => ⟨_, _, _, rfl, rfl⟩)
    refine ⟨_, rfl, _, _, rfl, rfl, _, rfl, ?_⟩
    refine ite2 (fun c2 => ?_) (fun c2 => ⟨_, _, _, rfl, rfl⟩)
    have d0 : 0 < (d : Int) := of_decide_eq_true c1
    obtain ⟨d', rfl⟩ : ∃ d', d = d' + 1 := ⟨d - 1, by omega⟩
    refine ⟨_, rfl, a, _, rfl, w1, by decide, by decide +kernel, fun y H2 y0 y1 d2 => ⟨_, _, rfl, rfl, ?_⟩⟩
    obtain ⟨k', rfl⟩ := Int.eq_ofNat_of_zero_le y0
    have w2 := d2.well
    refine ⟨_, rfl, (by show 3 ≤ sizeLine; decide), fun l hl => ⟨a, l, _, rfl, (Dr.ex w2 (Ex.new hl)).well, w2.ne hl, SqL.of upd_same, by simp, (by show 3 ≤ 1000; decide), fun v H3 hv d3 => ?_⟩⟩
    obtain ⟨f, rfl, hf⟩ : ∃ f, v = .str f ∧ atomB f = true := by
      simp only [List.mem_cons, List.not_mem_nil, or_false] at hv
      rcases hv with rfl | rfl | rfl <;> exact ⟨_, rfl, by decide +kernel⟩
    have d03 := d1.trans (d2.trans ((Dr.ex w2 (Ex.new hl)).trans d3))
    have w3 := d3.well
    refine ⟨_, rfl, (by show 1 ≤ sizeLine; decide), fun tp htp => ?_⟩
    have e4 := Ex.new (o := HO.tup [.str f]) htp
    have d4 := Dr.ex w3 e4
    have hT4 : SqT K (upd H3 tp (.tup [.str f])) tp [.str f] := SqT.of upd_same
    generalize upd H3 tp (.tup [.str f]) = H4 at *
    have w4 := d4.well
    refine ⟨_, rfl, 1 + (k' : Int), rfl, by omega, by omega, fun D hD => ?_⟩
    have hDa := w4.ne hD
    refine lc_it walk_range (fun i H' => Dr a H4 H' ∧ ∃ ts us, H' D = some (.lst us) ∧ Reps K H' ts us ∧ ts.length = i ∧ Gts d' ts) ⟨Dr.ex w4 (Ex.new hD), [], [], upd_same, Reps.nil, rfl, fun _ h => absurd h List.not_mem_nil⟩ (fun _ _ _ _ => trivial) ?_ ?_
    · rintro i x H5x H5 hi ⟨d5, ts, us, hU, hUs, hlen, hall⟩ ⟨rfl, rfl⟩
      have hi' : i < 2 := by
        have : i < (1 + (k' : Int)).toNat := hi
        omega
      refine ⟨rfl, yesI ⟨_, rfl, _, rfl, _, _, rfl, rfl, a, d', ?_, by omega, by omega, d5.well, fun v t H6 d6 hR hG => ?_⟩⟩
      · have z : (((d' + 1 : Nat) : Int)) - 1 = (d' : Int) := by omega
        show [V.ref a, V.int ((((d' + 1 : Nat) : Int)) - 1)] = _
        rw [z]
      · have hU6 := d6.keep D _ hDa hU
        have t6 : Tups K H5 H6 := Dr.tups d5.well d6
        have tl : Tups K H6 (upd H6 D (.lst (us ++ [v]))) := Tups.lst hU6
        have hul := hUs.len
        refine ⟨us, hU6, small5' (by omega), ?_, ts ++ [t], us ++ [v], upd_same, ((hUs.mono t6).mono tl).app (Reps.one (hR.mono tl)), by rw [List.length_append, List.length_singleton, hlen], hall.snoc hG⟩
        obtain ⟨x1, y1, z1, hw⟩ := d6.well
        refine ⟨⟨x1, y1, z1, by rw [upd_ne hDa.symm]; exact hw⟩, fun b o hb hq => ?_⟩
        have hbD : b ≠ D := fun z => by
          subst z
          rw [hD] at hq
          cases hq
        rw [upd_ne hbD]
        exact d6.keep b o hb (d5.keep b o hb hq)
    · rintro H5 ⟨d5, ts, us, hU, hUs, hlen, hall⟩
      have hlen' : ts.length = 1 + k' := by
        rw [hlen]
        show (1 + (k' : Int)).toNat = 1 + k'
        omega
      have hul := hUs.len
      refine ⟨D, us, rfl, .inl ⟨SqL.of hU, fun q2 hq2 => ?_⟩⟩
      have e6 := Ex.new (o := HO.tup us) hq2
      have hTp := (Dr.tups w4 d5) _ _ hT4
      refine ⟨tp, q2, [.str f], us, rfl, rfl, Evl.ex_t e6 hTp, SqT.of upd_same, by simp, small5 (by simp; omega), fun z => ?_, fun _ p hp => ?_⟩
      · rw [z, List.length_nil] at hul
        omega
      · have e7 := Ex.new (o := HO.tup ([V.str f] ++ us)) hp
        refine q (.ref p) (.comp f ts) _ (d03.trans (d4.trans (d5.trans (Dr.ex d5.well (e6.trans e7))))) ?_ (gt_comp hf (by omega) (by omega) hall)
        exact rep_comp (SqT.of upd_same) ((hUs.mono (.of e6)).mono (.of e7))
  · rintro _ _ ⟨x3, x4, x5, rfl, rfl⟩
    refine ⟨_, rfl, _, _, rfl, rfl, _, rfl, ?_⟩
    refine ite2 (fun c1 => ?_) (fun c1 => ?_)
    · refine ⟨_, rfl, a, _, rfl, w1, by decide, by decide +kernel, fun k H2 k0 k1 d2 => ⟨(by show 1 ≤ sizeLine; decide), fun p hp => ?_⟩⟩
      refine q _ (.var k) _ (d1.trans (d2.trans (Dr.ex d2.well (Ex.new hp)))) ?_ (gt_var k0 k1)
      unfold Rep
      exact ⟨p, rfl, SqT.of upd_same⟩
    · refine ⟨_, rfl, (by show 6 ≤ sizeLine; decide), fun l hl => ⟨a, l, _, rfl, (Dr.ex w1 (Ex.new hl)).well, w1.ne hl, SqL.of upd_same, by simp, (by show 6 ≤ 1000; decide), fun v H2 hv d2 => ?_⟩⟩
      have dd := d1.trans ((Dr.ex w1 (Ex.new hl)).trans d2)
      simp only [List.mem_cons, List.not_mem_nil, or_false] at hv
      rcases hv with rfl | rfl | rfl | rfl | rfl | rfl
      · exact q _ (.int 0) _ dd rep_int (gt_int (by unfold Ok; decide))
      · exact q _ (.int 1) _ dd rep_int (gt_int (by unfold Ok; decide))
      · exact q _ (.atom _) _ dd (by unfold Rep; rfl) (gt_atom (by decide +kernel))
      · exact q _ (.atom _) _ dd (by unfold Rep; rfl) (gt_atom (by decide +kernel))
      · exact q _ (.atom _) _ dd (by unfold Rep; rfl) (gt_atom (by decide +kernel))
      · exact q _ (.int 1) _ dd rep_int (gt_int (by unfold Ok; decide))
theorem ok_law_term (T : Tx K mg) : ∀ n : Nat, FnOk P w K mg base CX0 (n + 3) T.f_law_term T.d_law_term ["_law_source", "_law_deep"] (spTermN K n)
  | 0 => ⟨fun _ _ _ _ ⟨_, _, _, h, _⟩ => absurd h (Nat.not_lt_zero _), fun _ _ _ _ _ _ _ _ _ _ _ _ _ ⟨_, _, _, h, _⟩ => absurd h (Nat.not_lt_zero _)⟩
  | n + 1 => term_step T n (ok_law_term T n)
end
end Hm

set_option Elab.async false
set_option linter.all false
set_option maxRecDepth 100000
set_option maxHeartbeats 1000000
namespace Hm
open PySem PySem.Spec PyProof.Rows L2 HT
open Evl (Ex)
/-- the variables of some terms, by first occurrence -/
def numsT (ts : List Tm) : List Int := ((pres ts).flatMap vOne).foldl addNew []
theorem numsT_one (t : Tm) : numsT [t] = varsOf t := by
  unfold numsT
  rw [pres_one, varsOf_seq]
  rfl
theorem varsOf_comp (f : Str) (as : List Tm) : varsOf (.comp f as) = numsT as := by
  rw [varsOf_seq]
  unfold vSeq numsT
  rw [show pre (.comp f as) = .comp f as :: pres as from rfl, List.flatMap_cons]
  rfl
theorem add_split : ∀ (ks acc : List Int), ks.foldl addNew acc = acc ++ (ks.foldl addNew []).filter fun k => !decide (k ∈ acc) := by
  suffices h : ∀ (n : Nat) (ks acc : List Int), ks.length = n → ks.foldl addNew acc = acc ++ (ks.foldl addNew []).filter fun k => !decide (k ∈ acc) from fun ks acc => h _ ks acc rfl
  intro n
  induction n with
  | zero =>
    intro ks acc h
    obtain rfl := List.length_eq_zero_iff.mp h
    simp
  | succ n ih =>
    intro ks acc h
    obtain ⟨ks', k, rfl⟩ : ∃ ks' k, ks = ks' ++ [k] := by
      rcases List.eq_nil_or_concat ks with e | ⟨a, b, e⟩
      · rw [e] at h
        cases h
      · exact ⟨a, b, by rw [e, List.concat_eq_append]⟩
    have hl : ks'.length = n := by
      rw [List.length_append, List.length_singleton] at h
      omega
    rw [List.foldl_append, List.foldl_append]
    show addNew (ks'.foldl addNew acc) k = acc ++ (addNew (ks'.foldl addNew []) k).filter _
    have e := ih ks' acc hl
    have m1 := mem_fold ks' acc k
    have m2 := mem_fold ks' [] k
    generalize ks'.foldl addNew acc = A at *
    generalize ks'.foldl addNew [] = B at *
    have m3 : k ∈ A ↔ k ∈ acc ∨ k ∈ B := by
      rw [m1, m2]
      simp
    unfold addNew
    by_cases a : k ∈ A
    · rw [if_pos a, e]
      by_cases b : k ∈ B
      · rw [if_pos b]
      · rw [if_neg b, List.filter_append]
        have : k ∈ acc := (m3.mp a).resolve_right b
        simp [this]
    · rw [if_neg a, e]
      have b : k ∉ B := fun z => a (m3.mpr (.inr z))
      have c : k ∉ acc := fun z => a (m3.mpr (.inl z))
      rw [if_neg b, List.filter_append, List.append_assoc]
      simp [c]
theorem numsT_snoc {ts : List Tm} {i : Nat} {t : Tm} (h : ts[i]? = some t) : numsT (ts.take (i + 1)) = numsT (ts.take i) ++ (varsOf t).filter fun k => !decide (k ∈ numsT (ts.take i)) := by
  have e : numsT (ts.take (i + 1)) = (vSeq t).foldl addNew (numsT (ts.take i)) := by
    unfold numsT
    rw [take_snocT h, pres_app, pres_one, List.flatMap_append, List.foldl_append]
    rfl
  rw [e, add_split, ← varsOf_seq]
theorem numsT_len (ts : List Tm) : (numsT ts).length ≤ sizes ts := by
  have h := fold_len (pres ts) []
  rw [fold_flat, len_pres] at h
  simpa [numsT] using h
section
variable {P : Program} {w : World} {K : PySem.W.Frag} {mg : Str → Option Value} {base : Heap}
def spOpen (K : PySem.W.Frag) : Sp := fun vs H Q _ => ∃ v t, vs = [v] ∧ Rep K H t v ∧ Ok t ∧ Q (.bl (isVar t)) H
theorem ok_law_is_open (T : Tx K mg) : FnOk P w K mg base CX0 1 T.f_law_is_open T.d_law_is_open ["_law_term_here"] (spOpen K) := by
  refine T.h_law_is_open.F.ok sc_law_is_open (fun vs H Q E h => ?_) (fun cdv A outer s H vs Q E hr h => ?_)
  · obtain ⟨v, t, rfl, _⟩ := h
    rfl
  obtain ⟨v, t, rfl, hR, hO, q⟩ := h
  refine ⟨_, (pss_one (ps_ret (pe_and (pe_callB call_isi rfl T.b_isinstance (by decide +kernel) (pa_cons (pv 0) (pa_cons (pe_bltn (v := .ty "tuple") (u := .type "tuple") rfl T.b_tuple (by decide +kernel) rfl) pa_nil))) (pe_one (pe_cmpR op_eq (pe_callB call_len_seq rfl T.b_len (by decide +kernel) (pa_cons (pv 0) pa_nil)) pe_int (nomark _)))))), ?_⟩
  obtain ⟨tv, y1, y2⟩ := isi_tup hR
  refine ⟨_, rfl, _, _, tv, _, isTup t, rfl, .ty "tuple", y1, y2, isTup t, rfl, ?_⟩
  cases t with
  | int i => exact iteF q
  | atom i => exact iteF q
  | var k =>
    have hR2 := hR
    unfold Rep at hR2
    obtain ⟨a, rfl, hT⟩ := hR2
    exact iteT ⟨_, rfl, a, _, rfl, .inr hT, rfl, q⟩
  | comp g as =>
    have hR2 := hR
    unfold Rep at hR2
    obtain ⟨a, ws, rfl, hT, hA⟩ := hR2
    have hl := hA.len
    unfold Ok at hO
    have hlw : (V.str g :: ws).length ≠ 1 := by
      rw [List.length_cons]
      omega
    refine iteT ⟨_, rfl, a, _, rfl, .inr hT, rfl, ?_⟩
    have e : V.bl (decide (V.int ((V.str g :: ws).length : Int) = V.int 1)) = V.bl (isVar (.comp g as)) := by
      rw [dec1, decide_eq_false hlw]
      rfl
    exact e ▸ q
def spNs (K : PySem.W.Frag) (L : Bool) (n : Nat) : Sp := fun vs H Q _ => ∃ a xs ts, vs = [.ref a] ∧ (if L = true then H a = some (.lst xs) else SqT K H a xs) ∧ Reps K H ts xs ∧ Oks ts ∧ depths ts < n ∧ sizes ts ≤ 3000 ∧
  ∀ p H', H p = none → Ex H H' → H' p = some (.lst ((numsT ts).map V.int)) → Q (.ref p) H'
theorem numsT_step (T : Tx K mg) (n : Nat) (ih : FnOk P w K mg base CX0 (n + 2) T.f_law_numbers T.d_law_numbers ["_law_terms"] (spNs K false n)) :
    FnOk P w K mg base CX0 (n + 2 + 1) T.f_law_numbers T.d_law_numbers ["_law_terms"] (spNs K false (n + 1)) := by
  refine T.h_law_numbers.F.ok sc_law_numbers (fun vs H Q E h => ?_) (fun cdv A outer s H vs Q E hr h => ?_)
  · obtain ⟨a, xs, ts, rfl, _⟩ := h
    rfl
  obtain ⟨a, xs, ts, rfl, hS, hR, hO, hd, hz, q⟩ := h
  replace hS : SqT K H a xs := hS
  have hlen := hR.len
  refine ⟨_, (pss_cons (ps_set (i := 1) sc_law_numbers.nd rfl (Or.inr rfl) (pe_lst pa_nil))
    (pss_cons (ps_for PassesOwn.never rfl (pi_tup (pv 0)) (pg_name (i := 2) sc_law_numbers.nd rfl (Or.inl rfl))
      (Evl.pss_cut (ps_set (i := 3) sc_law_numbers.nd rfl (Or.inl rfl) (pe_ifExp (pt_val (cl (ok_law_is_open T) T.h_law_is_open hr (pa_cons (pv 2) pa_nil))) (pe_lst (pa_cons (pe_ix ix_tup (pv 2) pe_int (fun _ _ => rfl)) pa_nil)) (pe_lst pa_nil)))
    (Evl.pss_cut (ps_if (PW.pt (pw_and (pt_val (pe_callB call_isi rfl T.b_isinstance (by decide +kernel) (pa_cons (pv 2) (pa_cons (pe_bltn (v := .ty "tuple") (u := .type "tuple") rfl T.b_tuple (by decide +kernel) rfl) pa_nil)))) (pw_and1 (pt_not (pt_val (cl (ok_law_is_open T) T.h_law_is_open hr (pa_cons (pv 2) pa_nil)))))))
      (pss_one (ps_set (i := 3) sc_law_numbers.nd rfl (Or.inl rfl) (cl ih T.h_law_numbers hr (pa_cons (pe_slice sl_tup (pv 2) (po_some pe_int) po_none) pa_nil))))
      pss_nil)
    (pss_one (ps_set (i := 1) sc_law_numbers.nd rfl (Or.inr rfl) (pe_op op_catL (pv 1) (pe_lc (own := [("_law_number", 4)]) (g := gName 4) rfl sc_law_numbers.nd (pi_list (pv 3)) (blkOk_by (own := [("_law_number", 4)]) (N := ["_law_terms", "_law_found", "_law_term_here", "_law_some", "_law_number"]) (sc := defScope s_law_numbers) (by decide +kernel)) (fun _ _ _ _ _ => pg_name (i := 4) sc_law_numbers.nd rfl (Or.inl rfl)) (fun _ _ _ _ _ => pts_one (pt_cmpR (show OpR _ (compareOp CmpOp.NotIn) (rIn K true) from op_notIn_seq) (pv 4) (pv 1) (by rfl))) (fun _ _ _ _ _ => (pv 4)))))))))
    (pss_one (ps_ret (pv 1))))), ?_⟩
  refine ⟨Nat.zero_le _, fun f0 hf0 => ?_⟩
  have e0 := Ex.new (o := HO.lst []) hf0
  have hF0 : (upd H f0 (.lst [])) f0 = some (.lst []) := upd_same
  generalize upd H f0 (.lst []) = H0 at *
  refine ⟨_, rfl, a, rfl, ⟨_, Evl.ex_t e0 hS⟩, for_tup (fun i σ' H' => ∃ x2 x3 x4 f, σ' = [some (.ref a), some (.ref f), x2, x3, x4] ∧ Ex H H' ∧ H f = none ∧ H' f = some (.lst ((numsT (ts.take i)).map V.int))) ⟨_, _, _, f0, rfl, e0, hf0, hF0⟩ (fun i σ' H' _ ⟨_, _, _, _, _, e, _, _⟩ => Evl.ex_t e hS) ?_ ?_⟩
  · rintro i v σ' H1 hv ⟨x2, x3, x4, f, rfl, eH, fF, hF⟩
    obtain ⟨t, ht, hRt⟩ := (hR.mono (.of eH)).get hv
    have hOt := oks_get hO ht
    have hdt := depths_get ht
    have hnl := numsT_len (ts.take i)
    have hst := sizes_take ts i
    have hsg := sizes_get ht
    have hvl := varsOf_len t
    obtain ⟨tv, y1, y2⟩ := isi_tup hRt
    have dt := depth_eq t
    have st := size_eq t
    refine ⟨fun σ' H' => ∃ l x4, σ' = [some (.ref a), some (.ref f), some v, some (.ref l), x4] ∧ Ex H1 H' ∧ H' l = some (.lst ((if isVar t = true then varsOf t else []).map V.int)), ?_, ?_⟩
    · refine ⟨_, rfl, v, t, rfl, hRt, hOt, isVar t, rfl, ?_⟩
      cases t with
      | var k =>
        have hR2 := hRt
        unfold Rep at hR2
        obtain ⟨a2, rfl, hT2⟩ := hR2
        exact iteT ⟨_, rfl, a2, _, 0, _, rfl, rfl, hT2, at0, (by show 1 ≤ sizeLine; decide), fun l hl => ⟨l, _, rfl, Ex.new hl, upd_same⟩⟩
      | int k => exact iteF ⟨Nat.zero_le _, fun l hl => ⟨l, _, rfl, Ex.new hl, upd_same⟩⟩
      | atom k => exact iteF ⟨Nat.zero_le _, fun l hl => ⟨l, _, rfl, Ex.new hl, upd_same⟩⟩
      | comp g as => exact iteF ⟨Nat.zero_le _, fun l hl => ⟨l, _, rfl, Ex.new hl, upd_same⟩⟩
    rintro _ H2 ⟨l, x4', rfl, e2, hl⟩
    have hRt2 := hRt.mono (.of e2)
    refine ⟨fun σ' H' => ∃ l x4, σ' = [some (.ref a), some (.ref f), some v, some (.ref l), x4] ∧ Ex H1 H' ∧ H' l = some (.lst ((varsOf t).map V.int)), ?_, ?_⟩
    · obtain ⟨tv, y1, y2⟩ := isi_tup hRt2
      refine ⟨_, rfl, _, _, tv, _, isTup t, rfl, .ty "tuple", y1, y2, isTup t, rfl, ?_⟩
      cases t with
      | int k => exact iteF ⟨l, _, rfl, e2, hl⟩
      | atom k => exact iteF ⟨l, _, rfl, e2, hl⟩
      | var k => exact iteT ⟨_, rfl, v, .var k, rfl, hRt2, hOt, true, rfl, iteF ⟨l, _, rfl, e2, hl⟩⟩
      | comp g as =>
        have hR2 := hRt2
        unfold Rep at hR2
        obtain ⟨a2, ws2, rfl, hT2, hA2⟩ := hR2
        have hO2 := hOt
        unfold Ok at hO2
        have hargs : (Tm.comp g as).args = as := rfl
        rw [hargs] at dt st
        refine iteT ⟨_, rfl, _, .comp g as, rfl, hRt2, hOt, false, rfl, iteT ⟨_, rfl, _, rfl, a2, _, rfl, hT2, cut1_ne _ _, fun p hp => ?_⟩⟩
        rw [cut1]
        have e3 := Ex.new (o := HO.tup ws2) hp
        obtain ⟨m, rfl⟩ : ∃ m, n = m + 1 := ⟨n - 1, by omega⟩
        refine ⟨p, ws2, as, rfl, SqT.of upd_same, hA2.mono (.of e3), hO2.2.2.2, by omega, by omega, fun p2 H4 hp2 e4 hL4 => ⟨p2, _, rfl, e2.trans (e3.trans e4), ?_⟩⟩
        rw [varsOf_comp]
        exact hL4
    rintro _ H3 ⟨l, x4', rfl, e3, hl⟩
    have hF3 := e3 _ _ hF
    refine ⟨_, rfl, _, rfl, l, rfl, ⟨_, SqL.of hl⟩, fun D hD => lc_it walk_list (fun j H' => Ex H3 H' ∧ H' D = some (.lst ((((varsOf t).take j).filter fun k => !decide (k ∈ numsT (ts.take i))).map V.int))) ⟨Ex.new hD, upd_same⟩ (fun j H' _ h => SqL.of (h.1 _ _ hl)) ?_ ?_⟩
    · rintro j x H4 H5 hj ⟨e4, hD4⟩ ⟨rfl, hx⟩
      obtain ⟨k, hk, rfl⟩ : ∃ k, (varsOf t)[j]? = some k ∧ x = .int k := by
        rw [List.getElem?_map] at hx
        cases z : (varsOf t)[j]? with
        | none => rw [z] at hx; cases hx
        | some k => rw [z] at hx; exact ⟨k, rfl, (Option.some.inj hx).symm⟩
      have hF4 := e4 _ _ hF3
      have ht6 : ((varsOf t).take (j + 1)).filter (fun k => !decide (k ∈ numsT (ts.take i))) = ((varsOf t).take j).filter (fun k => !decide (k ∈ numsT (ts.take i))) ++ [k].filter (fun k => !decide (k ∈ numsT (ts.take i))) := by rw [take_snocT hk, List.filter_append]
      refine ⟨rfl, _, rfl, _, rfl, f, _, rfl, .inl (SqL.of hF4), rfl, flat_ints _, _, rfl, ?_⟩
      rw [if_pos rfl, inV_ints]
      by_cases m : k ∈ numsT (ts.take i)
      · rw [decide_eq_true m]
        refine iteF ⟨e4, ?_⟩
        rw [ht6, List.filter_cons_of_neg (by rw [decide_eq_true m]; decide), List.filter_nil, List.append_nil]
        exact hD4
      · rw [decide_eq_false m]
        refine iteT ⟨_, rfl, _, hD4, ?_, Ex.mut e4 hD, ?_⟩
        · rw [List.length_map]
          have := List.length_filter_le (fun k => !decide (k ∈ numsT (ts.take i))) ((varsOf t).take j)
          rw [List.length_take] at this
          exact small5' (by omega)
        · rw [upd_same, ht6, List.filter_cons_of_pos (by rw [decide_eq_false m]; rfl), List.filter_nil, List.map_append]
          rfl
    · rintro H4 ⟨e4, hD4⟩
      rw [List.length_map, List.take_length] at hD4
      have hF4 := e4 _ _ hF3
      have fl := List.length_filter_le (fun k => !decide (k ∈ numsT (ts.take i))) (varsOf t)
      refine ⟨f, D, _, _, rfl, rfl, SqL.of hF4, hD4, small5 (by rw [List.length_map, List.length_map]; omega), fun p hp => ?_⟩
      have e14 := eH.trans (e3.trans e4)
      refine ⟨_, _, _, p, rfl, e14.trans (Ex.new hp), ex_none e14 hp, ?_⟩
      rw [upd_same, numsT_snoc ht, List.map_append]
  · rintro σ' H1 ⟨x2, x3, x4, f, rfl, eH, fF, hF⟩
    rw [← hlen, List.take_length] at hF
    exact ⟨_, rfl, q f H1 fF eH hF⟩
theorem ok_numsT (T : Tx K mg) : ∀ n : Nat, FnOk P w K mg base CX0 (n + 2) T.f_law_numbers T.d_law_numbers ["_law_terms"] (spNs K false n)
  | 0 => ⟨fun _ _ _ _ ⟨_, _, _, _, _, _, _, h, _⟩ => absurd h (Nat.not_lt_zero _), fun _ _ _ _ _ _ _ _ _ _ _ _ _ ⟨_, _, _, _, _, _, _, h, _⟩ => absurd h (Nat.not_lt_zero _)⟩
  | n + 1 => numsT_step T n (ok_numsT T n)
theorem ok_numsL (T : Tx K mg) (n : Nat) : FnOk P w K mg base CX0 (n + 2 + 1) T.f_law_numbers T.d_law_numbers ["_law_terms"] (spNs K true (n + 1)) := by
  refine T.h_law_numbers.F.ok sc_law_numbers (fun vs H Q E h => ?_) (fun cdv A outer s H vs Q E hr h => ?_)
  · obtain ⟨a, xs, ts, rfl, _⟩ := h
    rfl
  obtain ⟨a, xs, ts, rfl, hS, hR, hO, hd, hz, q⟩ := h
  replace hS : H a = some (.lst xs) := hS
  have hlen := hR.len
  refine ⟨_, (pss_cons (ps_set (i := 1) sc_law_numbers.nd rfl (Or.inr rfl) (pe_lst pa_nil))
    (pss_cons (ps_for PassesOwn.never rfl (pi_list (pv 0)) (pg_name (i := 2) sc_law_numbers.nd rfl (Or.inl rfl))
      (Evl.pss_cut (ps_set (i := 3) sc_law_numbers.nd rfl (Or.inl rfl) (pe_ifExp (pt_val (cl (ok_law_is_open T) T.h_law_is_open hr (pa_cons (pv 2) pa_nil))) (pe_lst (pa_cons (pe_ix ix_tup (pv 2) pe_int (fun _ _ => rfl)) pa_nil)) (pe_lst pa_nil)))
    (Evl.pss_cut (ps_if (PW.pt (pw_and (pt_val (pe_callB call_isi rfl T.b_isinstance (by decide +kernel) (pa_cons (pv 2) (pa_cons (pe_bltn (v := .ty "tuple") (u := .type "tuple") rfl T.b_tuple (by decide +kernel) rfl) pa_nil)))) (pw_and1 (pt_not (pt_val (cl (ok_law_is_open T) T.h_law_is_open hr (pa_cons (pv 2) pa_nil)))))))
      (pss_one (ps_set (i := 3) sc_law_numbers.nd rfl (Or.inl rfl) (cl (ok_numsT T n) T.h_law_numbers hr (pa_cons (pe_slice sl_tup (pv 2) (po_some pe_int) po_none) pa_nil))))
      pss_nil)
    (pss_one (ps_set (i := 1) sc_law_numbers.nd rfl (Or.inr rfl) (pe_op op_catL (pv 1) (pe_lc (own := [("_law_number", 4)]) (g := gName 4) rfl sc_law_numbers.nd (pi_list (pv 3)) (blkOk_by (own := [("_law_number", 4)]) (N := ["_law_terms", "_law_found", "_law_term_here", "_law_some", "_law_number"]) (sc := defScope s_law_numbers) (by decide +kernel)) (fun _ _ _ _ _ => pg_name (i := 4) sc_law_numbers.nd rfl (Or.inl rfl)) (fun _ _ _ _ _ => pts_one (pt_cmpR (show OpR _ (compareOp CmpOp.NotIn) (rIn K true) from op_notIn_seq) (pv 4) (pv 1) (by rfl))) (fun _ _ _ _ _ => (pv 4)))))))))
    (pss_one (ps_ret (pv 1))))), ?_⟩
  refine ⟨Nat.zero_le _, fun f0 hf0 => ?_⟩
  have e0 := Ex.new (o := HO.lst []) hf0
  have hF0 : (upd H f0 (.lst [])) f0 = some (.lst []) := upd_same
  generalize upd H f0 (.lst []) = H0 at *
  refine ⟨_, rfl, a, rfl, ⟨_, SqL.of (e0 _ _ hS)⟩, for_list (fun i σ' H' => ∃ x2 x3 x4 f, σ' = [some (.ref a), some (.ref f), x2, x3, x4] ∧ Ex H H' ∧ H f = none ∧ H' f = some (.lst ((numsT (ts.take i)).map V.int))) ⟨_, _, _, f0, rfl, e0, hf0, hF0⟩ (fun i σ' H' _ ⟨_, _, _, _, _, e, _, _⟩ => SqL.of (e _ _ hS)) ?_ ?_⟩
  · rintro i v σ' H1 hv ⟨x2, x3, x4, f, rfl, eH, fF, hF⟩
    obtain ⟨t, ht, hRt⟩ := (hR.mono (.of eH)).get hv
    have hOt := oks_get hO ht
    have hdt := depths_get ht
    have hnl := numsT_len (ts.take i)
    have hst := sizes_take ts i
    have hsg := sizes_get ht
    have hvl := varsOf_len t
    obtain ⟨tv, y1, y2⟩ := isi_tup hRt
    have dt := depth_eq t
    have st := size_eq t
    refine ⟨fun σ' H' => ∃ l x4, σ' = [some (.ref a), some (.ref f), some v, some (.ref l), x4] ∧ Ex H1 H' ∧ H' l = some (.lst ((if isVar t = true then varsOf t else []).map V.int)), ?_, ?_⟩
    · refine ⟨_, rfl, v, t, rfl, hRt, hOt, isVar t, rfl, ?_⟩
      cases t with
      | var k =>
        have hR2 := hRt
        unfold Rep at hR2
        obtain ⟨a2, rfl, hT2⟩ := hR2
        exact iteT ⟨_, rfl, a2, _, 0, _, rfl, rfl, hT2, at0, (by show 1 ≤ sizeLine; decide), fun l hl => ⟨l, _, rfl, Ex.new hl, upd_same⟩⟩
      | int k => exact iteF ⟨Nat.zero_le _, fun l hl => ⟨l, _, rfl, Ex.new hl, upd_same⟩⟩
      | atom k => exact iteF ⟨Nat.zero_le _, fun l hl => ⟨l, _, rfl, Ex.new hl, upd_same⟩⟩
      | comp g as => exact iteF ⟨Nat.zero_le _, fun l hl => ⟨l, _, rfl, Ex.new hl, upd_same⟩⟩
    rintro _ H2 ⟨l, x4', rfl, e2, hl⟩
    have hRt2 := hRt.mono (.of e2)
    refine ⟨fun σ' H' => ∃ l x4, σ' = [some (.ref a), some (.ref f), some v, some (.ref l), x4] ∧ Ex H1 H' ∧ H' l = some (.lst ((varsOf t).map V.int)), ?_, ?_⟩
    · obtain ⟨tv, y1, y2⟩ := isi_tup hRt2
      refine ⟨_, rfl, _, _, tv, _, isTup t, rfl, .ty "tuple", y1, y2, isTup t, rfl, ?_⟩
      cases t with
      | int k => exact iteF ⟨l, _, rfl, e2, hl⟩
      | atom k => exact iteF ⟨l, _, rfl, e2, hl⟩
      | var k => exact iteT ⟨_, rfl, v, .var k, rfl, hRt2, hOt, true, rfl, iteF ⟨l, _, rfl, e2, hl⟩⟩
      | comp g as =>
        have hR2 := hRt2
        unfold Rep at hR2
        obtain ⟨a2, ws2, rfl, hT2, hA2⟩ := hR2
        have hO2 := hOt
        unfold Ok at hO2
        have hargs : (Tm.comp g as).args = as := rfl
        rw [hargs] at dt st
        refine iteT ⟨_, rfl, _, .comp g as, rfl, hRt2, hOt, false, rfl, iteT ⟨_, rfl, _, rfl, a2, _, rfl, hT2, cut1_ne _ _, fun p hp => ?_⟩⟩
        rw [cut1]
        have e3 := Ex.new (o := HO.tup ws2) hp
        
        refine ⟨p, ws2, as, rfl, SqT.of upd_same, hA2.mono (.of e3), hO2.2.2.2, by omega, by omega, fun p2 H4 hp2 e4 hL4 => ⟨p2, _, rfl, e2.trans (e3.trans e4), ?_⟩⟩
        rw [varsOf_comp]
        exact hL4
    rintro _ H3 ⟨l, x4', rfl, e3, hl⟩
    have hF3 := e3 _ _ hF
    refine ⟨_, rfl, _, rfl, l, rfl, ⟨_, SqL.of hl⟩, fun D hD => lc_it walk_list (fun j H' => Ex H3 H' ∧ H' D = some (.lst ((((varsOf t).take j).filter fun k => !decide (k ∈ numsT (ts.take i))).map V.int))) ⟨Ex.new hD, upd_same⟩ (fun j H' _ h => SqL.of (h.1 _ _ hl)) ?_ ?_⟩
    · rintro j x H4 H5 hj ⟨e4, hD4⟩ ⟨rfl, hx⟩
      obtain ⟨k, hk, rfl⟩ : ∃ k, (varsOf t)[j]? = some k ∧ x = .int k := by
        rw [List.getElem?_map] at hx
        cases z : (varsOf t)[j]? with
        | none => rw [z] at hx; cases hx
        | some k => rw [z] at hx; exact ⟨k, rfl, (Option.some.inj hx).symm⟩
      have hF4 := e4 _ _ hF3
      have ht6 : ((varsOf t).take (j + 1)).filter (fun k => !decide (k ∈ numsT (ts.take i))) = ((varsOf t).take j).filter (fun k => !decide (k ∈ numsT (ts.take i))) ++ [k].filter (fun k => !decide (k ∈ numsT (ts.take i))) := by rw [take_snocT hk, List.filter_append]
      refine ⟨rfl, _, rfl, _, rfl, f, _, rfl, .inl (SqL.of hF4), rfl, flat_ints _, _, rfl, ?_⟩
      rw [if_pos rfl, inV_ints]
      by_cases m : k ∈ numsT (ts.take i)
      · rw [decide_eq_true m]
        refine iteF ⟨e4, ?_⟩
        rw [ht6, List.filter_cons_of_neg (by rw [decide_eq_true m]; decide), List.filter_nil, List.append_nil]
        exact hD4
      · rw [decide_eq_false m]
        refine iteT ⟨_, rfl, _, hD4, ?_, Ex.mut e4 hD, ?_⟩
        · rw [List.length_map]
          have := List.length_filter_le (fun k => !decide (k ∈ numsT (ts.take i))) ((varsOf t).take j)
          rw [List.length_take] at this
          exact small5' (by omega)
        · rw [upd_same, ht6, List.filter_cons_of_pos (by rw [decide_eq_false m]; rfl), List.filter_nil, List.map_append]
          rfl
    · rintro H4 ⟨e4, hD4⟩
      rw [List.length_map, List.take_length] at hD4
      have hF4 := e4 _ _ hF3
      have fl := List.length_filter_le (fun k => !decide (k ∈ numsT (ts.take i))) (varsOf t)
      refine ⟨f, D, _, _, rfl, rfl, SqL.of hF4, hD4, small5 (by rw [List.length_map, List.length_map]; omega), fun p hp => ?_⟩
      have e14 := eH.trans (e3.trans e4)
      refine ⟨_, _, _, p, rfl, e14.trans (Ex.new hp), ex_none e14 hp, ?_⟩
      rw [upd_same, numsT_snoc ht, List.map_append]
  · rintro σ' H1 ⟨x2, x3, x4, f, rfl, eH, fF, hF⟩
    rw [← hlen, List.take_length] at hF
    exact ⟨_, rfl, q f H1 fF eH hF⟩
end
end Hm

set_option Elab.async false
set_option linter.all false
set_option maxRecDepth 100000
set_option maxHeartbeats 1000000
namespace Hm
open PySem PySem.Spec PyProof.Rows L2 HT
open Evl (Ex)
/-- where a number stands first, and what stands there among others -/
theorem put_at : ∀ {ks js : List Int} {k : Int}, ks.length ≤ js.length → k ∈ ks → ∃ (i : Nat) (j : Int), ks[i]? = some k ∧ js[i]? = some j ∧ (∀ i' < i, ks[i']? ≠ some k) ∧ putG ks js k = .var j
  | a :: ks, [], k, h, _ => absurd h (Nat.not_succ_le_zero _)
  | a :: ks, b :: js, k, h, m => by
    rw [putG_cons]
    by_cases e : k = a
    · subst e
      exact ⟨0, b, rfl, rfl, fun i' hi => absurd hi (Nat.not_lt_zero _), if_pos rfl⟩
    · rw [if_neg e]
      obtain ⟨i, j, h1, h2, h3, h4⟩ := put_at (ks := ks) (js := js) (k := k) (by simpa using h) ((List.mem_cons.1 m).resolve_left e)
      refine ⟨i + 1, j, h1, h2, fun i' hi => ?_, h4⟩
      cases i' with
      | zero => exact fun z => e (Option.some.inj z).symm
      | succ i' => exact h3 i' (by omega)
theorem put_not : ∀ {ks js : List Int} {k : Int}, k ∉ ks → putG ks js k = .var k
  | [], js, k, _ => rfl
  | a :: ks, [], k, _ => putG_nil2 _ _
  | a :: ks, b :: js, k, m => by
    rw [putG_cons, if_neg fun e => m (by rw [e]; exact List.mem_cons_self)]
    exact put_not fun z => m (List.mem_cons_of_mem _ z)
section
variable {P : Program} {w : World} {K : PySem.W.Frag} {mg : Str → Option Value} {base : Heap}
def spPut (K : PySem.W.Frag) (n : Nat) : Sp := fun vs H Q _ => ∃ v t a b ks js, vs = [v, .ref a, .ref b] ∧ Rep K H t v ∧ Ok t ∧ size t ≤ 1000 ∧ depth t ≤ n ∧ H a = some (.lst (ks.map V.int)) ∧ H b = some (.lst (js.map V.int)) ∧ ks.length ≤ js.length ∧ ks.length ≤ 1000 ∧ ∀ u H', Ex H H' → Rep K H' (sub (putG ks js) t) u → Q u H'
theorem put_step (T : Tx K mg) (n : Nat) (ih : FnOk P w K mg base CX0 (n + 2) T.f_law_put T.d_law_put ["_law_term_here", "_law_numbers_here", "_law_places"] (spPut K n)) :
    FnOk P w K mg base CX0 (n + 2 + 1) T.f_law_put T.d_law_put ["_law_term_here", "_law_numbers_here", "_law_places"] (spPut K (n + 1)) := by
  refine T.h_law_put.F.ok sc_law_put (fun vs H Q E h => ?_) (fun cdv A outer s H vs Q E hr h => ?_)
  · obtain ⟨v, t, _, _, _, _, rfl, _⟩ := h
    rfl
  obtain ⟨v, t, pa, pb, ks, js, rfl, hR, hO, hz, hd, hA, hB, hl, hl2, q⟩ := h
  have hu := hr.units
  refine ⟨_, (pss_cons (ps_if (pt_not (pt_val (pe_callB call_isi rfl T.b_isinstance (by decide +kernel) (pa_cons (pv 0) (pa_cons (pe_bltn (v := .ty "tuple") (u := .type "tuple") rfl T.b_tuple (by decide +kernel) rfl) pa_nil)))))
      (pss_one (ps_ret (pv 0)))
      pss_nil)
    (pss_cons (ps_if (pt_cmpR op_eq (pe_callB call_len_seq rfl T.b_len (by decide +kernel) (pa_cons (pv 0) pa_nil)) pe_int (nomark _))
      (pss_one (ps_ret (pe_ifExp (pt_cmpR op_in_seq (pe_ix ix_tup (pv 0) pe_int (fun _ _ => rfl)) (pv 1) (by rfl)) (pe_tup (pa_cons (pe_ix ix_list (pv 2) (pe_bm PySem.F.plainAttrs_list PySem.F.slot_list_index PySem.F.type_list_index mt_index (pv 1) (pa_cons (pe_ix ix_tup (pv 0) pe_int (fun _ _ => rfl)) pa_nil)) (fun _ _ => rfl)) pa_nil)) (pv 0))))
      pss_nil)
    (pss_one (ps_ret (pe_op op_catT (pe_tup (pa_cons (pe_ix ix_tup (pv 0) pe_int (fun _ _ => rfl)) pa_nil)) (pe_callTy call_tuple_of rfl T.b_tuple (by decide +kernel) (pa_cons (pe_lc (own := [("_law_one_here", 3)]) (g := gName 3) rfl sc_law_put.nd (pi_tup (pe_slice sl_tup (pv 0) (po_some pe_int) po_none)) (blkOk_by (own := [("_law_one_here", 3)]) (N := ["_law_term_here", "_law_numbers_here", "_law_places", "_law_one_here"]) (sc := defScope s_law_put) (by decide +kernel)) (fun _ _ _ _ _ => pg_name (i := 3) sc_law_put.nd rfl (Or.inl rfl)) (fun _ _ _ _ _ => pts_nil) (fun _ _ _ _ _ => (cl ih T.h_law_put hr (pa_cons (pv 3) (pa_cons (pv 1) (pa_cons (pv 2) pa_nil)))))) pa_nil))))))), ?_⟩
  obtain ⟨tv, y1, y2⟩ := isi_tup hR
  refine ⟨_, rfl, _, _, tv, _, isTup t, rfl, .ty "tuple", y1, y2, isTup t, rfl, ?_⟩
  cases t with
  | int i => exact iteT ⟨_, rfl, q _ H (Ex.refl _) hR⟩
  | atom z => exact iteT ⟨_, rfl, q _ H (Ex.refl _) hR⟩
  | var k =>
    have hR2 := hR
    unfold Rep at hR2
    obtain ⟨a, rfl, hT⟩ := hR2
    refine iteF ⟨_, rfl, a, _, rfl, .inr hT, rfl, true, rfl, iteT ⟨_, rfl, a, _, 0, _, rfl, rfl, hT, at0, _, rfl, pa, _, rfl, .inl (SqL.of hA), rfl, flat_ints _, _, rfl, ?_⟩⟩
    refine ite2 (fun c => ?_) (fun c => ?_)
    · have c : inV (V.int k) (ks.map V.int) = true := c
      rw [inV_ints] at c
      obtain ⟨i, j, h1, h2, h3, h4⟩ := put_at hl (of_decide_eq_true c)
      have g1 : (ks.map V.int)[i]? = some (V.int k) := by rw [List.getElem?_map, h1]; rfl
      have g2 : (js.map V.int)[i]? = some (V.int j) := by rw [List.getElem?_map, h2]; rfl
      refine ⟨_, rfl, _, rfl, .inl ⟨rfl, _, SqL.of hA⟩, _, rfl, a, _, 0, _, rfl, rfl, hT, at0, pa, _, V.int k, i, V.int k, rfl, rfl, SqL.of hA, rfl, flat_ints _, g1, beq_self_eq_true _, fun m z' hm hz' => ?_, pb, _, (i : Int), _, rfl, rfl, SqL.of hB, atI_nat g2, (by show 1 ≤ sizeLine; decide), fun p hp => ?_⟩
      · rw [List.getElem?_map] at hz'
        cases e : ks[m]? with
        | none => rw [e] at hz'; cases hz'
        | some k' =>
          rw [e] at hz'
          obtain rfl := Option.some.inj hz'
          have : k' ≠ k := fun z => h3 m hm (by rw [e, z])
          exact beq_eq_false_iff_ne.mpr this
      · refine q (.ref p) _ (Ex.new hp) ?_
        show Rep K _ (putG ks js k) _
        rw [h4]
        unfold Rep
        exact ⟨p, rfl, SqT.of upd_same⟩
    · have c : inV (V.int k) (ks.map V.int) = false := Bool.eq_false_iff.mpr c
      rw [inV_ints] at c
      have m : k ∉ ks := of_decide_eq_false c
      refine ⟨_, rfl, q _ H (Ex.refl _) ?_⟩
      show Rep K H (putG ks js k) (.ref a)
      rw [put_not m]
      exact hR
  | comp f as =>
    unfold Rep at hR
    obtain ⟨a, ws, rfl, hT, hAs⟩ := hR
    have hlw : (V.str f :: ws).length ≠ 1 := by
      have h1 := hAs.len
      unfold Ok at hO
      rw [List.length_cons]
      omega
    refine iteF ⟨_, rfl, a, _, rfl, .inr hT, rfl, decide ((V.str f :: ws).length = 1), congrArg V.bl dec1, ?_⟩
    rw [decide_eq_false hlw]
    refine iteF ?_
    refine ⟨_, rfl, a, _, 0, _, rfl, rfl, hT, at0, (by show 1 ≤ sizeLine; decide), fun tp htp => ?_⟩
    have e1 := Ex.new (o := HO.tup [.str f]) htp
    have hT1 : SqT K (upd H tp (.tup [.str f])) tp [.str f] := SqT.of upd_same
    refine ⟨_, rfl, _, rfl, a, _, rfl, Evl.ex_t e1 hT, cut1_ne _ _, fun p hp => ?_⟩
    rw [cut1]
    have e2 := Ex.new (o := HO.tup ws) hp
    have hP : (upd (upd H tp (.tup [.str f])) p (.tup ws)) p = some (.tup ws) := upd_same
    have hA2 := (hAs.mono (Tups.of e1)).mono (Tups.of e2)
    have e12 := e1.trans e2
    have hA1 := e12 _ _ hA
    have hB1 := e12 _ _ hB
    have hT2 := Evl.ex_t e2 hT1
    generalize upd (upd H tp (.tup [.str f])) p (.tup ws) = H2 at *
    have hlen := hAs.len
    have hdt := depth_eq (.comp f as)
    have hst := size_eq (.comp f as)
    have hO2 := hO
    unfold Ok at hO2
    refine ⟨p, rfl, ⟨ws, SqT.of hP⟩, fun D hD => ?_⟩
    have e3 := Ex.new (o := HO.lst []) hD
    refine lc_it walk_tup (fun i H' => Ex H2 H' ∧ ∃ us, H' D = some (.lst us) ∧ Reps K H' (subs (putG ks js) (as.take i)) us) ⟨e3, [], upd_same, Reps.nil⟩ (fun i H' _ h => SqT.of (h.1 p _ hP)) ?_ ?_
    · rintro i x H3x H3 hi ⟨e4, us, hU, hUs⟩ ⟨rfl, hx⟩
      obtain ⟨ti, hti, hri⟩ := (hA2.mono (Tups.of e4)).get hx
      have hd1 := depths_get (ts := as) hti
      have hs1 := sizes_get (ts := as) hti
      have hargs : (Tm.comp f as).args = as := rfl
      rw [hargs] at hst hdt
      refine ⟨rfl, yesI ⟨_, rfl, _, rfl, _, rfl, x, ti, pa, pb, ks, js, rfl, hri, oks_get hO2.2.2.2 hti, by omega, by omega, e4 _ _ hA1, e4 _ _ hB1, hl, hl2, fun u H4 e5 hu => ?_⟩⟩
      have hU4 := e5 D _ hU
      have hl2 := hUs.len
      rw [subs_len, List.length_take] at hl2
      refine ⟨us, hU4, small5' (by omega), Ex.mut (e4.trans e5) hD, us ++ [u], upd_same, ?_⟩
      rw [take_snocT hti, subs_app, subs_one]
      have t6 : Tups K H4 (upd H4 D (.lst (us ++ [u]))) := Tups.lst hU4
      exact Reps.app ((hUs.mono (Tups.of e5)).mono t6) (Reps.one (hu.mono t6))
    · rintro H3 ⟨e4, us, hU, hUs⟩
      rw [← hlen, List.take_of_length_le (Nat.le_refl _)] at hUs
      have hl2 := hUs.len
      rw [subs_len] at hl2
      refine ⟨D, us, rfl, .inl ⟨SqL.of hU, fun q2 hq2 => ?_⟩⟩
      have e5 := Ex.new (o := HO.tup us) hq2
      refine ⟨tp, q2, [.str f], us, rfl, rfl, Evl.ex_t e5 (Evl.ex_t e4 hT2), SqT.of upd_same, by simp, small5 (by simp; omega), fun z => ?_, fun _ p3 hp3 => ?_⟩
      · rw [z, List.length_nil] at hl2
        omega
      · have e6 := Ex.new (o := HO.tup ([V.str f] ++ us)) hp3
        refine q (.ref p3) _ (((e12.trans e4).trans e5).trans e6) ?_
        unfold sub Rep
        exact ⟨p3, us, rfl, SqT.of upd_same, (hUs.mono (Tups.of e5)).mono (Tups.of e6)⟩
theorem ok_law_put (T : Tx K mg) : ∀ n : Nat, FnOk P w K mg base CX0 (n + 2) T.f_law_put T.d_law_put ["_law_term_here", "_law_numbers_here", "_law_places"] (spPut K n)
  | 0 => by
    have no : ∀ vs H Q E, ¬ spPut K 0 vs H Q E := fun vs H Q E ⟨v, t, _, _, _, _, _, _, _, _, h, _⟩ => by
      have := depth_pos t
      omega
    exact ⟨fun vs H Q E h => absurd h (no vs H Q E), fun A outer s H args us vs Q E _ _ _ _ h => absurd h (no vs H Q E)⟩
  | n + 1 => put_step T n (ok_law_put T n)
end
end Hm

set_option Elab.async false
set_option linter.all false
set_option maxRecDepth 100000
set_option maxHeartbeats 1000000
namespace Hm
open PySem PySem.Spec PyProof.Rows L2 HT
open Evl (Ex)
/-! ## ranks -/
mutual
def rkD : Tm → PyData
  | .var k => .list [.int 0, .int k]
  | .int i => .list [.int 1, .int i]
  | .atom z => .list [.int 2, .str z]
  | .comp f as => .list (.int 3 :: .int ((as.length : Int) + 1) :: .str f :: rkDs as)
def rkDs : List Tm → List PyData
  | [] => []
  | t :: ts => rkD t :: rkDs ts
end
mutual
/-- a rank as it lies: its lists are younger than H0 -/
inductive RkAt (K : PySem.W.Frag) (H0 H : Hp) : V → Tm → Prop
  | var {l : Addr} {k : Int} : H0 l = none → H l = some (.lst [.int 0, .int k]) → RkAt K H0 H (.ref l) (.var k)
  | int {l : Addr} {i : Int} : H0 l = none → H l = some (.lst [.int 1, .int i]) → RkAt K H0 H (.ref l) (.int i)
  | atom {l : Addr} {z : Str} : H0 l = none → H l = some (.lst [.int 2, .str z]) → RkAt K H0 H (.ref l) (.atom z)
  | comp {l : Addr} {f : Str} {as : List Tm} {us : List V} : H0 l = none → H l = some (.lst (.int 3 :: .int ((as.length : Int) + 1) :: .str f :: us)) → RksAt K H0 H us as → RkAt K H0 H (.ref l) (.comp f as)
inductive RksAt (K : PySem.W.Frag) (H0 H : Hp) : List V → List Tm → Prop
  | nil : RksAt K H0 H [] []
  | cons {u : V} {t : Tm} {us : List V} {ts : List Tm} : RkAt K H0 H u t → RksAt K H0 H us ts → RksAt K H0 H (u :: us) (t :: ts)
end
section
variable {K : PySem.W.Frag} {H0 H00 H H' : Hp}
mutual
theorem RkAt.mv (b : ∀ l, H0 l = none → H00 l = none) (k : ∀ l xs, H0 l = none → H l = some (.lst xs) → H' l = some (.lst xs)) : ∀ {u : V} {t : Tm}, RkAt K H0 H u t → RkAt K H00 H' u t
  | _, _, .var h1 h2 => .var (b _ h1) (k _ _ h1 h2)
  | _, _, .int h1 h2 => .int (b _ h1) (k _ _ h1 h2)
  | _, _, .atom h1 h2 => .atom (b _ h1) (k _ _ h1 h2)
  | _, _, .comp h1 h2 h3 => .comp (b _ h1) (k _ _ h1 h2) (RksAt.mv b k h3)
theorem RksAt.mv (b : ∀ l, H0 l = none → H00 l = none) (k : ∀ l xs, H0 l = none → H l = some (.lst xs) → H' l = some (.lst xs)) : ∀ {us : List V} {ts : List Tm}, RksAt K H0 H us ts → RksAt K H00 H' us ts
  | _, _, .nil => .nil
  | _, _, .cons h r => .cons (RkAt.mv b k h) (RksAt.mv b k r)
end
theorem RkAt.ex {u : V} {t : Tm} (h : RkAt K H0 H u t) (e : Ex H H') : RkAt K H0 H' u t := h.mv (fun _ h => h) fun _ _ _ h => e _ _ h
theorem RkAt.base {u : V} {t : Tm} (h : RkAt K H0 H u t) (e : Ex H00 H0) : RkAt K H00 H u t := h.mv (fun _ h => ex_none e h) fun _ _ _ h => h
theorem RksAt.snoc : ∀ {us : List V} {ts : List Tm} {u : V} {t : Tm}, RksAt K H0 H us ts → RkAt K H0 H u t → RksAt K H0 H (us ++ [u]) (ts ++ [t])
  | _, _, _, _, .nil, h => .cons h .nil
  | _, _, _, _, .cons p r, h => .cons p (RksAt.snoc r h)
theorem RksAt.len : ∀ {us : List V} {ts : List Tm}, RksAt K H0 H us ts → us.length = ts.length
  | _, _, .nil => rfl
  | _, _, .cons _ r => congrArg (· + 1) (RksAt.len r)
mutual
theorem RkAt.dp : ∀ {u : V} {t : Tm}, RkAt K H0 H u t → Dp K H u (rkD t)
  | _, _, .var _ h => by unfold rkD; exact .lst (SqL.of h) (.cons (.int 0) (.cons (.int _) .nil))
  | _, _, .int _ h => by unfold rkD; exact .lst (SqL.of h) (.cons (.int 1) (.cons (.int _) .nil))
  | _, _, .atom _ h => by unfold rkD; exact .lst (SqL.of h) (.cons (.int 2) (.cons (.str _) .nil))
  | _, _, .comp _ h r => by unfold rkD; exact .lst (SqL.of h) (.cons (.int 3) (.cons (.int _) (.cons (.str _) (RksAt.dp r))))
theorem RksAt.dp : ∀ {us : List V} {ts : List Tm}, RksAt K H0 H us ts → DpAll K H us (rkDs ts)
  | _, _, .nil => by unfold rkDs; exact .nil
  | _, _, .cons h r => by unfold rkDs; exact .cons (RkAt.dp h) (RksAt.dp r)
end
end
mutual
theorem rk_eqv : ∀ t u : Tm, PyData.eqv (rkD t) (rkD u) = true ↔ t = u
  | .var k, .var j => by simp [rkD, PyData.eqv, PyData.eqvAll]
  | .var k, .int j => by simp [rkD, PyData.eqv, PyData.eqvAll]
  | .var k, .atom j => by simp [rkD, PyData.eqv, PyData.eqvAll]
  | .var k, .comp g bs => by simp [rkD, PyData.eqv, PyData.eqvAll]
  | .int k, .var j => by simp [rkD, PyData.eqv, PyData.eqvAll]
  | .int k, .int j => by simp [rkD, PyData.eqv, PyData.eqvAll]
  | .int k, .atom j => by simp [rkD, PyData.eqv, PyData.eqvAll]
  | .int k, .comp g bs => by simp [rkD, PyData.eqv, PyData.eqvAll]
  | .atom k, .var j => by simp [rkD, PyData.eqv, PyData.eqvAll]
  | .atom k, .int j => by simp [rkD, PyData.eqv, PyData.eqvAll]
  | .atom k, .atom j => by simp [rkD, PyData.eqv, PyData.eqvAll]
  | .atom k, .comp g bs => by simp [rkD, PyData.eqv, PyData.eqvAll]
  | .comp f as, .var j => by simp [rkD, PyData.eqv, PyData.eqvAll]
  | .comp f as, .int j => by simp [rkD, PyData.eqv, PyData.eqvAll]
  | .comp f as, .atom j => by simp [rkD, PyData.eqv, PyData.eqvAll]
  | .comp f as, .comp g bs => by
    have ih := rks_eqv as bs
    constructor
    · intro h
      simp [rkD, PyData.eqv, PyData.eqvAll] at h
      rw [h.2.1, ih.mp h.2.2]
    · intro h
      injection h with h1 h2
      subst h1
      subst h2
      simp [rkD, PyData.eqv, PyData.eqvAll]
      exact ih.mpr rfl
theorem rks_eqv : ∀ ts us : List Tm, PyData.eqvAll (rkDs ts) (rkDs us) = true ↔ ts = us
  | [], [] => by simp [rkDs, PyData.eqvAll]
  | [], _ :: _ => by simp [rkDs, PyData.eqvAll]
  | _ :: _, [] => by simp [rkDs, PyData.eqvAll]
  | t :: ts, u :: us => by
    have h1 := rk_eqv t u
    have h2 := rks_eqv ts us
    simp [rkDs, PyData.eqvAll, h1, h2]
end
mutual
theorem rk_lay : ∀ t : Tm, Ok t → (rkD t).canLay0 = true
  | .var _, _ => rfl
  | .int _, _ => rfl
  | .atom z, h => by
    unfold Ok at h
    show ((PyData.int 2).canLay0 && ((PyData.str z).canLay0 && true)) = true
    rw [strOk_of h]
    rfl
  | .comp f as, h => by
    unfold Ok at h
    unfold rkD
    show ((PyData.int 3).canLay0 && ((PyData.int ((as.length : Int) + 1)).canLay0 && ((PyData.str f).canLay0 && PyData.canLayAll0 (rkDs as)))) = true
    rw [strOk_of h.1, rks_lay as h.2.2.2]
    rfl
theorem rks_lay : ∀ ts : List Tm, Oks ts → PyData.canLayAll0 (rkDs ts) = true
  | [], _ => rfl
  | t :: ts, h => by
    rw [oks_cons] at h
    unfold rkDs
    show ((rkD t).canLay0 && PyData.canLayAll0 (rkDs ts)) = true
    rw [rk_lay t h.1, rks_lay ts h.2]
    rfl
end
mutual
theorem rk_dep : ∀ t : Tm, (rkD t).depth ≤ depth t
  | .var _ => Nat.le_refl 1
  | .int _ => Nat.le_refl 1
  | .atom z => Nat.le_refl 1
  | .comp f as => by
    have := rks_dep as
    unfold rkD depth
    show max 0 (max 0 (max 0 (PyData.depthAll (rkDs as)))) + 1 ≤ _
    omega
theorem rks_dep : ∀ ts : List Tm, PyData.depthAll (rkDs ts) ≤ depths ts
  | [] => Nat.zero_le _
  | t :: ts => by
    have h1 := rk_dep t
    have h2 := rks_dep ts
    unfold rkDs
    rw [depths_cons]
    show max (rkD t).depth (PyData.depthAll (rkDs ts)) ≤ _
    omega
end
theorem rk_shaped {t : Tm} (h : Ok t) (d : depth t ≤ 60) : SeqAt.shaped (rkD t) = true := by
  unfold SeqAt.shaped
  rw [rk_lay t h, decide_eq_true (by have := rk_dep t; omega)]
  rfl
section
variable {P : Program} {w : World} {K : PySem.W.Frag} {mg : Str → Option Value} {base : Heap}
def spRank (K : PySem.W.Frag) (n : Nat) : Sp := fun vs H Q _ => ∃ v t, vs = [v] ∧ Rep K H t v ∧ Ok t ∧ size t ≤ 1000 ∧ depth t ≤ n ∧ ∀ u H', Ex H H' → RkAt K H H' u t → Q u H'
theorem rank_step (T : Tx K mg) (n : Nat) (ih : FnOk P w K mg base CX0 (n + 2) T.f_law_rank T.d_law_rank ["_law_term_here"] (spRank K n)) :
    FnOk P w K mg base CX0 (n + 2 + 1) T.f_law_rank T.d_law_rank ["_law_term_here"] (spRank K (n + 1)) := by
  refine T.h_law_rank.F.ok sc_law_rank (fun vs H Q E h => ?_) (fun cdv A outer s H vs Q E hr h => ?_)
  · obtain ⟨v, t, rfl, _⟩ := h
    rfl
  obtain ⟨v, t, rfl, hR, hO, hz, hd, q⟩ := h
  have hu := hr.units
  refine ⟨_, (pss_cons (ps_if (pt_val (pe_callB call_isi rfl T.b_isinstance (by decide +kernel) (pa_cons (pv 0) (pa_cons (pe_bltn (v := .ty "int") (u := .type "int") rfl T.b_int (by decide +kernel) rfl) pa_nil))))
      (pss_one (ps_ret (pe_lst (pa_cons pe_int (pa_cons (pv 0) pa_nil)))))
      pss_nil)
    (pss_cons (ps_if (pt_val (pe_callB call_isi rfl T.b_isinstance (by decide +kernel) (pa_cons (pv 0) (pa_cons (pe_bltn (v := .ty "str") (u := .type "str") rfl T.b_str (by decide +kernel) rfl) pa_nil))))
      (pss_one (ps_ret (pe_lst (pa_cons pe_int (pa_cons (pv 0) pa_nil)))))
      pss_nil)
    (pss_cons (ps_if (pt_cmpR op_eq (pe_callB call_len_seq rfl T.b_len (by decide +kernel) (pa_cons (pv 0) pa_nil)) pe_int (nomark _))
      (pss_one (ps_ret (pe_lst (pa_cons pe_int (pa_cons (pe_ix ix_tup (pv 0) pe_int (fun _ _ => rfl)) pa_nil)))))
      pss_nil)
    (pss_one (ps_ret (pe_op op_catL (pe_lst (pa_cons pe_int (pa_cons (pe_callB call_len_seq rfl T.b_len (by decide +kernel) (pa_cons (pv 0) pa_nil)) (pa_cons (pe_ix ix_tup (pv 0) pe_int (fun _ _ => rfl)) pa_nil)))) (pe_lc (own := [("_law_one_here", 1)]) (g := gName 1) rfl sc_law_rank.nd (pi_tup (pe_slice sl_tup (pv 0) (po_some pe_int) po_none)) (blkOk_by (own := [("_law_one_here", 1)]) (N := ["_law_term_here", "_law_one_here"]) (sc := defScope s_law_rank) (by decide +kernel)) (fun _ _ _ _ _ => pg_name (i := 1) sc_law_rank.nd rfl (Or.inl rfl)) (fun _ _ _ _ _ => pts_nil) (fun _ _ _ _ _ => (cl ih T.h_law_rank hr (pa_cons (pv 1) pa_nil)))))))))), ?_⟩
  obtain ⟨tv, y1, y2⟩ := isi_int hR
  refine ⟨_, rfl, _, _, tv, _, isIntT t, rfl, .ty "int", y1, y2, isIntT t, rfl, ?_⟩
  obtain ⟨tv2, z1, z2⟩ := isi_str hR
  cases t with
  | int i =>
    unfold Rep at hR
    subst hR
    exact iteT ⟨_, rfl, (by show 2 ≤ sizeLine; decide), fun p hp => q _ _ (Ex.new hp) (.int hp upd_same)⟩
  | atom z =>
    unfold Rep at hR
    subst hR
    exact iteF ⟨_, rfl, _, _, tv2, _, true, rfl, .ty "str", z1, z2, true, rfl, iteT ⟨_, rfl, (by show 2 ≤ sizeLine; decide), fun p hp => q _ _ (Ex.new hp) (.atom hp upd_same)⟩⟩
  | var k =>
    unfold Rep at hR
    obtain ⟨a, rfl, hT⟩ := hR
    exact iteF ⟨_, rfl, _, _, tv2, _, false, rfl, .ty "str", z1, z2, false, rfl, iteF ⟨_, rfl, a, _, rfl, .inr hT, rfl, true, rfl, iteT ⟨_, rfl, a, _, 0, _, rfl, rfl, hT, at0, (by show 2 ≤ sizeLine; decide), fun p hp => q _ _ (Ex.new hp) (.var hp upd_same)⟩⟩⟩
  | comp f as =>
    unfold Rep at hR
    obtain ⟨a, ws, rfl, hT, hAs⟩ := hR
    have hlen := hAs.len
    have hO2 := hO
    unfold Ok at hO2
    have hlw : (V.str f :: ws).length ≠ 1 := by
      rw [List.length_cons]
      omega
    refine iteF ⟨_, rfl, _, _, tv2, _, false, rfl, .ty "str", z1, z2, false, rfl, iteF ⟨_, rfl, a, _, rfl, .inr hT, rfl, decide ((V.str f :: ws).length = 1), congrArg V.bl dec1, ?_⟩⟩
    rw [decide_eq_false hlw]
    refine iteF ?_
    refine ⟨_, rfl, a, _, rfl, .inr hT, _, rfl, a, _, 0, _, rfl, rfl, hT, at0, (by show 3 ≤ sizeLine; decide), fun lp hlp => ?_⟩
    have e1 := Ex.new (o := HO.lst [.int 3, .int ((V.str f :: ws).length : Nat), .str f]) hlp
    have hL1 : (upd H lp (.lst [.int 3, .int ((V.str f :: ws).length : Nat), .str f])) lp = some (.lst [.int 3, .int ((V.str f :: ws).length : Nat), .str f]) := upd_same
    generalize upd H lp (.lst [.int 3, .int ((V.str f :: ws).length : Nat), .str f]) = H1 at *
    refine ⟨_, rfl, _, rfl, a, _, rfl, Evl.ex_t e1 hT, cut1_ne _ _, fun p hp => ?_⟩
    rw [cut1]
    have e2 := Ex.new (o := HO.tup ws) hp
    have hP : (upd H1 p (.tup ws)) p = some (.tup ws) := upd_same
    have hA2 := (hAs.mono (Tups.of e1)).mono (Tups.of e2)
    have e12 := e1.trans e2
    have hL2 := e2 _ _ hL1
    generalize upd H1 p (.tup ws) = H2 at *
    have hdt := depth_eq (.comp f as)
    have hst := size_eq (.comp f as)
    have hargs : (Tm.comp f as).args = as := rfl
    rw [hargs] at hst hdt
    refine ⟨p, rfl, ⟨ws, SqT.of hP⟩, fun D hD => ?_⟩
    have e3 := Ex.new (o := HO.lst []) hD
    have hD3 : (upd H2 D (.lst [])) D = some (.lst []) := upd_same
    obtain ⟨H3, h3⟩ : ∃ H3, H3 = upd H2 D (.lst []) := ⟨_, rfl⟩
    rw [← h3] at hD3 e3
    refine lc_it walk_tup (fun i H' => Ex H2 H' ∧ (∀ l, H' l = none → H3 l = none) ∧ ∃ us, H' D = some (.lst us) ∧ RksAt K H3 H' us (as.take i)) ⟨h3 ▸ e3, fun l h => by rw [h3]; exact h, [], h3 ▸ hD3, .nil⟩ (fun i H' _ h => SqT.of (h.1 p _ hP)) ?_ ?_
    · rintro i x H4x H4 hi ⟨e4, b4, us, hU, hUs⟩ ⟨rfl, hx⟩
      obtain ⟨ti, hti, hri⟩ := (hA2.mono (Tups.of e4)).get hx
      have hd1 := depths_get (ts := as) hti
      have hs1 := sizes_get (ts := as) hti
      refine ⟨rfl, yesI ⟨_, rfl, x, ti, rfl, hri, oks_get hO2.2.2.2 hti, by omega, by omega, fun u H5 e5 hu => ?_⟩⟩
      have hU5 := e5 D _ hU
      have hul := hUs.len
      rw [List.length_take] at hul
      have nD : ∀ l, H3 l = none → l ≠ D := fun l h z => by rw [z, hD3] at h; cases h
      refine ⟨us, hU5, small5' (by omega), Ex.mut (e4.trans e5) hD, fun l hl => ?_, us ++ [u], upd_same, ?_⟩
      · have nl : l ≠ D := fun z => by rw [z, upd_same] at hl; cases hl
        rw [upd_ne nl] at hl
        exact b4 l (ex_none e5 hl)
      · rw [take_snocT hti]
        refine RksAt.snoc (hUs.mv (fun _ h => h) fun l xs h0 h => ?_) (hu.mv (fun l h => b4 l h) fun l xs h0 h => ?_)
        · rw [upd_ne (nD l h0)]
          exact e5 _ _ h
        · rw [upd_ne (nD l (b4 l h0))]
          exact h
    · rintro H4 ⟨e4, b4, us, hU, hUs⟩
      rw [← hlen, List.take_length] at hUs
      have hul := hUs.len
      have lx : ((V.str f :: ws).length : Int) = (as.length : Int) + 1 := by
        rw [List.length_cons]
        omega
      refine ⟨lp, D, _, us, rfl, rfl, SqL.of (e4 _ _ hL2), hU, small5 (by simp; omega), fun p3 hp3 => ?_⟩
      have e5 := Ex.new (o := HO.lst ([.int 3, .int ((V.str f :: ws).length : Nat), .str f] ++ us)) hp3
      refine q _ _ ((e12.trans e4).trans e5) (.comp (ex_none (e12.trans e4) hp3) ?_ (hUs.mv (fun l h => ?_) fun l xs _ h => e5 _ _ h))
      · rw [upd_same]
        show some (HO.lst (.int 3 :: .int ((V.str f :: ws).length : Nat) :: .str f :: us)) = _
        rw [lx]
      · exact ex_none (e12.trans e3) h
theorem ok_law_rank (T : Tx K mg) : ∀ n : Nat, FnOk P w K mg base CX0 (n + 2) T.f_law_rank T.d_law_rank ["_law_term_here"] (spRank K n)
  | 0 => by
    have no : ∀ vs H Q E, ¬ spRank K 0 vs H Q E := fun vs H Q E ⟨v, t, _, _, _, _, h, _⟩ => by
      have := depth_pos t
      omega
    exact ⟨fun vs H Q E h => absurd h (no vs H Q E), fun A outer s H args us vs Q E _ _ _ _ h => absurd h (no vs H Q E)⟩
  | n + 1 => rank_step T n (ok_law_rank T n)
end
end Hm

set_option Elab.async false
set_option linter.all false
set_option maxRecDepth 100000
set_option maxHeartbeats 1000000
namespace Hm
open PySem PySem.Spec PyProof.Rows L2 HT
open Evl (Ex)
open RZ
/-! ## one rank ahead of another one -/
inductive RI where
  | n (i : Int)
  | s (z : Str)
  | t (t : Tm)
def rkI : Tm → List RI
  | .var k => [.n 0, .n k]
  | .int i => [.n 1, .n i]
  | .atom z => [.n 2, .s z]
  | .comp f as => .n 3 :: .n ((as.length : Int) + 1) :: .s f :: as.map RI.t
def RI.cmp : RI → RI → Int
  | .n i, .n j => intC i j
  | .s a, .s b => sC a b
  | .t a, .t b => tord a b
  | _, _ => 1
def riD : RI → PyData
  | .n i => .int i
  | .s z => .str z
  | .t t => rkD t
def RI.same : RI → RI → Bool
  | .n _, .n _ => true
  | .s _, .s _ => true
  | .t _, .t _ => true
  | _, _ => false
/-- items that may be compared, one behind the other as far as they are equal -/
inductive Ln : List RI → List RI → Prop
  | nil : Ln [] []
  | cons {x y : RI} {xs ys : List RI} : x.same y = true → (x.cmp y = 0 → Ln xs ys) → Ln (x :: xs) (y :: ys)
theorem Ln.nil_l {ys : List RI} (h : Ln [] ys) : ys = [] := by cases h; rfl
theorem Ln.nil_r {ys : List RI} (h : Ln ys []) : ys = [] := by cases h; rfl
theorem ln_ts : ∀ {as bs : List Tm}, as.length = bs.length → Ln (as.map RI.t) (bs.map RI.t)
  | [], [], _ => .nil
  | a :: as, b :: bs, h => .cons rfl fun _ => ln_ts (by simpa using h)
  | [], _ :: _, h => by cases h
  | _ :: _, [], h => by cases h
theorem intC_0 {i j : Int} : intC i j = 0 ↔ i = j := by
  constructor
  · intro h
    exact intC_ok.eq _ _ h
  · intro h
    rw [h]
    exact intC_ok.refl _
theorem ln_rk (t u : Tm) : Ln (rkI t) (rkI u) := by
  cases t <;> cases u <;> refine .cons rfl fun e => ?_ <;> try (exact absurd (intC_0.mp e) (by decide))
  · exact .cons rfl fun _ => .nil
  · exact .cons rfl fun _ => .nil
  · exact .cons rfl fun _ => .nil
  · refine .cons rfl fun e2 => .cons rfl fun _ => ln_ts ?_
    have := intC_0.mp e2
    omega
theorem lex_ts : ∀ {as bs : List Tm}, as.length = bs.length → lexC RI.cmp (as.map RI.t) (bs.map RI.t) = tords as bs
  | [], [], _ => rfl
  | a :: as, b :: bs, h => by
    rw [List.map_cons, List.map_cons, lexC_cons, tords, lex_ts (by simpa using h)]
    rfl
  | [], _ :: _, h => by cases h
  | _ :: _, [], h => by cases h
theorem lex_ne {α : Type} {c : α → α → Int} {x y : α} {xs ys : List α} (h : c x y ≠ 0) : lexC c (x :: xs) (y :: ys) = c x y := by rw [lexC_cons, if_neg h]
theorem intC_succ (i j : Int) : intC (i + 1) (j + 1) = intC i j := by
  unfold intC
  by_cases e : i = j
  · rw [if_pos e, if_pos (by omega)]
  · rw [if_neg e, if_neg (by omega)]
    by_cases g : i < j
    · rw [if_pos g, if_pos (by omega)]
    · rw [if_neg g, if_neg (by omega)]
theorem lex_last {α : Type} {c : α → α → Int} (x y : α) : lexC c [x] [y] = c x y := by
  rw [lexC_cons]
  by_cases e : c x y = 0
  · rw [if_pos e, e]
    rfl
  · rw [if_neg e]
theorem lex_rk : ∀ t u : Tm, lexC RI.cmp (rkI t) (rkI u) = tord t u
  | .var k, .var j => by
    rw [tord]
    show lexC RI.cmp [.n 0, .n k] [.n 0, .n j] = lexC intC [0, k] [0, j]
    rw [lexC_cons, lex_last, lexC_cons, lex_last]
    rfl
  | .int k, .int j => by
    rw [tord]
    show lexC RI.cmp [.n 1, .n k] [.n 1, .n j] = lexC intC [1, k] [1, j]
    rw [lexC_cons, lex_last, lexC_cons, lex_last]
    rfl
  | .atom k, .atom j => by
    rw [tord]
    show lexC RI.cmp [.n 2, .s k] [.n 2, .s j] = lexC intC (2 :: cpsI k) (2 :: cpsI j)
    rw [lexC_cons, lex_last, lexC_cons]
    rfl
  | .comp f as, .comp g bs => by
    rw [tord]
    show lexC RI.cmp (.n 3 :: .n ((as.length : Int) + 1) :: .s f :: as.map RI.t) (.n 3 :: .n ((bs.length : Int) + 1) :: .s g :: bs.map RI.t) = _
    rw [lexC_cons, if_pos (show RI.cmp (.n 3) (.n 3) = 0 from intC_0.mpr rfl), lexC_cons]
    show (if intC ((as.length : Int) + 1) ((bs.length : Int) + 1) = 0 then _ else intC ((as.length : Int) + 1) ((bs.length : Int) + 1)) = _
    rw [intC_succ]
    by_cases e : intC (as.length : Int) (bs.length : Int) = 0
    · rw [if_pos e, if_pos e, lexC_cons, lex_ts (by have := intC_0.mp e; omega)]
      rfl
    · rw [if_neg e, if_neg e]
  | .var k, .int j => by rw [tord]; rfl
  | .var k, .atom j => by rw [tord]; rfl
  | .var k, .comp g bs => by rw [tord]; rfl
  | .int k, .var j => by rw [tord]; rfl
  | .int k, .atom j => by rw [tord]; rfl
  | .int k, .comp g bs => by rw [tord]; rfl
  | .atom k, .var j => by rw [tord]; rfl
  | .atom k, .int j => by rw [tord]; rfl
  | .atom k, .comp g bs => by rw [tord]; rfl
  | .comp f as, .var j => by
    rw [tord]
    · rfl
    · intro g bs z
      cases z
  | .comp f as, .int j => by
    rw [tord]
    · rfl
    · intro g bs z
      cases z
  | .comp f as, .atom j => by
    rw [tord]
    · rfl
    · intro g bs z
      cases z
section
variable {K : PySem.W.Frag} {H0 H : Hp}
def RiAt (K : PySem.W.Frag) (H0 H : Hp) (v : V) : RI → Prop
  | .n i => v = .int i
  | .s z => v = .str z
  | .t t => RkAt K H0 H v t
theorem rks_items : ∀ {us : List V} {ts : List Tm}, RksAt K H0 H us ts → PySem.Paired (RiAt K H0 H) us (ts.map RI.t)
  | _, _, .nil => .nil
  | _, _, .cons h r => .cons h (rks_items r)
theorem rk_items {u : V} {t : Tm} (h : RkAt K H0 H u t) : ∃ l us, u = .ref l ∧ H l = some (.lst us) ∧ PySem.Paired (RiAt K H0 H) us (rkI t) := by
  cases h with
  | var h1 h2 => exact ⟨_, _, rfl, h2, .cons rfl (.cons rfl .nil)⟩
  | int h1 h2 => exact ⟨_, _, rfl, h2, .cons rfl (.cons rfl .nil)⟩
  | atom h1 h2 => exact ⟨_, _, rfl, h2, .cons rfl (.cons rfl .nil)⟩
  | comp h1 h2 h3 => exact ⟨_, _, rfl, h2, .cons rfl (.cons rfl (.cons rfl (rks_items h3)))⟩
theorem RiAt.dp {v : V} {i : RI} (h : RiAt K H0 H v i) : Dp K H v (riD i) := by
  cases i with
  | n i =>
    obtain rfl : v = .int i := h
    exact .int i
  | s z =>
    obtain rfl : v = .str z := h
    exact .str z
  | t t => exact RkAt.dp h
theorem RiAt.ex {H' : Hp} {v : V} {i : RI} (h : RiAt K H0 H v i) (e : Ex H H') : RiAt K H0 H' v i := by
  cases i with
  | n i => exact h
  | s z => exact h
  | t t => exact RkAt.ex h e
theorem ri_eqv {x y : RI} (h : x.same y = true) : PyData.eqv (riD x) (riD y) = decide (x.cmp y = 0) := by
  cases x <;> cases y <;> try (cases h)
  · rename_i i j
    show (i == j) = decide (intC i j = 0)
    by_cases e : i = j
    · rw [decide_eq_true (intC_0.mpr e), e, beq_self_eq_true]
    · rw [decide_eq_false (fun z => e (intC_0.mp z)), beq_eq_false_iff_ne.mpr e]
  · rename_i a b
    exact sC_beq a b
  · rename_i t u
    show PyData.eqv (rkD t) (rkD u) = decide (tord t u = 0)
    by_cases e : t = u
    · rw [decide_eq_true (by rw [e]; exact tord_ok.refl _), (rk_eqv t u).mpr e]
    · rw [decide_eq_false (fun z => e (tord_ok.eq _ _ z)), Bool.eq_false_iff.mpr fun z => e ((rk_eqv t u).mp z)]
end
section
variable {P : Program} {w : World} {K : PySem.W.Frag} {mg : Str → Option Value} {base : Heap}
/-- x < y of two ints, two texts -/
def rLtU : R2 := fun x y H Q => (∃ i j, x = .int i ∧ y = .int j ∧ Q (.bl (decide (i < j))) H) ∨ (∃ i j, x = .str i ∧ y = .str j ∧ Q (.bl (decide (i.cps.toList < j.cps.toList))) H)
theorem op_ltU {X : Cx} : OpR X (compareOp .Lt) rLtU := by
  intro pins s σ H x y v u Q I rx ry h
  rcases h with h | h
  · exact op_lt pins s σ H x y v u Q I rx ry h
  · exact op_lt_str pins s σ H x y v u Q I rx ry h
theorem intC_ltU {i j : Int} (h : i ≠ j) : decide (i < j) = decide (intC i j < 0) := by
  unfold intC
  rw [if_neg h]
  by_cases g : i < j
  · rw [if_pos g, decide_eq_true g]
    rfl
  · rw [if_neg g, decide_eq_false g]
    rfl
def spAhead (K : PySem.W.Frag) (n : Nat) : Sp := fun vs H Q _ => ∃ u v t s H0 H00, vs = [u, v] ∧ RkAt K H0 H u t ∧ RkAt K H00 H v s ∧ Ok t ∧ Ok s ∧ depth t ≤ n ∧ depth t ≤ 60 ∧ depth s ≤ 60 ∧ ∀ H', Ex H H' → Q (.bl (decide (tord t s < 0))) H'
theorem ri_shaped {t : Tm} (h : Ok t) (d : depth t ≤ 60) : ∀ x ∈ rkI t, SeqAt.shaped (riD x) = true ∧ ∀ u, x = .t u → Ok u ∧ depth u + 1 ≤ depth t := by
  intro x hx
  cases t with
  | var k =>
    rcases List.mem_cons.1 hx with e | e
    · subst e; exact ⟨rfl, fun u z => by cases z⟩
    · rw [List.mem_singleton.mp e]; exact ⟨rfl, fun u z => by cases z⟩
  | int k =>
    rcases List.mem_cons.1 hx with e | e
    · subst e; exact ⟨rfl, fun u z => by cases z⟩
    · rw [List.mem_singleton.mp e]; exact ⟨rfl, fun u z => by cases z⟩
  | atom k =>
    rcases List.mem_cons.1 hx with e | e
    · subst e; exact ⟨rfl, fun u z => by cases z⟩
    · rw [List.mem_singleton.mp e]
      refine ⟨?_, fun u z => by cases z⟩
      unfold Ok at h
      unfold SeqAt.shaped riD
      rw [strOk_of h]
      rfl
  | comp f as =>
    have hd := depth_eq (.comp f as)
    have hargs : (Tm.comp f as).args = as := rfl
    rw [hargs] at hd
    unfold Ok at h
    rcases List.mem_cons.1 hx with e | hx
    · subst e; exact ⟨rfl, fun u z => by cases z⟩
    rcases List.mem_cons.1 hx with e | hx
    · subst e; exact ⟨rfl, fun u z => by cases z⟩
    rcases List.mem_cons.1 hx with e | hx
    · subst e
      refine ⟨?_, fun u z => by cases z⟩
      unfold SeqAt.shaped riD
      rw [strOk_of h.1]
      rfl
    · obtain ⟨t, ht, rfl⟩ := List.mem_map.mp hx
      obtain ⟨i, hi⟩ := List.mem_iff_getElem?.mp ht
      have ho := oks_get h.2.2.2 hi
      have := depths_get hi
      refine ⟨rk_shaped ho (by omega), fun u z => ?_⟩
      cases z
      exact ⟨ho, by omega⟩
theorem drop_at {α : Type} {l : List α} {i : Nat} {x : α} (h : l[i]? = some x) : l.drop i = x :: l.drop (i + 1) := by
  obtain ⟨hi, e⟩ := List.getElem?_eq_some_iff.mp h
  rw [List.drop_eq_getElem_cons hi, e]
theorem ahead_step (T : Tx K mg) (n : Nat) (ih : FnOk P w K mg base CX0 (n + 1) T.f_law_ahead_by T.d_law_ahead_by ["_law_mine", "_law_its"] (spAhead K n)) :
    FnOk P w K mg base CX0 (n + 1 + 1) T.f_law_ahead_by T.d_law_ahead_by ["_law_mine", "_law_its"] (spAhead K (n + 1)) := by
  refine T.h_law_ahead_by.F.ok sc_law_ahead_by (fun vs H Q E h => ?_) (fun cdv A outer s H vs Q E hr h => ?_)
  · obtain ⟨v, t, _, _, _, _, rfl, _⟩ := h
    rfl
  obtain ⟨u, v, t, s', H0, H00, rfl, hA, hB, oA, oB, dn, dA, dB, q⟩ := h
  have hu := hr.units
  refine ⟨_, (pss_cons (ps_for PassesOwn.never rfl (pi_zipA rfl T.b_zip (pa_cons (pv 0) (pa_cons (pv 1) pa_nil))) (pg_tup rfl (pgs_cons (pg_name (i := 2) sc_law_ahead_by.nd rfl (Or.inl rfl)) (pgs_cons (pg_name (i := 3) sc_law_ahead_by.nd rfl (Or.inl rfl)) pgs_nil)))
      (pss_one (ps_if (pt_cmpR (op_neD hu) (pv 2) (pv 3) (nomark _))
      (pss_one (ps_ret (pe_ifExp (pt_val (pe_callB call_isi rfl T.b_isinstance (by decide +kernel) (pa_cons (pv 2) (pa_cons (pe_bltn (v := .ty "list") (u := .type "list") rfl T.b_list (by decide +kernel) rfl) pa_nil)))) (cl ih T.h_law_ahead_by hr (pa_cons (pv 2) (pa_cons (pv 3) pa_nil))) (pe_cmpR op_ltU (pv 2) (pv 3) (nomark _)))))
      pss_nil)))
    (pss_one (ps_ret pe_bl))), ?_⟩
  obtain ⟨la, xs, rfl, hL, hX⟩ := rk_items hA
  obtain ⟨lb, ys, rfl, hM, hY⟩ := rk_items hB
  have lx := hX.length
  have ly := hY.length
  refine ⟨_, rfl, _, rfl, la, lb, xs, ys, rfl, .inl ⟨SqL.of hL, SqL.of hM, for_it (walk_zip rfl) (fun i σ' H' => ∃ x2 x3, σ' = [some (.ref la), some (.ref lb), x2, x3] ∧ Ex H H' ∧ Ln ((rkI t).drop i) ((rkI s').drop i) ∧ lexC RI.cmp ((rkI t).drop i) ((rkI s').drop i) = tord t s') ⟨_, _, rfl, Ex.refl _, ln_rk t s', lex_rk t s'⟩ (fun i σ' H' _ ⟨_, _, _, e, _, _⟩ => ⟨SqL.of (e _ _ hL), SqL.of (e _ _ hM)⟩) ?_ ?_⟩⟩
  · rintro i x σ' H1 H2 hi ⟨x2, x3, rfl, e1, hln, hlx⟩ ⟨T', y, z, rfl, hT', rfl, hy, hz⟩
    obtain ⟨a, ha, rA⟩ := pairG_get (hX) hy
    obtain ⟨b, hb, rB⟩ := pairG_get (hY) hz
    have d1 : (rkI t).drop i = a :: (rkI t).drop (i + 1) := drop_at ha
    have d2 : (rkI s').drop i = b :: (rkI s').drop (i + 1) := drop_at hb
    rw [d1, d2] at hln hlx
    obtain ⟨sm, nx⟩ : a.same b = true ∧ (a.cmp b = 0 → Ln ((rkI t).drop (i + 1)) ((rkI s').drop (i + 1))) := by
      cases hln with
      | cons h1 h2 => exact ⟨h1, h2⟩
    rw [lexC_cons] at hlx
    have e2 := Ex.new (o := HO.tup [y, z]) hT'
    have eT := e1.trans e2
    have hT2 : (upd H1 T' (.tup [y, z])) T' = some (.tup [y, z]) := upd_same
    generalize upd H1 T' (.tup [y, z]) = H2 at *
    have rA2 := rA.ex eT
    have rB2 := rB.ex eT
    obtain ⟨sA, uA⟩ := ri_shaped oA dA a (List.mem_of_getElem? ha)
    obtain ⟨sB, uB⟩ := ri_shaped oB dB b (List.mem_of_getElem? hb)
    refine ⟨T', _, rfl, SqT.of hT2, rfl, y, _, rfl, z, _, rfl, rfl, _, rfl, _, rfl, _, _, rA2.dp, rB2.dp, sA, sB, _, rfl, ?_⟩
    rw [ri_eqv sm]
    by_cases c : a.cmp b = 0
    · rw [if_pos c] at hlx
      rw [decide_eq_true c]
      exact iteF ⟨_, _, rfl, eT, nx c, hlx⟩
    · rw [if_neg c] at hlx
      rw [decide_eq_false c]
      refine iteT ?_
      cases a with
      | n k =>
        cases b with
        | n j =>
          obtain rfl : y = .int k := rA
          obtain rfl : z = .int j := rB
          refine ⟨_, rfl, _, _, _, _, false, rfl, .ty "list", .base (.int k), kit_ty (a := "int") (by decide +kernel), false, rfl, iteF ⟨_, rfl, _, rfl, .inl ⟨k, j, rfl, rfl, ?_⟩⟩⟩
          rw [intC_ltU (fun e => c (intC_0.mpr e))]
          have hlx : intC k j = tord t s' := hlx
          rw [hlx]
          exact q _ eT
        | s _ => cases sm
        | t _ => cases sm
      | s k =>
        cases b with
        | s j =>
          obtain rfl : y = .str k := rA
          obtain rfl : z = .str j := rB
          refine ⟨_, rfl, _, _, _, _, false, rfl, .ty "list", .base (.str k), kit_ty (a := "str") (by decide +kernel), false, rfl, iteF ⟨_, rfl, _, rfl, .inr ⟨k, j, rfl, rfl, ?_⟩⟩⟩
          rw [sC_lt k j c]
          have hlx : sC k j = tord t s' := hlx
          rw [hlx]
          exact q _ eT
        | n _ => cases sm
        | t _ => cases sm
      | t k =>
        cases b with
        | t j =>
          have rA3 : RkAt K H0 H2 y k := rA2
          have rB3 : RkAt K H00 H2 z j := rB2
          obtain ⟨l3, us3, rfl, hl3, _⟩ := rk_items rA3
          obtain ⟨o1, dk⟩ := uA k rfl
          obtain ⟨o2, dj⟩ := uB j rfl
          refine ⟨_, rfl, _, _, _, _, true, rfl, .ty "list", .base (.lst hl3), kit_ty (a := "list") (by decide +kernel), true, rfl, iteT ⟨_, rfl, _, rfl, _, _, k, j, _, _, rfl, rA3, rB3, o1, o2, by omega, by omega, by omega, fun H3 e3 => ?_⟩⟩
          have hlx : tord k j = tord t s' := hlx
          rw [hlx]
          exact q _ (eT.trans e3)
        | n _ => cases sm
        | s _ => cases sm
  · rintro σ' H1 ⟨x2, x3, rfl, e1, hln, hlx⟩
    have h0 : tord t s' = 0 := by
      rw [← hlx]
      rcases Nat.le_total xs.length ys.length with l | l
      · rw [Nat.min_eq_left l, lx] at hln ⊢
        rw [List.drop_length] at hln ⊢
        rw [hln.nil_l]
        rfl
      · rw [Nat.min_eq_right l, ly] at hln ⊢
        rw [List.drop_length (l := rkI s')] at hln ⊢
        rw [hln.nil_r]
        rfl
    have hq := q H1 e1
    rw [h0] at hq
    exact hq
theorem ok_law_ahead_by (T : Tx K mg) : ∀ n : Nat, FnOk P w K mg base CX0 (n + 1) T.f_law_ahead_by T.d_law_ahead_by ["_law_mine", "_law_its"] (spAhead K n)
  | 0 => by
    have no : ∀ vs H Q E, ¬ spAhead K 0 vs H Q E := fun vs H Q E ⟨u, v, t, s, _, _, _, _, _, _, _, h, _⟩ => by
      have := depth_pos t
      omega
    exact ⟨fun vs H Q E h => absurd h (no vs H Q E), fun A outer s H args us vs Q E _ _ _ _ h => absurd h (no vs H Q E)⟩
  | n + 1 => ahead_step T n (ok_law_ahead_by T n)
end
end Hm

set_option Elab.async false
set_option linter.all false
set_option maxRecDepth 100000
set_option maxHeartbeats 1000000
namespace Hm
open PySem PySem.Spec PyProof.Rows L2 HT
open Evl (Ex)
open RZ SrtO
/-! ## sorted by insertion -/
theorem cut_from {xs : List V} {k : Nat} (h : k ≤ xs.length) : cutV xs (some ((k : Nat) : Int)) none = xs.drop k := by
  unfold cutV
  have e : HT.sIx xs.length 0 (some ((k : Nat) : Int)) = k := by
    rw [sIx_nat]
    omega
  rw [e]
  show (xs.drop k).take (xs.length - k) = _
  rw [List.take_of_length_le]
  rw [List.length_drop]
  omega
theorem split_at {α : Type} {lt : α → α → Bool} (O : Swo lt) (x : α) : ∀ {Z : List α}, Srtd lt Z → Z = Z.filter (fun o => !lt x o) ++ Z.filter fun o => lt x o
  | [], _ => rfl
  | z :: Z, h => by
    unfold Srtd at h
    rw [List.pairwise_cons] at h
    cases c : lt x z with
    | false =>
      rw [List.filter_cons_of_pos (by simp [c]), List.filter_cons_of_neg (by simp [c]), List.cons_append, ← split_at O x h.2]
    | true =>
      have all : ∀ o ∈ Z, lt x o = true := fun o ho => by
        cases d : lt x o with
        | true => rfl
        | false =>
          have := O.tr _ _ _ (h.1 o ho) d
          rw [c] at this
          cases this
      have e1 : Z.filter (fun o => !lt x o) = [] := List.filter_eq_nil_iff.mpr fun o ho => by rw [all o ho]; simp
      have e2 : Z.filter (fun o => lt x o) = Z := List.filter_eq_self.mpr all
      rw [List.filter_cons_of_neg (by simp [c]), List.filter_cons_of_pos (by simp [c]), e1, e2]
      rfl
theorem sortA_snoc {α : Type} {lt : α → α → Bool} (l : List α) (x : α) : sortA lt (l ++ [x]) = insA lt x (sortA lt l) := by
  unfold sortA
  rw [List.foldl_append]
  rfl
theorem sortA_len {α : Type} {lt : α → α → Bool} (O : Swo lt) (l : List α) : (sortA lt l).length = l.length := (sortA_stb O l).perm.length_eq
section
variable {P : Program} {w : World} {K : PySem.W.Frag} {mg : Str → Option Value} {base : Heap}
/-- a tuple that begins with a term -/
def W1At (K : PySem.W.Frag) (H : Hp) (v : V) (t : Tm) : Prop := ∃ a x ys, v = .ref a ∧ SqT K H a (x :: ys) ∧ Rep K H t x
theorem W1At.mono {H H' : Hp} {v : V} {t : Tm} (h : W1At K H v t) (m : Tups K H H') : W1At K H' v t := by
  obtain ⟨a, x, ys, e, h1, h2⟩ := h
  exact ⟨a, x, ys, e, m _ _ h1, h2.mono m⟩
def TmB (n : Nat) (t : Tm) : Prop := Ok t ∧ size t ≤ 1000 ∧ depth t ≤ n
def spPlaced (K : PySem.W.Frag) (n : Nat) : Sp := fun vs H Q _ => ∃ a xs ts, vs = [.ref a, .int 0] ∧ H a = some (.lst xs) ∧ PySem.Paired (fun v t => W1At K H v t) xs ts ∧ (∀ t ∈ ts, TmB n t) ∧ xs.length ≤ 1000 ∧
  ∀ p H', H p = none → Ex H H' → H' p = some (.lst ((sortA ltP (ts.zip xs)).map (·.2))) → Q (.ref p) H'
theorem ok_law_placed (T : Tx K mg) (n : Nat) (hn : n ≤ 60) : FnOk P w K mg base CX0 (n + 3) T.f_law_placed T.d_law_placed ["_law_some", "_law_spot"] (spPlaced K n) := by
  refine T.h_law_placed.F.ok sc_law_placed (fun vs H Q E h => ?_) (fun cdv A outer s H vs Q E hr h => ?_)
  · obtain ⟨a, xs, ts, rfl, _⟩ := h
    rfl
  obtain ⟨a, xs, ts, rfl, hS, hX, hB, hl, q⟩ := h
  have hu := hr.units
  refine ⟨_, (pss_cons (ps_set (i := 2) sc_law_placed.nd rfl (Or.inl rfl) (pe_lst pa_nil))
    (pss_cons (ps_for PassesOwn.never rfl (pi_list (pv 0)) (pg_name (i := 3) sc_law_placed.nd rfl (Or.inl rfl))
      (pss_cons (ps_set (i := 4) sc_law_placed.nd rfl (Or.inr rfl) (cl (ok_law_rank T n) T.h_law_rank hr (pa_cons (pe_ix ix_tup (pv 3) (pv 1) (fun _ _ => rfl)) pa_nil)))
    (pss_cons (ps_setLc (i := 5) (own := [("_law_other", 6)]) (g := gName 6) rfl sc_law_placed.nd rfl rfl (sw_true rfl rfl rfl (by decide +kernel)) (pi_list (pv 2)) (blkOk_by (own := [("_law_other", 6)]) (N := ["_law_some", "_law_spot", "_law_found", "_law_one_here", "_law_mine", "_law_ahead", "_law_other"]) (sc := defScope s_law_placed) (by decide +kernel)) (fun _ _ _ _ _ => pg_name (i := 6) sc_law_placed.nd rfl (Or.inl rfl)) (fun _ _ _ _ _ => pts_one (pt_not (pt_val (cl (ok_law_ahead_by T n) T.h_law_ahead_by hr (pa_cons (pv 4) (pa_cons (cl (ok_law_rank T n) T.h_law_rank hr (pa_cons (pe_ix (show IxR _ (rIxT K) from ix_tup) (pv 6) (pv 1) (fun _ _ => rfl)) pa_nil)) pa_nil)))))) (fun _ _ _ _ _ => (pv 6)))
    (pss_one (ps_set (i := 2) sc_law_placed.nd rfl (Or.inl rfl) (pe_op op_catL (pe_op op_catL (pv 5) (pe_lst (pa_cons (pv 3) pa_nil))) (pe_slice sl_list (pv 2) (po_some (pe_callB call_len_seq rfl T.b_len (by decide +kernel) (pa_cons (pv 5) pa_nil))) po_none)))))))
    (pss_one (ps_ret (pv 2))))), ?_⟩
  have lx := hX.length
  refine ⟨Nat.zero_le _, fun f0 hf0 => ?_⟩
  have e0 := Ex.new (o := HO.lst []) hf0
  have hF0 : (upd H f0 (.lst [])) f0 = some (.lst []) := upd_same
  generalize upd H f0 (.lst []) = H0 at *
  refine ⟨_, rfl, a, rfl, ⟨_, SqL.of (e0 _ _ hS)⟩, for_list (fun i σ' H' => ∃ f x3 x4 x5 x6, σ' = [some (.ref a), some (.int 0), some (.ref f), x3, x4, x5, x6] ∧ Ex H H' ∧ H f = none ∧ H' f = some (.lst ((sortA ltP ((ts.zip xs).take i)).map (·.2)))) ⟨f0, _, _, _, _, rfl, e0, hf0, hF0⟩ (fun i σ' H' _ ⟨_, _, _, _, _, _, e, _, _⟩ => SqL.of (e _ _ hS)) ?_ ?_⟩
  · rintro i x σ' H1 hx ⟨f, x3, x4, x5, x6, rfl, eH, fF, hF⟩
    have zmem : ∀ z ∈ ts.zip xs, W1At K H z.2 z.1 ∧ TmB n z.1 := fun z hz => by
      obtain ⟨j, hj⟩ := List.mem_iff_getElem?.mp hz
      obtain ⟨k1, k2⟩ := List.getElem?_zip_eq_some.mp hj
      obtain ⟨t', ht', hw'⟩ := pairG_get hX k2
      rw [k1] at ht'
      cases ht'
      exact ⟨hw', hB _ (List.mem_of_getElem? k1)⟩
    obtain ⟨t, ht, hw⟩ := pairG_get hX hx
    have hz : (ts.zip xs)[i]? = some (t, x) := List.getElem?_zip_eq_some.mpr ⟨ht, hx⟩
    have bT := hB t (List.mem_of_getElem? ht)
    have lz : (ts.zip xs).length = xs.length := by rw [List.length_zip]; omega
    have hi : i < xs.length := (List.getElem?_eq_some_iff.mp hx).1
    have eZ : sortA ltP ((ts.zip xs).take (i + 1)) = insA ltP (t, x) (sortA ltP ((ts.zip xs).take i)) := by rw [take_snocT hz, sortA_snoc]
    have sZ := sortA_srtd ltP_swo ((ts.zip xs).take i)
    have mZ : ∀ z ∈ sortA ltP ((ts.zip xs).take i), W1At K H z.2 z.1 ∧ TmB n z.1 := fun z hz => zmem z (List.mem_of_mem_take ((sortA_stb ltP_swo _).perm.mem_iff.mp hz))
    have lZ := sortA_len ltP_swo ((ts.zip xs).take i)
    rw [List.length_take] at lZ
    rw [eZ]
    generalize sortA ltP ((ts.zip xs).take i) = Z at *
    obtain ⟨a1, x1, ys1, rfl, hT, hR⟩ := hw.mono (.of eH)
    refine ⟨_, rfl, _, rfl, a1, _, 0, _, rfl, rfl, hT, at0, x1, t, rfl, hR, bT.1, bT.2.1, bT.2.2, fun u H2 e2 hU => ?_⟩
    have hF2 := e2 _ _ hF
    refine ⟨_, rfl, f, rfl, ⟨_, SqL.of hF2⟩, fun D hD => lc_it walk_list (fun j H' => Ex H2 H' ∧ H' D = some (.lst (((Z.take j).filter fun o => !ltP (t, V.ref a1) o).map (·.2)))) ⟨Ex.new hD, upd_same⟩ (fun j H' _ h => SqL.of (h.1 _ _ hF2)) ?_ ?_⟩
    · rintro j y H4 H5 hj ⟨e4, hD4⟩ ⟨rfl, hy⟩
      obtain ⟨⟨t2, y'⟩, hzj, rfl⟩ : ∃ z, Z[j]? = some z ∧ y = z.2 := by
        rw [List.getElem?_map] at hy
        cases z : Z[j]? with
        | none => rw [z] at hy; cases hy
        | some k => rw [z] at hy; exact ⟨k, rfl, (Option.some.inj hy).symm⟩
      obtain ⟨hw2, b2⟩ := mZ _ (List.mem_of_getElem? hzj)
      have e14 := eH.trans (e2.trans e4)
      obtain ⟨a2, x2, ys2, e2', hT2, hR2⟩ := hw2.mono (.of e14)
      dsimp only at e2' b2 hR2
      subst e2'
      refine ⟨rfl, _, rfl, _, rfl, _, rfl, a2, _, 0, _, rfl, rfl, hT2, at0, x2, t2, rfl, hR2, b2.1, b2.2.1, b2.2.2, fun u2 H6 e6 hU2 => ⟨u, u2, t, t2, _, _, rfl, hU.ex (e4.trans e6), hU2, bT.1, b2.1, bT.2.2, Nat.le_trans bT.2.2 hn, Nat.le_trans b2.2.2 hn, fun H7 e7 => ⟨_, rfl, ?_⟩⟩⟩
      have hD7 := (e6.trans e7) _ _ hD4
      have ht6 : (Z.take (j + 1)).filter (fun o => !ltP (t, V.ref a1) o) = (Z.take j).filter (fun o => !ltP (t, V.ref a1) o) ++ [((t2, V.ref a2) : Tm × V)].filter (fun o => !ltP (t, V.ref a1) o) := by rw [take_snocT hzj, List.filter_append]
      have el : ltP (t, V.ref a1) (t2, V.ref a2) = decide (tord t t2 < 0) := rfl
      cases c : decide (tord t t2 < 0) with
      | true =>
        refine iteF ⟨e4.trans (e6.trans e7), ?_⟩
        rw [ht6, List.filter_cons_of_neg (by rw [el, c]; decide), List.filter_nil, List.append_nil]
        exact hD7
      | false =>
        refine iteT ⟨_, rfl, _, hD7, ?_, Ex.mut (e4.trans (e6.trans e7)) hD, ?_⟩
        · rw [List.length_map]
          have := List.length_filter_le (fun o => !ltP (t, V.ref a1) o) (Z.take j)
          rw [List.length_take] at this
          exact small5' (by omega)
        · rw [upd_same, ht6, List.filter_cons_of_pos (by rw [el, c]; rfl), List.filter_nil, List.map_append]
          rfl
    · rintro H4 ⟨e4, hD4⟩
      rw [List.length_map, List.take_length] at hD4
      have hF4 := e4 _ _ hF2
      have fl := List.length_filter_le (fun o => !ltP (t, V.ref a1) o) Z
      have sp := split_at ltP_swo (t, V.ref a1) sZ
      have mp : (Z.filter (fun o => !ltP (t, V.ref a1) o)).map (·.2) ++ (Z.filter fun o => ltP (t, V.ref a1) o).map (·.2) = Z.map (·.2) := by rw [← List.map_append, ← sp]
      generalize hA : (Z.filter (fun o => !ltP (t, V.ref a1) o)).map (·.2) = A1 at *
      have lA : A1.length ≤ Z.length := by rw [← hA, List.length_map]; exact fl
      refine ⟨_, rfl, _, rfl, (by show 1 ≤ sizeLine; decide), fun l1 hl1 => ?_⟩
      have e5 := Ex.new (o := HO.lst [V.ref a1]) hl1
      refine ⟨D, l1, A1, _, rfl, rfl, SqL.of (e5 _ _ hD4), upd_same, small5 (by show A1.length + 1 ≤ _; omega), fun l2 hl2 => ?_⟩
      have e6 := Ex.new (o := HO.lst (A1 ++ [V.ref a1])) hl2
      have hl6 : (upd (upd H4 l1 (.lst [V.ref a1])) l2 (.lst (A1 ++ [V.ref a1]))) l2 = some (.lst (A1 ++ [V.ref a1])) := upd_same
      have e46 := e5.trans e6
      generalize upd (upd H4 l1 (.lst [V.ref a1])) l2 (.lst (A1 ++ [V.ref a1])) = H6 at *
      refine ⟨_, rfl, _, rfl, D, A1, rfl, .inl (SqL.of (e46 _ _ hD4)), _, rfl, f, _, rfl, SqL.of (e46 _ _ hF4), fun l3 hl3 => ?_⟩
      rw [cut_from (by rw [← mp, List.length_append]; omega), ← mp, List.drop_left]
      have e7 := Ex.new (o := HO.lst ((Z.filter fun o => ltP (t, V.ref a1) o).map (·.2))) hl3
      have fl2 := List.length_filter_le (fun o => ltP (t, V.ref a1) o) Z
      refine ⟨l2, l3, _, _, rfl, rfl, SqL.of (e7 _ _ hl6), upd_same, small5 (by rw [List.length_append, List.length_singleton, List.length_map]; omega), fun l4 hl4 => ?_⟩
      have eA := eH.trans (e2.trans (e4.trans (e46.trans e7)))
      refine ⟨l4, _, _, _, _, rfl, eA.trans (Ex.new hl4), ex_none eA hl4, ?_⟩
      rw [upd_same, ← hA]
      unfold insA
      rw [List.map_append, List.map_append]
      rfl
  · rintro σ' H1 ⟨f, x3, x4, x5, x6, rfl, eH, fF, hF⟩
    have lz : (ts.zip xs).length = xs.length := by rw [List.length_zip]; omega
    rw [← lz, List.take_length] at hF
    exact ⟨_, rfl, q f H1 fF eH hF⟩
end
end Hm

set_option Elab.async false
set_option linter.all false
set_option maxRecDepth 100000
set_option maxHeartbeats 1000000
namespace Hm
open PySem PySem.Spec PyProof.Rows L2 HT
open Evl (Ex)
open RZ SrtO
/-! ## groups, one after another -/
/-- is a pair's witness a variant -/
def vrB (w : Tm) (q : Tm × Tm) : Bool := decide (tord (renum q.1) (renum w) = 0)
def vrS (w : Tm) (q : Tm × Tm) : Tm := sub (rnm w q.1) q.2
theorem vrB_iff {w : Tm} {q : Tm × Tm} : (tord (renum w) (renum q.1) = 0) ↔ vrB w q = true := by
  unfold vrB
  rw [decide_eq_true_iff]
  constructor
  · intro h
    rw [tord_ok.eq _ _ h]
    exact tord_ok.refl _
  · intro h
    rw [tord_ok.eq _ _ h]
    exact tord_ok.refl _
theorem addG_fold : ∀ (qs : List (Tm × Tm)) (w : Tm) (ss : List Tm) (gs : List (Tm × List Tm)), qs.foldl addG ((w, ss) :: gs) = (w, ss ++ (qs.filter (vrB w)).map (vrS w)) :: (qs.filter fun q => !vrB w q).foldl addG gs
  | [], w, ss, gs => by simp
  | q :: qs, w, ss, gs => by
    rw [List.foldl_cons]
    show qs.foldl addG (if tord (renum w) (renum q.1) = 0 then (w, ss ++ [sub (rnm w q.1) q.2]) :: gs else (w, ss) :: addG gs q) = _
    by_cases c : vrB w q = true
    · rw [if_pos (vrB_iff.mpr c), addG_fold qs, List.filter_cons_of_pos c, List.filter_cons_of_neg (by rw [c]; decide), List.map_cons, List.append_assoc]
      rfl
    · rw [if_neg (fun z => c (vrB_iff.mp z)), addG_fold qs, List.filter_cons_of_neg c, List.filter_cons_of_pos (by rw [Bool.eq_false_iff.mpr c]; rfl), List.foldl_cons]
theorem grp_cons (p : Tm × Tm) (ps : List (Tm × Tm)) : (p :: ps).foldl addG [] = (p.1, ((p :: ps).filter (vrB p.1)).map (vrS p.1)) :: ((p :: ps).filter fun q => !vrB p.1 q).foldl addG [] := by
  have c : vrB p.1 p = true := vrB_iff.mp (tord_ok.refl _)
  rw [List.foldl_cons]
  show ps.foldl addG [(p.1, [sub (rnm p.1 p.1) p.2])] = _
  rw [addG_fold, List.filter_cons_of_pos c, List.filter_cons_of_neg (by rw [c]; decide), List.map_cons]
  rfl
theorem grp_less (p : Tm × Tm) (ps : List (Tm × Tm)) : ((p :: ps).filter fun q => !vrB p.1 q).length ≤ ps.length := by
  have c : vrB p.1 p = true := vrB_iff.mp (tord_ok.refl _)
  rw [List.filter_cons_of_neg (by rw [c]; decide)]
  exact List.length_filter_le _ _
/-- a group's solutions as they are told -/
def FinW (z : Str) (ss : List Tm) : List Tm := if z = Str.ofString "bagof" then ss else onceT none (sortT ss)
theorem fin_all (z : Str) (gs : List (Tm × List Tm)) : (if z = Str.ofString "bagof" then gs else gs.map fun g => (g.1, onceT none (sortT g.2))) = gs.map fun g => (g.1, FinW z g.2) := by
  unfold FinW
  by_cases e : z = Str.ofString "bagof"
  · rw [if_pos e]
    simp [e]
  · rw [if_neg e]
    simp [e]
/-- is a term told: the first, or unlike the one before -/
def onceB (ts : List Tm) (k : Nat) (t : Tm) : Bool := match k with
  | 0 => true
  | j + 1 => match ts[j]? with
    | some s => !decide (tord s t = 0)
    | none => true
theorem once_snoc {ts : List Tm} {k : Nat} {t : Tm} (h : ts[k]? = some t) : onceT none (ts.take (k + 1)) = onceT none (ts.take k) ++ if onceB ts k t then [t] else [] := by
  rw [take_snocT h, onceT_snoc, Option.or_none]
  congr 1
  cases k with
  | zero => rfl
  | succ j =>
    have hj : j < ts.length := by
      have := (List.getElem?_eq_some_iff.mp h).1
      omega
    have hs : ts[j]? = some ts[j] := List.getElem?_eq_getElem hj
    have e : (ts.take (j + 1)).getLast? = some ts[j] := by rw [take_snocT hs, List.getLast?_append]; rfl
    have eo : onceB ts (j + 1) t = !decide (tord ts[j] t = 0) := by
      show (match ts[j]? with
        | some s => !decide (tord s t = 0)
        | none => true) = _
      rw [hs]
    rw [e, eo]
    dsimp only
    have sw : tord t ts[j] = 0 ↔ tord ts[j] t = 0 := by
      have := tord_ok.anti t ts[j]
      omega
    by_cases c : tord t ts[j] = 0
    · rw [if_pos c, decide_eq_true (sw.mp c)]
      rfl
    · rw [if_neg c, decide_eq_false fun z => c (sw.mpr z)]
      rfl
theorem zip_fst {α β : Type} : ∀ {a : List α} {b : List β}, a.length = b.length → (a.zip b).map Prod.fst = a
  | [], _, _ => rfl
  | x :: a, [], h => by cases h
  | x :: a, y :: b, h => by
    rw [List.zip_cons_cons, List.map_cons, zip_fst (by simpa using h)]
theorem sort_fst (ts : List Tm) (xs : List V) (h : xs.length = ts.length) : (sortA ltP (ts.zip xs)).map Prod.fst = sortT ts := by
  have e := sortA_map ltT_swo (Prod.fst : Tm × V → Tm) (ts.zip xs) (Z := sortT ((ts.zip xs).map Prod.fst)) (sortA_srtd ltT_swo _) (sortA_stb ltT_swo _)
  rw [zip_fst h.symm] at e
  exact e.symm
/-! ## shapes -/
def rngI (n : Nat) : List Int := (List.range n).map fun i => ((i : Nat) : Int)
theorem rngI_len (n : Nat) : (rngI n).length = n := by unfold rngI; rw [List.length_map, List.length_range]
theorem put_rg {xs : List Int} (nd : xs.Nodup) : putG xs (rngI xs.length) = rg xs := by
  funext k
  by_cases m : k ∈ xs
  · obtain ⟨i, j, h1, h2, h3, h4⟩ := put_at (ks := xs) (js := rngI xs.length) (k := k) (by rw [rngI_len]; exact Nat.le_refl _) m
    rw [h4]
    unfold rg
    rw [if_pos m, idx_at nd h1]
    have hi := (List.getElem?_eq_some_iff.mp h1).1
    unfold rngI at h2
    rw [List.getElem?_map, List.getElem?_range hi] at h2
    rw [← Option.some.inj h2]
  · rw [put_not m]
    unfold rg
    rw [if_neg m]
theorem put_renum (t : Tm) : sub (putG (varsOf t) (rngI (varsOf t).length)) t = renum t := by
  rw [put_rg (varsOf_nodup t)]
  rfl
/-! ## as data -/
def prD (p : Tm × Tm) : PyData := .tuple [toD p.1, toD p.2]
section
variable {K : PySem.W.Frag} {H : Hp}
theorem dp_pairs : ∀ {xs : List V} {ps : List (Tm × Tm)}, PySem.Paired (fun x p => P2At K H p x) xs ps → DpAll K H xs (ps.map prD)
  | _, _, .nil => .nil
  | _, _, .cons ⟨a, x, y, e, h, r1, r2⟩ t => by
    subst e
    exact .cons (.tup h (.cons (dp_rep r1) (.cons (dp_rep r2) .nil))) (dp_pairs t)
theorem shaped_pairs : ∀ {ps : List (Tm × Tm)}, (∀ p ∈ ps, TmB 4 p.1 ∧ TmB 4 p.2) → PyData.canLayAll0 (ps.map prD) = true ∧ PyData.depthAll (ps.map prD) ≤ 5
  | [], _ => ⟨rfl, Nat.zero_le _⟩
  | p :: ps, h => by
    obtain ⟨h1, h2⟩ := shaped_pairs (ps := ps) fun q hq => h q (List.mem_cons_of_mem _ hq)
    obtain ⟨⟨o1, _, d1⟩, o2, _, d2⟩ := h p List.mem_cons_self
    constructor
    · show ((prD p).canLay0 && PyData.canLayAll0 (ps.map prD)) = true
      rw [h1, Bool.and_true]
      show ((toD p.1).canLay0 && ((toD p.2).canLay0 && true)) = true
      rw [lay_tm o1, lay_tm o2]
      rfl
    · show max (prD p).depth (PyData.depthAll (ps.map prD)) ≤ 5
      have e1 := dep_tm p.1
      have e2 := dep_tm p.2
      have : (prD p).depth = max (toD p.1).depth (max (toD p.2).depth 0) + 1 := rfl
      omega
theorem shaped_plist {ps : List (Tm × Tm)} (h : ∀ p ∈ ps, TmB 4 p.1 ∧ TmB 4 p.2) : SeqAt.shaped (.list (ps.map prD)) = true := by
  obtain ⟨h1, h2⟩ := shaped_pairs h
  show (PyData.canLayAll0 (ps.map prD) && decide (PyData.depthAll (ps.map prD) + 1 ≤ 64)) = true
  rw [h1, decide_eq_true (by omega)]
  rfl
/-- a tuple of one term -/
def M1At (K : PySem.W.Frag) (H : Hp) (v : V) (t : Tm) : Prop := ∃ a x, v = .ref a ∧ SqT K H a [x] ∧ Rep K H t x
theorem M1At.mono {H' : Hp} {v : V} {t : Tm} (h : M1At K H v t) (m : Tups K H H') : M1At K H' v t := by
  obtain ⟨a, x, e, h1, h2⟩ := h
  exact ⟨a, x, e, m _ _ h1, h2.mono m⟩
theorem m1_w1 {xs : List V} {ts : List Tm} (h : PySem.Paired (M1At K H) xs ts) : PySem.Paired (W1At K H) xs ts := Paired.mapP h fun _ _ ⟨a, x, e, h1, h2⟩ => ⟨a, x, [], e, h1, h2⟩
theorem m1_dp {v : V} {t : Tm} (h : M1At K H v t) : Dp K H v (.tuple [toD t]) := by
  obtain ⟨a, x, rfl, h1, h2⟩ := h
  exact .tup h1 (.cons (dp_rep h2) .nil)
theorem m1_shaped {t : Tm} (o : Ok t) (d : depth t ≤ 60) : SeqAt.shaped (.tuple [toD t]) = true := by
  have := dep_tm t
  have e : (PyData.tuple [toD t]).depth = max (toD t).depth 0 + 1 := rfl
  unfold SeqAt.shaped
  rw [decide_eq_true (by omega), Bool.and_true]
  show ((toD t).canLay0 && true) = true
  rw [lay_tm o]
  rfl
theorem m1_eqv (s t : Tm) : PyData.eqv (.tuple [toD s]) (.tuple [toD t]) = decide (tord s t = 0) := by
  show (PyData.eqv (toD s) (toD t) && true) = _
  rw [eqv_toD, Bool.and_true]
end
theorem tmb_sub {n : Nat} {f w t : Tm} (hf : Ok f) (ht : TmB n t) : TmB n (sub (rnm f w) t) := by
  refine ⟨ok_rnm hf ht.1, by rw [size_rnm]; exact ht.2.1, ?_⟩
  rw [rnm_put, putG_vg, depth_vg]
  exact ht.2.2
theorem paired_sort {R : V → Tm → Prop} (lt : Tm × V → Tm × V → Bool) (O : Swo lt) {xs : List V} {ts : List Tm} (h : PySem.Paired R xs ts) : PySem.Paired R ((sortA lt (ts.zip xs)).map Prod.snd) ((sortA lt (ts.zip xs)).map Prod.fst) := by
  have all : ∀ z ∈ sortA lt (ts.zip xs), R z.2 z.1 := fun z hz => by
    have hz := (sortA_stb O _).perm.mem_iff.mp hz
    obtain ⟨j, hj⟩ := List.mem_iff_getElem?.mp hz
    obtain ⟨k1, k2⟩ := List.getElem?_zip_eq_some.mp hj
    obtain ⟨t', ht', hw'⟩ := pairG_get h k2
    rw [k1] at ht'
    cases ht'
    exact hw'
  generalize sortA lt (ts.zip xs) = Z at *
  induction Z with
  | nil => exact .nil
  | cons z Z ih => exact .cons (all z List.mem_cons_self) (ih fun q hq => all q (List.mem_cons_of_mem _ hq))
end Hm

set_option Elab.async false
set_option linter.all false
set_option maxRecDepth 100000
set_option maxHeartbeats 4000000
namespace Hm
open PySem PySem.Spec PyProof.Rows L2 HT
open Evl (Ex)
open RZ SrtO
section
variable {P : Program} {w : World} {K : PySem.W.Frag} {mg : Str → Option Value} {base : Heap}
theorem p2_w1 {H : Hp} : ∀ {xs : List V} {ps : List (Tm × Tm)}, PySem.Paired (fun x p => P2At K H p x) xs ps → PySem.Paired (fun v t => W1At K H v t) xs (ps.map Prod.fst)
  | _, _, .nil => .nil
  | _, _, .cons ⟨a, x, y, e, h, r1, r2⟩ t => .cons ⟨a, x, [y], e, h, r1⟩ (p2_w1 t)
theorem rgV_eq (n : Nat) : rgV 0 (n : Int) = (rngI n).map V.int := by
  unfold rgV rngI
  rw [List.map_map]
  have : ((n : Int) - 0).toNat = n := by omega
  rw [this]
  exact List.map_congr_left fun i _ => by show V.int (0 + (i : Int)) = V.int (i : Int); rw [Int.zero_add]
def spGroups (K : PySem.W.Frag) : Sp := fun vs H Q _ => ∃ z a xs ps, vs = [.str z, .ref a] ∧ (z = Str.ofString "bagof" ∨ z = Str.ofString "setof") ∧ H a = some (.lst xs) ∧ PySem.Paired (fun x p => P2At K H p x) xs ps ∧ (∀ p ∈ ps, TmB 4 p.1 ∧ TmB 4 p.2) ∧ xs.length ≤ 30 ∧
  ∀ p gv H', H p = none → Ex H H' → H' p = some (.lst gv) → PySem.Paired (fun x g => GrAt K H p H' g x) gv ((gsOf (sortW ps)).map fun g => (g.1, FinW z g.2)) → Q (.ref p) H'
theorem ok_law_groups (T : Tx K mg) : FnOk P w K mg base CX0 8 T.f_law_groups T.d_law_groups ["_law_word", "_law_some"] (spGroups K) := by
  refine T.h_law_groups.F.ok sc_law_groups (fun vs H Q E h => ?_) (fun cdv A outer s H vs Q E hr h => ?_)
  · obtain ⟨z, a, xs, ts, rfl, _⟩ := h
    rfl
  obtain ⟨z, a, xs, ps, rfl, hz, hS, hP, hB, hl, q⟩ := h
  have hu := hr.units
  refine ⟨_, (pss_cons (ps_par (i := 2) (j := 3) rfl sc_law_groups.nd rfl rfl (by decide) rfl rfl (pa_cons (cl (ok_law_placed T 4 (by decide)) T.h_law_placed hr (pa_cons (pv 1) (pa_cons pe_int pa_nil))) (pa_cons (pe_lst pa_nil) pa_nil)) rfl)
    (pss_cons (ps_for PassesOwn.never rfl (pi_range1 rfl T.b_range (pa_cons (pe_callB call_len_seq rfl T.b_len (by decide +kernel) (pa_cons (pv 1) pa_nil)) pa_nil)) (pg_name (i := 4) sc_law_groups.nd rfl (Or.inl rfl))
      (pss_one (ps_if (pt_cmpR (op_neD hu) (pv 2) (pe_lst pa_nil) (nomark _))
      (pss_cons (ps_asg (pe_tup (pa_cons (pe_ix ix_tup (pe_ix ix_list (pv 2) pe_int (fun _ _ => rfl)) pe_int (fun _ _ => rfl)) (pa_cons (pe_lst pa_nil) (pa_cons (pe_lst pa_nil) pa_nil)))) (pg_tup rfl (pgs_cons (pg_name (i := 5) sc_law_groups.nd rfl (Or.inl rfl)) (pgs_cons (pg_name (i := 6) sc_law_groups.nd rfl (Or.inr rfl)) (pgs_cons (pg_name (i := 7) sc_law_groups.nd rfl (Or.inl rfl)) pgs_nil)))))
    (pss_cons (ps_set (i := 8) sc_law_groups.nd rfl (Or.inl rfl) (cl (ok_numsL T 4) T.h_law_numbers hr (pa_cons (pe_lst (pa_cons (pv 5) pa_nil)) pa_nil)))
    (pss_cons (ps_set (i := 9) sc_law_groups.nd rfl (Or.inl rfl) (cl (ok_law_put T 4) T.h_law_put hr (pa_cons (pv 5) (pa_cons (pv 8) (pa_cons (pe_listRg rfl rfl T.b_list (prg_1 rfl T.b_range (pe_callB call_len_seq rfl T.b_len (by decide +kernel) (pa_cons (pv 8) pa_nil)))) pa_nil)))))
    (pss_cons (ps_for PassesOwn.never rfl (pi_list (pv 2)) (pg_tup rfl (pgs_cons (pg_name (i := 10) sc_law_groups.nd rfl (Or.inl rfl)) (pgs_cons (pg_name (i := 11) sc_law_groups.nd rfl (Or.inl rfl)) pgs_nil)))
      (pss_cons (ps_set (i := 12) sc_law_groups.nd rfl (Or.inl rfl) (cl (ok_numsL T 4) T.h_law_numbers hr (pa_cons (pe_lst (pa_cons (pv 10) pa_nil)) pa_nil)))
    (pss_one (ps_if (pt_cmpR (op_eqD hu) (cl (ok_law_put T 4) T.h_law_put hr (pa_cons (pv 10) (pa_cons (pv 12) (pa_cons (pe_listRg rfl rfl T.b_list (prg_1 rfl T.b_range (pe_callB call_len_seq rfl T.b_len (by decide +kernel) (pa_cons (pv 12) pa_nil)))) pa_nil)))) (pv 9) (nomark _))
      (pss_one (ps_expr (pe_bm PySem.F.plainAttrs_list PySem.F.slot_list_append PySem.F.type_list_append mt_append (pv 6) (pa_cons (pe_tup (pa_cons (cl (ok_law_put T 4) T.h_law_put hr (pa_cons (pv 11) (pa_cons (pv 12) (pa_cons (pv 8) pa_nil)))) pa_nil)) pa_nil))))
      (pss_one (ps_expr (pe_bm PySem.F.plainAttrs_list PySem.F.slot_list_append PySem.F.type_list_append mt_append (pv 7) (pa_cons (pe_tup (pa_cons (pv 10) (pa_cons (pv 11) pa_nil))) pa_nil))))))))
    (pss_cons (ps_set (i := 2) sc_law_groups.nd rfl (Or.inl rfl) (pv 7))
    (Evl.pss_cut (ps_if (pt_cmpR op_eq (pv 0) pe_str (nomark _))
      (pss_cons (ps_set (i := 6) sc_law_groups.nd rfl (Or.inr rfl) (cl (ok_law_placed T 4 (by decide)) T.h_law_placed hr (pa_cons (pv 6) (pa_cons pe_int pa_nil))))
    (pss_one (ps_set (i := 6) sc_law_groups.nd rfl (Or.inr rfl) (pe_lc (own := [("_law_k", 13), ("_law_one_here", 14)]) (g := gTup K 2 (gCons (gName 13) (gCons (gName 14) gNil))) rfl sc_law_groups.nd (pi_enum rfl T.b_enumerate (pa_cons (pv 6) pa_nil)) (blkOk_by (own := [("_law_k", 13), ("_law_one_here", 14)]) (N := ["_law_word", "_law_some", "_law_left", "_law_found", "_law_turn", "_law_witness", "_law_mine", "_law_rest", "_law_numbers_here", "_law_shape", "_law_own", "_law_solution", "_law_its", "_law_k", "_law_one_here"]) (sc := defScope s_law_groups) (by decide +kernel)) (fun _ _ _ _ _ => pg_tup rfl (pgs_cons (pg_name (i := 13) sc_law_groups.nd rfl (Or.inl rfl)) (pgs_cons (pg_name (i := 14) sc_law_groups.nd rfl (Or.inl rfl)) pgs_nil))) (fun _ _ _ _ _ => pts_one (PW.pt (pw_or (pt_cmpR op_eq (pv 13) pe_int (nomark _)) (pw_or1 (pt_cmpR (show OpR _ (compareOp .NotEq) (rNeD K) from op_neD hu) (pe_ix (show IxR _ (rIxL K) from ix_list) (pv 6) (pe_op op_sub (pv 13) pe_int) (fun _ _ => rfl)) (pv 14) (nomark _)))))) (fun _ _ _ _ _ => (pv 14))))))
      pss_nil)
    (pss_one (ps_expr (pe_bm PySem.F.plainAttrs_list PySem.F.slot_list_append PySem.F.type_list_append mt_append (pv 3) (pa_cons (pe_tup (pa_cons (pv 5) (pa_cons (pe_lc (own := [("_law_one_here", 14)]) (g := gName 14) rfl sc_law_groups.nd (pi_list (pv 6)) (blkOk_by (own := [("_law_one_here", 14)]) (N := ["_law_word", "_law_some", "_law_left", "_law_found", "_law_turn", "_law_witness", "_law_mine", "_law_rest", "_law_numbers_here", "_law_shape", "_law_own", "_law_solution", "_law_its", "_law_k", "_law_one_here"]) (sc := defScope s_law_groups) (by decide +kernel)) (fun _ _ _ _ _ => pg_name (i := 14) sc_law_groups.nd rfl (Or.inl rfl)) (fun _ _ _ _ _ => pts_nil) (fun _ _ _ _ _ => (pe_ix (show IxR _ (rIxT K) from ix_tup) (pv 14) pe_int (fun _ _ => rfl)))) pa_nil))) pa_nil))))))))))
      pss_nil)))
    (pss_one (ps_ret (pv 3))))), ?_⟩
  have hW1 : PySem.Paired (fun v t => W1At K H v t) xs (ps.map Prod.fst) := p2_w1 hP
  have lP := hP.length
  refine ⟨_, rfl, a, xs, ps.map Prod.fst, rfl, hS, hW1, fun t ht => ?_, by omega, fun p1 H1 hp1 e1 hL1 => ⟨Nat.zero_le _, fun f hf => ?_⟩⟩
  · obtain ⟨p, hp, rfl⟩ := List.mem_map.mp ht
    exact (hB p hp).1
  have hQ1 := zs_is (p2_mono (Tups.of e1) hP) (sortA_srtd ltP_swo ((ps.map Prod.fst).zip xs)) (sortA_stb ltP_swo ((ps.map Prod.fst).zip xs))
  have pmq := (sortA_stb (lt := fun p q : Tm × Tm => decide (tord p.1 q.1 < 0)) ⟨fun a b => ltT_swo.asym _ _, fun a b c => ltT_swo.tr _ _ _⟩ ps).perm
  have hBq : ∀ p ∈ sortW ps, TmB 4 p.1 ∧ TmB 4 p.2 := fun p hp => hB p (pmq.mem_iff.mp hp)
  have lq : (sortW ps).length = ps.length := pmq.length_eq
  generalize (sortA ltP ((ps.map Prod.fst).zip xs)).map (·.2) = zs1 at *
  generalize sortW ps = qs at *
  have eH1 : Ex H1 (upd H1 f (.lst [])) := Ex.new hf
  have hF1 : (upd H1 f (.lst [])) f = some (.lst []) := upd_same
  have fF : H f = none := ex_none e1 hf
  have hL2 := eH1 _ _ hL1
  have e02 := e1.trans eH1
  have hQ2 := p2_mono (K := K) (.of eH1) hQ1
  generalize upd H1 f (.lst []) = H2 at *
  refine ⟨_, _, rfl, _, rfl, a, _, rfl, .inl (SqL.of (e02 _ _ hS)), (xs.length : Int), rfl, by omega, by omega, for_it walk_range (fun i σ' H' => ∃ Lf lv qsl gd gv c4 c5 c6 c7 c8 c9 c10 c11 c12 c13 c14, σ' = [some (.str z), some (.ref a), some (.ref Lf), some (.ref f), c4, c5, c6, c7, c8, c9, c10, c11, c12, c13, c14] ∧ Ex H H' ∧ H' Lf = some (.lst lv) ∧ PySem.Paired (fun x p => P2At K H' p x) lv qsl ∧ (∀ p ∈ qsl, TmB 4 p.1 ∧ TmB 4 p.2) ∧ qsl.length + i ≤ xs.length ∧ Lf ≠ f ∧ H' f = some (.lst gv) ∧ PySem.Paired (fun x g => GrAt K H f H' g x) gv (gd.map fun g => (g.1, FinW z g.2)) ∧ gd ++ qsl.foldl addG [] = gsOf qs ∧ gv.length ≤ i) ⟨p1, zs1, qs, [], [], _, _, _, _, _, _, _, _, _, _, _, rfl, e02, hL2, hQ2, hBq, by omega, (ne_of_none hL1 hf), hF1, .nil, rfl, Nat.le_refl _⟩ (fun _ _ _ _ _ => trivial) ?_ ?_⟩
  · rintro i x σ' H3x H3 hi ⟨Lf, lv, qsl, gd, gv, c4, c5, c6, c7, c8, c9, c10, c11, c12, c13, c14, rfl, eH, hLf, hPl, hBl, hn, nLf, hF, hG, hT, hgl⟩ ⟨rfl, rfl⟩
    have hi' : i < xs.length := by have : i < ((xs.length : Int)).toNat := hi; omega
    refine ⟨_, rfl, Nat.zero_le _, fun le hle => ?_⟩
    have e4 := Ex.new (o := HO.lst []) hle
    refine ⟨_, _, .lst (SqL.of (e4 _ _ hLf)) (dp_pairs (p2_mono (.of e4) hPl)), .lst (SqL.of upd_same) .nil, shaped_plist hBl, rfl, _, rfl, ?_⟩
    have eH4 := eH.trans e4
    have hLf4 := e4 _ _ hLf
    have hPl4 := p2_mono (K := K) (.of e4) hPl
    have hF4 := e4 _ _ hF
    have hG4 : PySem.Paired (fun x g => GrAt K H f (upd H3 le (.lst [])) g x) gv (gd.map fun g => (g.1, FinW z g.2)) := Paired.mapP hG fun x g h => h.mv (.of e4) fun l ys _ _ q => e4 _ _ q
    generalize upd H3 le (.lst []) = H4 at *
    cases qsl with
    | nil =>
      refine iteF ⟨Lf, lv, [], gd, gv, _, _, _, _, _, _, _, _, _, _, _, rfl, eH4, hLf4, hPl4, hBl, by show 0 + (i + 1) ≤ _; omega, nLf, hF4, hG4, hT, by omega⟩
    | cons p0 qr =>
      obtain ⟨v0, lr, rfl, hp0, hpr⟩ : ∃ v0 lr, lv = v0 :: lr ∧ P2At K H4 p0 v0 ∧ PySem.Paired (fun x p => P2At K H4 p x) lr qr := by
        cases hPl4 with
        | cons h t => exact ⟨_, _, rfl, h, t⟩
      obtain ⟨⟨ow, zw, dw⟩, os0, zs0, ds0⟩ := hBl p0 List.mem_cons_self
      obtain ⟨pa, wx, sx, rfl, hTa, rw1, rw2⟩ := hp0
      refine iteT ⟨_, rfl, Lf, _, 0, _, rfl, rfl, SqL.of hLf4, at0, pa, _, 0, _, rfl, rfl, hTa, at0, Nat.zero_le _, fun m hm => ⟨Nat.zero_le _, fun r hr => ⟨(by show 3 ≤ sizeLine; decide), fun tp htp => ?_⟩⟩⟩
      have e5 := Ex.new (o := HO.lst []) hm
      have hm5 : (upd H4 m (.lst [])) m = some (.lst []) := upd_same
      have e6 := Ex.new (o := HO.lst []) hr
      have hr6 : (upd (upd H4 m (.lst [])) r (.lst [])) r = some (.lst []) := upd_same
      have nmr : m ≠ r := ne_of_none hm5 hr
      have hm6 := e6 _ _ hm5
      have e7 := Ex.new (o := HO.tup [wx, .ref m, .ref r]) htp
      have ht7 : (upd (upd (upd H4 m (.lst [])) r (.lst [])) tp (.tup [wx, .ref m, .ref r])) tp = some (.tup [wx, .ref m, .ref r]) := upd_same
      have e47 := e5.trans (e6.trans e7)
      have hm7 := e7 _ _ hm6
      have hr7 := e7 _ _ hr6
      have fr : H4 r = none := ex_none e5 hr
      generalize upd (upd (upd H4 m (.lst [])) r (.lst [])) tp (.tup [wx, .ref m, .ref r]) = H7 at *
      have rw7 := rw1.mono (.of e47)
      refine ⟨tp, _, rfl, SqT.of ht7, rfl, wx, _, rfl, .ref m, _, rfl, .ref r, _, rfl, rfl, ?_⟩
      refine ⟨_, rfl, (by show 1 ≤ sizeLine; decide), fun l1 hl1 => ?_⟩
      have e8 := Ex.new (o := HO.lst [wx]) hl1
      refine ⟨l1, [wx], [p0.1], rfl, upd_same, Reps.one (rw7.mono (.of e8)), by rw [oks_cons]; exact ⟨ow, trivial⟩, by rw [depths_cons]; show max (depth p0.1) 0 < 4 + 1; omega, by rw [sizes_one]; omega, fun nh H9 hnh e9 hN9 => ?_⟩
      rw [numsT_one] at hN9
      have e79 := e8.trans e9
      have vl := varsOf_len p0.1
      refine ⟨_, rfl, _, rfl, _, rfl, nh, _, rfl, .inl (SqL.of hN9), _, rfl, RgOk.of_le (Int.le_refl _) (by rw [List.length_map]; omega) (by decide) (by omega), fun rq hrq => ?_⟩
      rw [rgV_eq, List.length_map]
      have e10 := Ex.new (o := HO.lst ((rngI (varsOf p0.1).length).map V.int)) hrq
      refine ⟨wx, p0.1, nh, rq, varsOf p0.1, rngI (varsOf p0.1).length, rfl, rw7.mono (.of (e79.trans e10)), ow, zw, dw, e10 _ _ hN9, upd_same, by rw [rngI_len]; exact Nat.le_refl _, by omega, fun sh H11 e11 hsh => ?_⟩
      rw [put_renum] at hsh
      have e7b := e79.trans (e10.trans e11)
      have hN11 := (e10.trans e11) _ _ hN9
      have e4b := e47.trans e7b
      have hm11 := e7b _ _ hm7
      have hr11 := e7b _ _ hr7
      have hLf11 := e4b _ _ hLf4
      have hPl5 : PySem.Paired (fun x p => P2At K H4 p x) (V.ref pa :: lr) (p0 :: qr) := .cons ⟨pa, wx, sx, rfl, hTa, rw1, rw2⟩ hpr
      have nmn : m ≠ nh := ne_of_none (e8 _ _ hm7) hnh
      have nrn : r ≠ nh := ne_of_none (e8 _ _ hr7) hnh
      have lpl := hPl5.length
      have lqn : (p0 :: qr).length ≤ 30 := by omega
      refine ⟨_, rfl, Lf, rfl, ⟨_, SqL.of hLf11⟩, for_list (fun j σ' H' => ∃ c4 c10 c11 c12 c13 c14 mv rv, σ' = [some (.str z), some (.ref a), some (.ref Lf), some (.ref f), c4, some wx, some (.ref m), some (.ref r), some (.ref nh), some sh, c10, c11, c12, c13, c14] ∧ Ex H4 H' ∧ Tups K H11 H' ∧ H' nh = some (.lst ((varsOf p0.1).map V.int)) ∧ H' m = some (.lst mv) ∧ PySem.Paired (M1At K H') mv ((((p0 :: qr).take j).filter (vrB p0.1)).map (vrS p0.1)) ∧ H' r = some (.lst rv) ∧ PySem.Paired (fun x p => P2At K H' p x) rv (((p0 :: qr).take j).filter fun q => !vrB p0.1 q))
        ⟨_, _, _, _, _, _, [], [], rfl, e4b, Tups.refl _, hN11, hm11, .nil, hr11, .nil⟩ (fun j σ' H' _ ⟨_, _, _, _, _, _, _, _, _, e, _⟩ => SqL.of (e _ _ hLf4)) ?_ ?_⟩
      · rintro j x σ' H12 hx ⟨c4, c10, c11, c12, c13, c14, mv, rv, rfl, eB, t12, hN, hM, hMv, hR, hRv⟩
        obtain ⟨q', hq, ⟨qa, wx2, sx2, rfl, hT2, rr1, rr2⟩⟩ := pairG_get (p2_mono (.of eB) hPl5) hx
        obtain ⟨⟨oq, zq, dq⟩, oqs, zqs, dqs⟩ := hBl q' (List.mem_of_getElem? hq)
        have vlq := varsOf_len q'.1
        have lm := hMv.length
        have lr' := hRv.length
        have fl1 := List.length_filter_le (vrB p0.1) ((p0 :: qr).take j)
        have fl2 := List.length_filter_le (fun q => !vrB p0.1 q) ((p0 :: qr).take j)
        rw [List.length_map] at lm
        rw [List.length_take] at fl1 fl2
        refine ⟨qa, _, rfl, hT2, rfl, wx2, _, rfl, sx2, _, rfl, rfl, ?_⟩
        refine ⟨_, rfl, (by show 1 ≤ sizeLine; decide), fun l2 hl2 => ?_⟩
        have e13 := Ex.new (o := HO.lst [wx2]) hl2
        refine ⟨l2, [wx2], [q'.1], rfl, upd_same, Reps.one (rr1.mono (.of e13)), by rw [oks_cons]; exact ⟨oq, trivial⟩, by rw [depths_cons]; show max (depth q'.1) 0 < 4 + 1; omega, by rw [sizes_one]; omega, fun it H14 hit e14 hI => ?_⟩
        rw [numsT_one] at hI
        have e124 := e13.trans e14
        refine ⟨_, rfl, _, rfl, _, rfl, it, _, rfl, .inl (SqL.of hI), _, rfl, RgOk.of_le (Int.le_refl _) (by rw [List.length_map]; omega) (by decide) (by omega), fun rq2 hrq2 => ?_⟩
        rw [rgV_eq, List.length_map]
        have e15 := Ex.new (o := HO.lst ((rngI (varsOf q'.1).length).map V.int)) hrq2
        refine ⟨wx2, q'.1, it, rq2, varsOf q'.1, rngI (varsOf q'.1).length, rfl, rr1.mono (.of (e124.trans e15)), oq, zq, dq, e15 _ _ hI, upd_same, by rw [rngI_len]; exact Nat.le_refl _, by omega, fun u H16 e16 hu2 => ?_⟩
        rw [put_renum] at hu2
        have e126 := e124.trans (e15.trans e16)
        have hI16 := (e15.trans e16) _ _ hI
        have hN16 := e126 _ _ hN
        have hM16 := e126 _ _ hM
        have hR16 := e126 _ _ hR
        have hsh16 := (hsh.mono t12).mono (.of e126)
        refine ⟨_, rfl, _, _, dp_rep hu2, dp_rep hsh16, shaped_tm (ok_renum oq) (by rw [depth_renum]; omega), shaped_tm (ok_renum ow) (by rw [depth_renum]; omega), _, rfl, ?_⟩
        rw [eqv_toD]
        have tk1 : (p0 :: qr).take (j + 1) = (p0 :: qr).take j ++ [q'] := take_snocT hq
        by_cases c : vrB p0.1 q' = true
        · have cc : decide (tord (renum q'.1) (renum p0.1) = 0) = true := c
          rw [cc]
          have vle := vars_len_renum (tord_ok.eq _ _ (of_decide_eq_true cc))
          refine iteT ⟨_, rfl, .inl ⟨rfl, mv, SqL.of hM16⟩, _, rfl, _, rfl, _, rfl, sx2, q'.2, it, nh, varsOf q'.1, varsOf p0.1, rfl, rr2.mono (.of e126), oqs, zqs, dqs, hI16, hN16, by omega, by omega, fun u2 H17 e17 hv2 => ⟨(by show 1 ≤ sizeLine; decide), fun tp2 htp2 => ?_⟩⟩
          have e18 := Ex.new (o := HO.tup [u2]) htp2
          have hT18 : (upd H17 tp2 (.tup [u2])) tp2 = some (.tup [u2]) := upd_same
          generalize upd H17 tp2 (.tup [u2]) = H18 at *
          have e618 := e17.trans e18
          have hM18 := e618 _ _ hM16
          have tl : Tups K H18 (upd H18 m (.lst (mv ++ [.ref tp2]))) := Tups.lst hM18
          have tA := (Tups.of (K := K) (e126.trans e618)).trans tl
          refine ⟨m, mv, _, rfl, rfl, hM18, small5' (by omega), _, _, _, _, _, _, mv ++ [.ref tp2], rv, rfl, Ex.mut (eB.trans (e126.trans e618)) hm, t12.trans tA, ?_, upd_same, ?_, ?_, ?_⟩
          · rw [upd_ne nmn.symm]
            exact e618 _ _ hN16
          · rw [tk1, List.filter_append, List.map_append, List.filter_cons_of_pos c]
            exact Paired.snoc (Paired.mapP hMv fun x t h => h.mono tA) ⟨tp2, u2, rfl, tl _ _ (SqT.of hT18), (hv2.mono (.of e18)).mono tl⟩
          · rw [upd_ne nmr.symm]
            exact e618 _ _ hR16
          · rw [tk1, List.filter_append, List.filter_cons_of_neg (by rw [c]; decide), List.filter_nil, List.append_nil]
            exact p2_mono tA hRv
        · have c' := Bool.eq_false_iff.mpr c
          have cc : decide (tord (renum q'.1) (renum p0.1) = 0) = false := c'
          rw [cc]
          refine iteF ⟨_, rfl, .inl ⟨rfl, rv, SqL.of hR16⟩, _, rfl, _, rfl, (by show 2 ≤ sizeLine; decide), fun tp2 htp2 => ?_⟩
          have e18 := Ex.new (o := HO.tup [wx2, sx2]) htp2
          have hT18 : (upd H16 tp2 (.tup [wx2, sx2])) tp2 = some (.tup [wx2, sx2]) := upd_same
          generalize upd H16 tp2 (.tup [wx2, sx2]) = H18 at *
          have hR18 := e18 _ _ hR16
          have tl : Tups K H18 (upd H18 r (.lst (rv ++ [.ref tp2]))) := Tups.lst hR18
          have tA := (Tups.of (K := K) (e126.trans e18)).trans tl
          refine ⟨r, rv, _, rfl, rfl, hR18, small5' (by omega), _, _, _, _, _, _, mv, rv ++ [.ref tp2], rfl, Ex.mut (eB.trans (e126.trans e18)) fr, t12.trans tA, ?_, ?_, ?_, upd_same, ?_⟩
          · rw [upd_ne nrn.symm]
            exact e18 _ _ hN16
          · rw [upd_ne nmr]
            exact e18 _ _ hM16
          · rw [tk1, List.filter_append, List.filter_cons_of_neg c, List.filter_nil, List.append_nil]
            exact Paired.mapP hMv fun x t h => h.mono tA
          · rw [tk1, List.filter_append, List.filter_cons_of_pos (by rw [c']; rfl)]
            exact Paired.snoc (p2_mono tA hRv) ⟨tp2, wx2, sx2, rfl, tl _ _ (SqT.of hT18), rr1.mono tA, rr2.mono tA⟩
      · rintro σ' H12 ⟨c4, c10, c11, c12, c13, c14, mv, rv, rfl, eB, t12, hN, hM, hMv, hR, hRv⟩
        rw [lpl, List.take_length] at hMv hRv
        have hSs : ∀ t ∈ ((p0 :: qr).filter (vrB p0.1)).map (vrS p0.1), TmB 4 t := fun t ht => by
          obtain ⟨q', hq', rfl⟩ := List.mem_map.mp ht
          exact tmb_sub ow (hBl q' (List.mem_filter.mp hq').1).2
        have lms := hMv.length
        have fls := List.length_filter_le (vrB p0.1) (p0 :: qr)
        have l30 : (((p0 :: qr).filter (vrB p0.1)).map (vrS p0.1)).length ≤ 30 := by rw [List.length_map]; omega
        rw [List.length_map] at lms
        have gcons := grp_cons p0 qr
        have gless := grp_less p0 qr
        have hBr : ∀ p ∈ (p0 :: qr).filter (fun q => !vrB p0.1 q), TmB 4 p.1 ∧ TmB 4 p.2 := fun p hp => hBl p (List.mem_filter.mp hp).1
        generalize (p0 :: qr).filter (fun q => !vrB p0.1 q) = rest at *
        generalize ((p0 :: qr).filter (vrB p0.1)).map (vrS p0.1) = ss at *
        have e012 := eH4.trans eB
        refine ⟨_, rfl, fun σ' H' => ∃ m2 mv2 c13 c14, σ' = [some (.str z), some (.ref a), some (.ref r), some (.ref f), c4, some wx, some (.ref m2), some (.ref r), some (.ref nh), some sh, c10, c11, c12, c13, c14] ∧ Ex H12 H' ∧ H' m2 = some (.lst mv2) ∧ PySem.Paired (M1At K H') mv2 (FinW z ss), ?_, ?_⟩
        · refine ⟨_, rfl, rfl, _, rfl, ?_⟩
          rcases hz with hz | hz
          · subst hz
            rw [decide_eq_false (by decide +kernel)]
            refine iteF ⟨m, mv, _, _, rfl, Ex.refl _, hM, ?_⟩
            unfold FinW
            rw [if_pos rfl]
            exact hMv
          · subst hz
            rw [decide_eq_true rfl]
            refine iteT ⟨_, rfl, m, mv, ss, rfl, hM, m1_w1 hMv, hSs, by omega, fun p H13 hp e13 hL => ?_⟩
            have pP := paired_sort (ltP) ltP_swo (Paired.mapP hMv fun x t h => h.mono (.of e13))
            rw [sort_fst ss mv hMv.length] at pP
            have ob : ∀ t ∈ sortT ss, TmB 4 t := fun t ht => hSs t ((sortA_stb ltT_swo ss).perm.mem_iff.mp ht)
            have lS := sortA_len ltT_swo ss
            generalize (sortA ltP (ss.zip mv)).map Prod.snd = xs' at *
            have fe : FinW (Str.ofString "setof") ss = onceT none (sortT ss) := by
              unfold FinW
              rw [if_neg (by decide +kernel)]
            rw [fe]
            have lS : (sortT ss).length = ss.length := lS
            generalize sortT ss = ts' at *
            have lpP := pP.length
            refine ⟨_, rfl, p, _, rfl, SqL.of hL, fun D hD => lc_it walk_enum (fun k H' => Ex H13 H' ∧ ∃ us, H' D = some (.lst us) ∧ PySem.Paired (M1At K H13) us (onceT none (ts'.take k))) ⟨Ex.new hD, [], upd_same, .nil⟩ (fun k H' _ h => SqL.of (h.1 _ _ hL)) ?_ ?_⟩
            · rintro k x H14 H15 hk ⟨e14, us, hU, hUs⟩ ⟨T', y, zz, rfl, hT', rfl, hy, hzz⟩
              obtain rfl : y = .int (k : Int) := (Option.some.inj hy).symm
              obtain ⟨t, ht, hr⟩ := pairG_get pP hzz
              have e15 := Ex.new (o := HO.tup [.int (k : Int), zz]) hT'
              have hT15 : (upd H14 T' (.tup [.int (k : Int), zz])) T' = some (.tup [.int (k : Int), zz]) := upd_same
              generalize upd H14 T' (.tup [.int (k : Int), zz]) = H15 at *
              have e35 := e14.trans e15
              have hU15 := e15 _ _ hU
              have hul := hUs.length
              have ol := len_once none (ts'.take k)
              rw [List.length_take] at ol
              have hos := once_snoc ht
              refine ⟨T', _, rfl, SqT.of hT15, rfl, _, _, rfl, zz, _, rfl, rfl, rfl, _, rfl, rfl, _, rfl, ?_⟩
              cases k with
              | zero => exact iteT (iteT ⟨_, rfl, us, hU15, small5' (by omega), Ex.mut e35 hD, us ++ [zz], upd_same, by rw [hos]; exact Paired.snoc hUs hr⟩)
              | succ j =>
                rw [decide_eq_false (by intro z; injection z with z; omega)]
                obtain ⟨zp, hzp⟩ : ∃ zp, xs'[j]? = some zp := ⟨_, List.getElem?_eq_getElem (by omega)⟩
                obtain ⟨tp', htp', hrp⟩ := pairG_get pP hzp
                have oj : onceB ts' (j + 1) t = !decide (tord tp' t = 0) := by
                  show (match ts'[j]? with
                    | some s => !decide (tord s t = 0)
                    | none => true) = _
                  rw [htp']
                have ix : atI xs' (((j + 1 : Nat) : Int) - 1) = some zp := by
                  have : ((j + 1 : Nat) : Int) - 1 = (j : Int) := by omega
                  rw [this]
                  exact atI_nat hzp
                have o1 := ob t (List.mem_of_getElem? ht)
                have o2 := ob tp' (List.mem_of_getElem? htp')
                refine iteF ⟨_, rfl, _, rfl, _, _, rfl, rfl, p, _, _, _, rfl, rfl, SqL.of (e35 _ _ hL), ix, _, rfl, _, _, m1_dp (hrp.mono (.of e35)), m1_dp (hr.mono (.of e35)), m1_shaped o2.1 (by have := o2.2.2; omega), m1_shaped o1.1 (by have := o1.2.2; omega), _, rfl, ?_⟩
                rw [m1_eqv, ← oj]
                cases ob2 : onceB ts' (j + 1) t with
                | true => exact iteT ⟨_, rfl, us, hU15, small5' (by omega), Ex.mut e35 hD, us ++ [zz], upd_same, by rw [hos, ob2]; exact Paired.snoc hUs hr⟩
                | false => exact iteF ⟨e35, us, hU15, by rw [hos, ob2]; simpa using hUs⟩
            · rintro H14 ⟨e14, us, hU, hUs⟩
              rw [lpP, List.take_length] at hUs
              exact ⟨D, us, _, _, rfl, e13.trans e14, hU, Paired.mapP hUs fun x t h => h.mono (.of e14)⟩
        · rintro _ H13 ⟨m2, mv2, c13, c14, rfl, e13, hM2, hMv2⟩
          have e413 := eB.trans e13
          have hF13 := e413 _ _ hF4
          have hR13 := e13 _ _ hR
          have lm2 := hMv2.length
          have lfin : (FinW z ss).length ≤ ss.length := by
            unfold FinW
            split
            · exact Nat.le_refl _
            · have h1 := len_once none (sortT ss)
              have h2 : (sortT ss).length = ss.length := sortA_len ltT_swo ss
              omega
          refine ⟨_, rfl, .inl ⟨rfl, gv, SqL.of hF13⟩, _, rfl, _, rfl, m2, rfl, ⟨_, SqL.of hM2⟩, fun D hD => lc_it walk_list (fun k H' => Ex H13 H' ∧ ∃ us, H' D = some (.lst us) ∧ Reps K H' ((FinW z ss).take k) us) ⟨Ex.new hD, [], upd_same, Reps.nil⟩ (fun k H' _ h => SqL.of (h.1 _ _ hM2)) ?_ ?_⟩
          · rintro k x H14 H15 hk ⟨e14, us, hU, hUs⟩ ⟨rfl, hx⟩
            obtain ⟨t, ht, ⟨b1, x1, rfl, hT1, hR1⟩⟩ := pairG_get hMv2 hx
            have hul := hUs.len
            rw [List.length_take] at hul
            have tl : Tups K H15 (upd H15 D (.lst (us ++ [x1]))) := Tups.lst hU
            refine ⟨rfl, yesI ⟨_, rfl, b1, _, 0, _, rfl, rfl, Evl.ex_t e14 hT1, at0, us, hU, small5' (by omega), Ex.mut e14 hD, us ++ [x1], upd_same, ?_⟩⟩
            rw [take_snocT ht]
            exact (hUs.mono tl).app (Reps.one ((hR1.mono (.of e14)).mono tl))
          · rintro H14 ⟨e14, us, hU, hUs⟩
            rw [lm2, List.take_length] at hUs
            refine ⟨(by show 2 ≤ sizeLine; decide), fun tp3 htp3 => ?_⟩
            have e15 := Ex.new (o := HO.tup [wx, .ref D]) htp3
            have hT15 : (upd H14 tp3 (.tup [wx, .ref D])) tp3 = some (.tup [wx, .ref D]) := upd_same
            generalize upd H14 tp3 (.tup [wx, .ref D]) = H15 at *
            have e415 := e413.trans (e14.trans e15)
            have hF15 := e415 _ _ hF4
            have nDf : D ≠ f := (ne_of_none hF13 hD).symm
            have nrf : r ≠ f := (ne_of_none hF4 fr).symm
            have tl : Tups K H15 (upd H15 f (.lst (gv ++ [.ref tp3]))) := Tups.lst hF15
            have e05 := eH4.trans e415
            refine ⟨f, gv, _, rfl, rfl, hF15, small5' (by omega), r, rv, rest, gd ++ [(p0.1, ss)], gv ++ [.ref tp3], _, _, _, _, _, _, _, _, _, _, _, rfl, Ex.mut e05 fF, ?_, ?_, hBr, ?_, nrf, upd_same, ?_, ?_, ?_⟩
            · rw [upd_ne nrf]
              exact (e14.trans e15) _ _ hR13
            · exact p2_mono tl (p2_mono (.of (e13.trans (e14.trans e15))) hRv)
            · rw [List.length_cons] at hn
              omega
            · rw [List.map_append]
              refine Paired.snoc (Paired.mapP hG4 fun x g h => (h.mv (.of e415) fun l ys _ _ q => e415 _ _ q).mv tl fun l ys n _ q => by rw [upd_ne n]; exact q) ?_
              refine ⟨tp3, wx, D, us, rfl, tl _ _ (SqT.of hT15), ((rw1.mono (.of e415)).mono tl), ?_, (hUs.mono (.of e15)).mono tl, ex_none (eH4.trans e413) hD, nDf⟩
              rw [upd_ne nDf]
              exact e15 _ _ hU
            · rw [List.append_assoc]
              have hT : gd ++ (p0 :: qr).foldl addG [] = gsOf qs := hT
              rw [gcons] at hT
              exact hT
            · rw [List.length_append, List.length_singleton]
              omega
  · rintro σ' H3 ⟨Lf, lv, qsl, gd, gv, c4, c5, c6, c7, c8, c9, c10, c11, c12, c13, c14, rfl, eH, hLf, hPl, hBl, hn, nLf, hF, hG, hT, hgl⟩
    have h0 : qsl = [] := List.length_eq_zero_iff.mp (by have : qsl.length + ((xs.length : Int)).toNat ≤ xs.length := hn; omega)
    subst h0
    have hT : gd ++ [] = gsOf qs := hT
    rw [List.append_nil] at hT
    rw [hT] at hG
    exact ⟨_, rfl, q f gv H3 fF eH hF hG⟩
end
end Hm

set_option Elab.async false
set_option linter.all false
set_option maxRecDepth 100000
set_option maxHeartbeats 4000000
namespace Hm
open PySem PySem.Spec PyProof.Rows L2 HT
open Evl (Ex)
open RZ SrtO
/-! ## free variables -/
/-- a goal behind marks, the last one outermost -/
def calT (g : Tm) : List Tm → Tm
  | [] => g
  | m :: ms => .comp (Str.ofString "^") [m, calT g ms]
theorem bare_cal {g : Tm} (h : bareT g = g) : ∀ ms : List Tm, bareT (calT g ms) = g
  | [] => h
  | m :: ms => by
    show bareT (.comp (Str.ofString "^") [m, calT g ms]) = g
    rw [bareT, if_pos rfl, bare_cal h ms]
theorem bound_cal {g : Tm} (h : ∀ acc, boundT acc g = acc) : ∀ (ms : List Tm) (acc : List Int) (k : Int), k ∈ boundT acc (calT g ms) ↔ k ∈ acc ∨ ∃ m ∈ ms, k ∈ varsOf m
  | [], acc, k => by
    show k ∈ boundT acc g ↔ _
    rw [h]
    simp
  | m :: ms, acc, k => by
    show k ∈ boundT acc (.comp (Str.ofString "^") [m, calT g ms]) ↔ _
    rw [boundT, if_pos rfl, bound_cal h ms, mem_fold]
    constructor
    · rintro ((q | q) | ⟨u, hu, q⟩)
      · exact .inl q
      · exact .inr ⟨m, List.mem_cons_self, q⟩
      · exact .inr ⟨u, List.mem_cons_of_mem _ hu, q⟩
    · rintro (q | ⟨u, hu, q⟩)
      · exact .inl (.inl q)
      · rcases List.mem_cons.1 hu with e | hu
        · subst e
          exact .inl (.inr q)
        · exact .inr ⟨u, hu, q⟩
theorem mem_nums {ts : List Tm} {k : Int} : k ∈ numsT ts ↔ ∃ t ∈ ts, k ∈ varsOf t := by
  unfold numsT
  rw [mem_fold]
  constructor
  · rintro (h | h)
    · cases h
    · induction ts with
      | nil => simp [pres] at h
      | cons t ts ih =>
        rw [pres_cons, List.flatMap_append] at h
        rcases List.mem_append.mp h with h | h
        · exact ⟨t, List.mem_cons_self, varsOf_mem h⟩
        · obtain ⟨u, hu, q⟩ := ih h
          exact ⟨u, List.mem_cons_of_mem _ hu, q⟩
  · rintro ⟨t, ht, hk⟩
    refine .inr ?_
    have hk := mem_varsOf hk
    induction ts with
    | nil => cases ht
    | cons u ts ih =>
      rw [pres_cons, List.flatMap_append]
      rcases List.mem_cons.1 ht with e | ht
      · subst e
        exact List.mem_append_left _ hk
      · exact List.mem_append_right _ (ih ht)
theorem free_cal {t g : Tm} {ms : List Tm} (h1 : bareT g = g) (h2 : ∀ acc, boundT acc g = acc) {ns : List Tm} (hn : ∀ u, u ∈ ns ↔ u = t ∨ u ∈ ms) : freeT (varsOf t) (calT g ms) = (varsOf g).filter fun k => !decide (k ∈ numsT ns) := by
  unfold freeT
  rw [bare_cal h1]
  refine List.filter_congr fun k _ => ?_
  congr 1
  have : k ∈ boundT (varsOf t) (calT g ms) ↔ k ∈ numsT ns := by
    rw [bound_cal h2, mem_nums]
    constructor
    · rintro (q | ⟨u, hu, q⟩)
      · exact ⟨t, (hn t).mpr (.inl rfl), q⟩
      · exact ⟨u, (hn u).mpr (.inr hu), q⟩
    · rintro ⟨u, hu, q⟩
      rcases (hn u).mp hu with e | hu
      · subst e
        exact .inl q
      · exact .inr ⟨u, hu, q⟩
  by_cases c : k ∈ numsT ns
  · rw [decide_eq_true c, decide_eq_true (this.mpr c)]
  · rw [decide_eq_false c, decide_eq_false fun z => c (this.mp z)]
section
variable {P : Program} {w : World} {K : PySem.W.Frag} {mg : Str → Option Value} {base : Heap}
def spFree0 (K : PySem.W.Frag) : Sp := fun vs H Q _ => ∃ v v' t g, vs = [v, v'] ∧ Rep K H t v ∧ Rep K H g v' ∧ Ok t ∧ Ok g ∧ size t ≤ 1400 ∧ size g ≤ 1400 ∧ ∀ p l u H', H p = none → H l = none → Ex H H' → SqT K H' p [.ref l, u] → H' l = some (.lst ((freeT (varsOf t) g).map V.int)) → Rep K H' (bareT g) u → Q (.ref p) H'
theorem ok_free0 (T : Tx K mg) : FnOk P w K mg base CX0 7 T.f_free_of T.d_free_of ["template", "goal"] (spFree0 K) := calm (ok_free_of T) fun vs H Q E ⟨v, v', t, g, e, r1, r2, o1, o2, s1, s2, q⟩ => by
  have z1 := sizeD_tm o1
  have z2 := sizeD_tm o2
  exact ⟨v, v', odT t, odT g, e, od_rep r1, od_rep r2, by omega, by omega, .inr (.inr ⟨isT_tm o1, isT_tm o2, t, g, r1, r2, o1, o2, s1, s2, q⟩)⟩
def spGpd0 (K : PySem.W.Frag) : Sp := fun vs H Q _ => ∃ z a xs ps, vs = [.str z, .ref a] ∧ (z = Str.ofString "bagof" ∨ z = Str.ofString "setof") ∧ (H a = some (.lst xs) ∨ SqT K H a xs) ∧ PySem.Paired (fun x p => P2At K H p x) xs ps ∧ (∀ p ∈ ps, Ok p.1 ∧ Ok p.2 ∧ size p.1 ≤ 300 ∧ size p.2 ≤ 300) ∧ xs.length ≤ 30 ∧
  ∀ p gv H', H p = none → Ex H H' → H' p = some (.lst gv) → PySem.Paired (fun x g => GrAt K H p H' g x) gv ((gsOf (sortW ps)).map fun g => (g.1, FinW z g.2)) → Q (.ref p) H'
theorem ok_gpd0 (T : Tx K mg) : FnOk P w K mg base CX0 10 T.f_grouped T.d_grouped ["word", "pairs"] (spGpd0 K) := calm (ok_grouped T) fun vs H Q E ⟨z, a, xs, ps, e, hz, hS, hP, hk, hl, q⟩ => by
  refine ⟨.str z, .ref a, e, .inr ⟨z, rfl, hz, .inr (.inr ⟨a, xs, ps, rfl, hS, hP, hk, hl, fun p gv H' h1 h2 h3 h4 => q p gv H' h1 h2 h3 ?_⟩)⟩⟩
  rw [fin_all] at h4
  exact h4
theorem cal_ok {g : Tm} (ho : Ok g) : ∀ {ms : List Tm}, Gts 2 ms → Ok (calT g ms) ∧ size (calT g ms) ≤ size g + 8 * ms.length
  | [], _ => ⟨ho, Nat.le_refl _⟩
  | m :: ms, h => by
    obtain ⟨h1, h2⟩ := cal_ok ho (ms := ms) fun u hu => h u (List.mem_cons_of_mem _ hu)
    obtain ⟨o, _, z, _⟩ := h m List.mem_cons_self
    constructor
    · show Ok (.comp (Str.ofString "^") [m, calT g ms])
      unfold Ok
      exact ⟨atomB_ok (by decide +kernel), by simp, by simp, by rw [oks_cons, oks_cons]; exact ⟨o, h1, trivial⟩⟩
    · show size (.comp (Str.ofString "^") [m, calT g ms]) ≤ _
      rw [size_eq]
      show 1 + sizes [m, calT g ms] ≤ _
      rw [sizes_cons, sizes_one, List.length_cons]
      have : (2 : Nat) ^ (2 + 1) = 8 := rfl
      rw [this] at z
      omega
def dueD (ns : List Int) (g : Tm) : PyData := .tuple [.list (ns.map PyData.int), toD g]
theorem due_shaped (ns : List Int) {g : Tm} (o : Ok g) (d : depth g ≤ 60) : SeqAt.shaped (dueD ns g) = true := by
  have h1 := lay_ints ns
  have h2 := lay_tm o
  have h3 := dep_ints ns
  have h4 := dep_tm g
  have e : (dueD ns g).depth = max (PyData.depthAll (ns.map PyData.int) + 1) (max (toD g).depth 0) + 1 := rfl
  unfold SeqAt.shaped
  rw [decide_eq_true (by omega), Bool.and_true]
  show (PyData.canLayAll0 (ns.map PyData.int) && ((toD g).canLay0 && true)) = true
  rw [h1, h2]
  rfl
theorem due_eqv (ns : List Int) {g : Tm} (o : Ok g) (d : depth g ≤ 60) : PyData.eqv (dueD ns g) (dueD ns g) = true := SeqAt.eqv_refl _ (SeqAt.canLay_of_shaped (due_shaped ns o d))
theorem due_dp {H : Hp} {p l : Addr} {u : V} {ns : List Int} {g : Tm} (h : SqT K H p [.ref l, u]) (hl : SqL K H l (ns.map V.int)) (hr : Rep K H g u) : Dp K H (.ref p) (dueD ns g) := .tup h (.cons (dp_ints hl) (.cons (dp_rep hr) .nil))
theorem free7 {t : Tm} (h : ∀ k ∈ varsOf t, k < 5) : freeT (varsOf t) (.var 7) = [7] := by
  show [(7 : Int)].filter (fun k => !decide (k ∈ varsOf t)) = [7]
  rw [List.filter_cons_of_pos, List.filter_nil]
  rw [decide_eq_false fun m => by have := h 7 m; omega]
  rfl
theorem bare_p {f : Str} : ∀ {ts : List Tm}, ts.length = 3 → bareT (.comp f ts) = .comp f ts
  | [_, _, _], _ => rfl
theorem bound_p {f : Str} : ∀ {ts : List Tm}, ts.length = 3 → ∀ acc, boundT acc (.comp f ts) = acc
  | [_, _, _], _ => fun _ => rfl
def spFreeR (K : PySem.W.Frag) : Sp := fun vs H Q _ => ∃ a, vs = [.ref a] ∧ Well H a ∧ ∀ H', Dr a H H' → Q (.bl true) H'
theorem ok_law_free_right (T : Tx K mg) : FnOk P w K mg base CX0 8 T.f_law_free_right T.d_law_free_right ["_law_source"] (spFreeR K) := by
  refine T.h_law_free_right.F.ok sc_law_free_right (fun vs H Q E h => ?_) (fun cdv A outer s H vs Q E hr h => ?_)
  · obtain ⟨a, rfl, _⟩ := h
    rfl
  obtain ⟨a, rfl, hW, q⟩ := h
  have hu := hr.units
  refine ⟨_, (pss_cons (ps_par3 (i := 1) (j := 2) (l := 3) rfl sc_law_free_right.nd rfl rfl rfl (by decide) (by decide) (by decide) rfl rfl rfl (pa_cons (cl (ok_law_term T 3) T.h_law_term hr (pa_cons (pv 0) (pa_cons pe_int pa_nil))) (pa_cons (pe_op op_catT (pe_tup (pa_cons pe_str pa_nil)) (pe_callTy call_tuple_of rfl T.b_tuple (by decide +kernel) (pa_cons (pe_lc (own := [("_law_k", 5)]) (g := gName 5) rfl sc_law_free_right.nd (pi_range1 rfl T.b_range (pa_cons pe_int pa_nil)) (blkOk_by (own := [("_law_k", 5)]) (N := ["_law_source", "_law_template", "_law_bare", "_law_marks", "_law_called", "_law_k", "_law_known", "_law_due", "_law_found", "_law_number"]) (sc := defScope s_law_free_right) (by decide +kernel)) (fun _ _ _ _ _ => pg_name (i := 5) sc_law_free_right.nd rfl (Or.inl rfl)) (fun _ _ _ _ _ => pts_nil) (fun _ _ _ _ _ => (cl (ok_law_term T 3) T.h_law_term hr (pa_cons (pv 0) (pa_cons pe_int pa_nil))))) pa_nil))) (pa_cons (pe_lst pa_nil) pa_nil))) rfl)
    (pss_cons (ps_set (i := 4) sc_law_free_right.nd rfl (Or.inl rfl) (pv 2))
    (pss_cons (ps_for PassesOwn.never rfl (pi_range1 rfl T.b_range (pa_cons (cl (ok_law_next T) T.h_law_next hr (pa_cons (pv 0) (pa_cons pe_int pa_nil))) pa_nil)) (pg_name (i := 5) sc_law_free_right.nd rfl (Or.inl rfl))
      (pss_cons (ps_expr (pe_bm PySem.F.plainAttrs_list PySem.F.slot_list_append PySem.F.type_list_append mt_append (pv 3) (pa_cons (cl (ok_law_term T 3) T.h_law_term hr (pa_cons (pv 0) (pa_cons pe_int pa_nil))) pa_nil)))
    (pss_one (ps_set (i := 4) sc_law_free_right.nd rfl (Or.inl rfl) (pe_tup (pa_cons pe_str (pa_cons (pe_ix ix_list (pv 3) (pe_un un_neg pe_int) (fun _ _ => rfl)) (pa_cons (pv 4) pa_nil))))))))
    (pss_cons (ps_set (i := 6) sc_law_free_right.nd rfl (Or.inr rfl) (cl (ok_numsL T 4) T.h_law_numbers hr (pa_cons (pe_op op_catL (pe_lst (pa_cons (pv 1) pa_nil)) (pv 3)) pa_nil)))
    (pss_cons (ps_set (i := 7) sc_law_free_right.nd rfl (Or.inl rfl) (pe_tup (pa_cons (pe_lc (own := [("_law_number", 9)]) (g := gName 9) rfl sc_law_free_right.nd (pi_list (cl (ok_numsL T 4) T.h_law_numbers hr (pa_cons (pe_lst (pa_cons (pv 2) pa_nil)) pa_nil))) (blkOk_by (own := [("_law_number", 9)]) (N := ["_law_source", "_law_template", "_law_bare", "_law_marks", "_law_called", "_law_k", "_law_known", "_law_due", "_law_found", "_law_number"]) (sc := defScope s_law_free_right) (by decide +kernel)) (fun _ _ _ _ _ => pg_name (i := 9) sc_law_free_right.nd rfl (Or.inl rfl)) (fun _ _ _ _ _ => pts_one (pt_cmpR (show OpR _ (compareOp CmpOp.NotIn) (rIn K true) from op_notIn_seq) (pv 9) (pv 6) (by rfl))) (fun _ _ _ _ _ => (pv 9))) (pa_cons (pv 2) pa_nil))))
    (pss_cons (ps_set (i := 8) sc_law_free_right.nd rfl (Or.inl rfl) (cl (ok_free0 T) T.h_free_of hr (pa_cons (pv 1) (pa_cons (pv 4) pa_nil))))
    (pss_cons (ps_if (PW.pt (pw_or (pt_cmpR (op_neD hu) (pv 8) (pv 7) (nomark _)) (pw_or1 (pt_not (pt_val (pe_callB call_isi rfl T.b_isinstance (by decide +kernel) (pa_cons (pv 8) (pa_cons (pe_bltn (v := .ty "tuple") (u := .type "tuple") rfl T.b_tuple (by decide +kernel) rfl) pa_nil))))))))
      (pss_one (ps_ret pe_bl))
      pss_nil)
    (pss_cons (ps_expr (pe_bm PySem.F.plainAttrs_list PySem.F.slot_list_append PySem.F.type_list_append mt_append (pe_ix ix_tup (pv 8) pe_int (fun _ _ => rfl)) (pa_cons pe_non pa_nil)))
    (pss_one (ps_ret (pe_and (pe_cmpR (op_eqD hu) (cl (ok_free0 T) T.h_free_of hr (pa_cons (pv 1) (pa_cons (pv 4) pa_nil))) (pv 7) (nomark _)) (pe_one (pe_cmpR (op_eqD hu) (cl (ok_free0 T) T.h_free_of hr (pa_cons (pv 1) (pa_cons (pe_tup (pa_cons pe_int pa_nil)) pa_nil))) (pe_tup (pa_cons (pe_op op_rep (pe_lst (pa_cons pe_int pa_nil)) (pe_callTy call_int1 rfl T.b_int (by decide +kernel) (pa_cons (pe_cmpR op_notIn_seq pe_int (pv 6) (by rfl)) pa_nil))) (pa_cons (pe_tup (pa_cons pe_int pa_nil)) pa_nil))) (nomark _)))))))))))))), ?_⟩
  refine ⟨_, rfl, a, 1, rfl, by decide, by decide, hW, fun tv tt H1 d1 hR1 hG1 => ⟨(by show 1 ≤ sizeLine; decide), fun pp hpp => ?_⟩⟩
  have w1 := d1.well
  have e2 := Ex.new (o := HO.tup [.str "p"]) hpp
  have d2 := Dr.ex w1 e2
  have hT2 : SqT K (upd H1 pp (.tup [.str "p"])) pp [.str "p"] := SqT.of upd_same
  generalize upd H1 pp (.tup [.str "p"]) = H2 at *
  have w2 := d2.well
  refine ⟨3, rfl, by decide, by decide, fun D hD => ?_⟩
  have hDa := w2.ne hD
  refine lc_it walk_range (fun i H' => Dr a H2 H' ∧ ∃ ts us, H' D = some (.lst us) ∧ Reps K H' ts us ∧ ts.length = i ∧ Gts 2 ts) ⟨Dr.ex w2 (Ex.new hD), [], [], upd_same, Reps.nil, rfl, fun _ h => absurd h List.not_mem_nil⟩ (fun _ _ _ _ => trivial) ?_ ?_
  · rintro i x H5x H5 hi ⟨d5, ts, us, hU, hUs, hlen, hall⟩ ⟨rfl, rfl⟩
    have hi' : i < 3 := hi
    refine ⟨rfl, yesI ⟨_, rfl, a, 2, rfl, by decide, by decide, d5.well, fun v t H6 d6 hR hG => ?_⟩⟩
    have hU6 := d6.keep D _ hDa hU
    have t6 : Tups K H5 H6 := Dr.tups d5.well d6
    have tl : Tups K H6 (upd H6 D (.lst (us ++ [v]))) := Tups.lst hU6
    have hul := hUs.len
    refine ⟨us, hU6, small5' (by omega), ?_, ts ++ [t], us ++ [v], upd_same, ((hUs.mono t6).mono tl).app (Reps.one (hR.mono tl)), by rw [List.length_append, List.length_singleton, hlen], hall.snoc hG⟩
    obtain ⟨x1, y1, z1, hw⟩ := d6.well
    refine ⟨⟨x1, y1, z1, by rw [upd_ne hDa.symm]; exact hw⟩, fun b o hb hq => ?_⟩
    have hbD : b ≠ D := fun z => by
      subst z
      rw [hD] at hq
      cases hq
    rw [upd_ne hbD]
    exact d6.keep b o hb (d5.keep b o hb hq)
  · rintro H5 ⟨d5, ts, us, hU, hUs, hlen, hall⟩
    have hlen3 : ts.length = 3 := hlen
    have hul := hUs.len
    refine ⟨D, us, rfl, .inl ⟨SqL.of hU, fun q2 hq2 => ?_⟩⟩
    have e6 := Ex.new (o := HO.tup us) hq2
    have hTp := (Dr.tups w2 d5) _ _ hT2
    refine ⟨pp, q2, [.str "p"], us, rfl, rfl, Evl.ex_t e6 hTp, SqT.of upd_same, by simp, small5 (by simp; omega), fun z => ?_, fun _ p hp => ⟨Nat.zero_le _, fun mk hmk => ?_⟩⟩
    · rw [z, List.length_nil] at hul
      omega
    have e7 := Ex.new (o := HO.tup ([V.str "p"] ++ us)) hp
    have hRb : Rep K (upd (upd H5 q2 (.tup us)) p (.tup ([V.str "p"] ++ us))) (.comp "p" ts) (.ref p) := rep_comp (SqT.of upd_same) ((hUs.mono (.of e6)).mono (.of e7))
    generalize upd (upd H5 q2 (.tup us)) p (.tup ([V.str "p"] ++ us)) = H7 at *
    have e8 := Ex.new (o := HO.lst []) hmk
    have hm8 : (upd H7 mk (.lst [])) mk = some (.lst []) := upd_same
    have e58 := (e6.trans e7).trans e8
    have d8 := d1.trans (d2.trans (d5.trans (Dr.ex d5.well e58)))
    have hR8 := (hR1.mono (Dr.tups w1 (d2.trans (d5.trans (Dr.ex d5.well e58)))))
    have hRb8 := hRb.mono (.of e8)
    have hma : mk ≠ a := (Dr.ex d5.well (e6.trans e7)).well.ne hmk
    have fmk : H mk = none ∨ True := .inr trivial
    generalize upd H7 mk (.lst []) = H8 at *
    have w8 := d8.well
    obtain ⟨szs, dps, okb, _⟩ := gts_sizes hall
    have hob : Ok (.comp "p" ts) := by
      unfold Ok
      exact ⟨atomB_ok (by decide +kernel), by omega, by omega, okb⟩
    have hsb : size (.comp "p" ts) ≤ 25 := by
      rw [size_eq]
      show 1 + sizes ts ≤ 25
      rw [hlen3] at szs
      omega
    have hdb : depth (.comp "p" ts) ≤ 4 := by
      rw [depth_eq]
      show 1 + depths ts ≤ 4
      omega
    have hbare : bareT (.comp "p" ts) = .comp "p" ts := bare_p hlen3
    have hbound : ∀ acc, boundT acc (.comp "p" ts) = acc := fun acc => bound_p hlen3 acc
    generalize Tm.comp "p" ts = gb at *
    refine ⟨_, _, _, rfl, _, rfl, ?_⟩
    have d7 := d1.trans (d2.trans (d5.trans (Dr.ex d5.well (e6.trans e7))))
    refine ⟨_, rfl, a, 4, rfl, w8, by decide, by decide +kernel, fun nk H9 k0 k1 d9 => ⟨nk, rfl, by omega, by omega, ?_⟩⟩
    obtain ⟨nk', rfl⟩ := Int.eq_ofNat_of_zero_le k0
    have t89 : Tups K H8 H9 := Dr.tups w8 d9
    have hm9 := d9.keep _ _ hma hm8
    refine for_it walk_range (fun i σ' H' => ∃ cv c5 c6 c7 c8 c9 ms mv, σ' = [some (.ref a), some tv, some (.ref p), some (.ref mk), some cv, c5, c6, c7, c8, c9] ∧ (∀ b o, b ≠ a → b ≠ mk → H9 b = some o → H' b = some o) ∧ Tups K H9 H' ∧ Well H' a ∧ H' mk = some (.lst mv) ∧ Reps K H' ms mv ∧ Gts 2 ms ∧ ms.length = i ∧ Rep K H' (calT gb ms.reverse) cv) ⟨_, _, _, _, _, _, [], [], rfl, fun _ _ _ _ h => h, Tups.refl _, d9.well, hm9, Reps.nil, fun _ h => absurd h List.not_mem_nil, rfl, hRb8.mono t89⟩ (fun _ _ _ _ _ => trivial) ?_ ?_
    · rintro i x σ' H10x H10 hi ⟨cv, c5, c6, c7, c8, c9, ms, mv, rfl, kp, t9, hw, hM, hMs, hGs, hlen, hC⟩ ⟨rfl, rfl⟩
      have hi' : i < 4 := by
        have : i < ((nk' : Int)).toNat := hi
        omega
      have hml := hMs.len
      refine ⟨_, rfl, .inl ⟨rfl, mv, SqL.of hM⟩, _, rfl, a, 2, rfl, by decide, by decide, hw, fun v t H11 d11 hR hG => ?_⟩
      have hM11 := d11.keep _ _ hma hM
      have t11 : Tups K H10 H11 := Dr.tups hw d11
      refine ⟨mk, mv, v, rfl, rfl, hM11, small5' (by omega), ?_⟩
      have tl : Tups K H11 (upd H11 mk (.lst (mv ++ [v]))) := Tups.lst hM11
      have hM12 : (upd H11 mk (.lst (mv ++ [v]))) mk = some (.lst (mv ++ [v])) := upd_same
      have w12 : Well (upd H11 mk (.lst (mv ++ [v]))) a := by
        obtain ⟨x1, y1, z1, hw⟩ := d11.well
        exact ⟨x1, y1, z1, by rw [upd_ne hma.symm]; exact hw⟩
      have kp12 : ∀ b o, b ≠ a → b ≠ mk → H9 b = some o → (upd H11 mk (.lst (mv ++ [v]))) b = some o := fun b o h1 h2 h => by
        rw [upd_ne h2]
        exact d11.keep _ _ h1 (kp b o h1 h2 h)
      generalize upd H11 mk (.lst (mv ++ [v])) = H12 at *
      refine ⟨_, rfl, 1, rfl, mk, mv ++ [v], -1, v, rfl, rfl, SqL.of hM12, atI_last _ _, _, rfl, (by show 3 ≤ sizeLine; decide), fun tp htp => ?_⟩
      have e13 := Ex.new (o := HO.tup [.str (Str.ofString "^"), v, cv]) htp
      have tA := (t11.trans tl).trans (Tups.of e13)
      refine ⟨_, _, _, _, _, _, ms ++ [t], mv ++ [v], rfl, fun b o h1 h2 h => e13 _ _ (kp12 b o h1 h2 h), t9.trans tA, (Dr.ex w12 e13).well, e13 _ _ hM12, (hMs.mono tA).app (Reps.one ((hR.mono tl).mono (.of e13))), hGs.snoc hG, by rw [List.length_append, List.length_singleton, hlen], ?_⟩
      rw [List.reverse_append]
      show Rep K _ (.comp (Str.ofString "^") [t, calT gb ms.reverse]) _
      exact rep_comp (SqT.of upd_same) (Reps.cons ((hR.mono tl).mono (.of e13)) (Reps.one (hC.mono tA)))
    · rintro σ' H10 ⟨cv, c5, c6, c7, c8, c9, ms, mv, rfl, kp, t9, hw, hM, hMs, hGs, hlen, hC⟩
      have hl3 : ms.length ≤ 3 := by
        have : ms.length = ((nk' : Int)).toNat := hlen
        omega
      have hR10 := (hR8.mono t89).mono t9
      have hRb10 := (hRb8.mono t89).mono t9
      have hml := hMs.len
      obtain ⟨ot, dt, zt, vt⟩ := hG1
      obtain ⟨zms, dms, oms, _⟩ := gts_sizes hGs
      have dt' : depth tt ≤ 2 := dt
      have zt' : size tt + 1 ≤ 4 := zt
      have hGr : Gts 2 ms.reverse := fun u hu => hGs u (List.mem_reverse.mp hu)
      obtain ⟨oc, zc⟩ := cal_ok hob hGr
      rw [List.length_reverse] at zc
      have fre : freeT (varsOf tt) (calT gb ms.reverse) = (varsOf gb).filter fun k => !decide (k ∈ numsT (tt :: ms)) := free_cal hbare hbound fun u => by rw [List.mem_cons, List.mem_reverse]
      have bre := bare_cal hbare ms.reverse
      have zms' : sizes ms ≤ 24 := by
        have e : (2 : Nat) ^ (2 + 1) = 8 := rfl
        rw [e] at zms
        omega
      refine ⟨_, rfl, (by show 1 ≤ sizeLine; decide), fun l1 hl1 => ?_⟩
      have e11 := Ex.new (o := HO.lst [tv]) hl1
      refine ⟨_, rfl, l1, mk, [tv], mv, rfl, rfl, SqL.of upd_same, e11 _ _ hM, small5 (by simp; omega), fun l2 hl2 => ?_⟩
      have e12 := Ex.new (o := HO.lst ([tv] ++ mv)) hl2
      have eA := e11.trans e12
      refine ⟨l2, [tv] ++ mv, tt :: ms, rfl, upd_same, Reps.cons (hR10.mono (.of eA)) (hMs.mono (.of eA)), by rw [oks_cons]; exact ⟨ot, oms⟩, by rw [depths_cons]; omega, by rw [sizes_cons]; omega, fun kn H13 hkn e13 hK13 => ?_⟩
      have eB := eA.trans e13
      refine ⟨_, rfl, (by show 1 ≤ sizeLine; decide), fun l3 hl3 => ?_⟩
      have e14 := Ex.new (o := HO.lst [V.ref p]) hl3
      refine ⟨l3, [.ref p], [gb], rfl, upd_same, Reps.one (hRb10.mono (.of (eB.trans e14))), by rw [oks_cons]; exact ⟨hob, trivial⟩, by rw [depths_cons]; show max (depth gb) 0 < 4 + 1; omega, by rw [sizes_one]; omega, fun nb H15 hnb e15 hB15 => ?_⟩
      rw [numsT_one] at hB15
      have hK15 := (e14.trans e15) _ _ hK13
      have vg := varsOf_len gb
      refine ⟨nb, rfl, ⟨_, SqL.of hB15⟩, fun D2 hD2 => lc_it walk_list (fun j H' => Ex H15 H' ∧ H' D2 = some (.lst ((((varsOf gb).take j).filter fun k => !decide (k ∈ numsT (tt :: ms))).map V.int))) ⟨Ex.new hD2, upd_same⟩ (fun j H' _ h => SqL.of (h.1 _ _ hB15)) ?_ ?_⟩
      · rintro j x H16 H17 hj ⟨e16, hD16⟩ ⟨rfl, hx⟩
        obtain ⟨k, hk, rfl⟩ : ∃ k, (varsOf gb)[j]? = some k ∧ x = .int k := by
          rw [List.getElem?_map] at hx
          cases z : (varsOf gb)[j]? with
          | none => rw [z] at hx; cases hx
          | some k => rw [z] at hx; exact ⟨k, rfl, (Option.some.inj hx).symm⟩
        have ht6 : ((varsOf gb).take (j + 1)).filter (fun k => !decide (k ∈ numsT (tt :: ms))) = ((varsOf gb).take j).filter (fun k => !decide (k ∈ numsT (tt :: ms))) ++ [k].filter (fun k => !decide (k ∈ numsT (tt :: ms))) := by rw [take_snocT hk, List.filter_append]
        refine ⟨rfl, _, rfl, _, rfl, kn, _, rfl, .inl (SqL.of (e16 _ _ hK15)), rfl, flat_ints _, _, rfl, ?_⟩
        rw [if_pos rfl, inV_ints]
        by_cases m : k ∈ numsT (tt :: ms)
        · rw [decide_eq_true m]
          refine iteF ⟨e16, ?_⟩
          rw [ht6, List.filter_cons_of_neg (by rw [decide_eq_true m]; decide), List.filter_nil, List.append_nil]
          exact hD16
        · rw [decide_eq_false m]
          refine iteT ⟨_, rfl, _, hD16, ?_, Ex.mut e16 hD2, ?_⟩
          · rw [List.length_map]
            have := List.length_filter_le (fun k => !decide (k ∈ numsT (tt :: ms))) ((varsOf gb).take j)
            rw [List.length_take] at this
            exact small5' (by omega)
          · rw [upd_same, ht6, List.filter_cons_of_pos (by rw [decide_eq_false m]; rfl), List.filter_nil, List.map_append]
            rfl
      · rintro H16 ⟨e16, hD16⟩
        rw [List.length_map, List.take_length] at hD16
        have e1016 := eB.trans ((e14.trans e15).trans e16)
        refine ⟨_, rfl, (by show 2 ≤ sizeLine; decide), fun du hdu => ?_⟩
        have e17 := Ex.new (o := HO.tup [.ref D2, .ref p]) hdu
        have hdu17 : (upd H16 du (.tup [.ref D2, .ref p])) du = some (.tup [.ref D2, .ref p]) := upd_same
        generalize upd H16 du (.tup [.ref D2, .ref p]) = H17 at *
        have e1017 := e1016.trans e17
        have hD17 := e17 _ _ hD16
        rw [← fre] at hD17
        have hR17 := hR10.mono (.of e1017)
        have hC17 := hC.mono (.of e1017)
        have hRb17 := hRb10.mono (.of e1017)
        have hK17 := (e16.trans e17) _ _ hK15
        obtain ⟨fs, hfs⟩ : ∃ fs, fs = freeT (varsOf tt) (calT gb ms.reverse) := ⟨_, rfl⟩
        rw [← hfs] at hD17
        have lfs : fs.length ≤ 25 := by
          rw [hfs, fre]
          have := List.length_filter_le (fun k => !decide (k ∈ numsT (tt :: ms))) (varsOf gb)
          omega
        refine ⟨_, rfl, _, rfl, tv, cv, tt, calT gb ms.reverse, rfl, hR17, hC17, ot, oc, by omega, by omega, fun fp fl fu H18 hfp hfl e18 hT18 hL18 hu18 => ?_⟩
        rw [bre] at hu18
        rw [← hfs] at hL18
        have dq : ∀ H', Ex H17 H' → Dp K H' (.ref du) (dueD fs gb) := fun H' e => due_dp (SqT.of (e _ _ hdu17)) (SqL.of (e _ _ hD17)) (hRb17.mono (.of e))
        have sq := due_shaped fs hob (by omega)
        have eq := due_eqv fs hob (show depth gb ≤ 60 by omega)
        refine ⟨_, rfl, _, rfl, _, _, due_dp hT18 (SqL.of hL18) hu18, dq _ e18, sq, sq, _, rfl, ?_⟩
        rw [eq]
        refine iteF ⟨_, rfl, _, _, _, _, true, rfl, .ty "tuple", tyx_tup hT18, kit_ty (a := "tuple") (by decide +kernel), true, rfl, iteF ?_⟩
        refine ⟨_, rfl, fp, _, 0, _, rfl, rfl, hT18, at0, .inl ⟨rfl, _, SqL.of hL18⟩, fl, _, .non, rfl, rfl, hL18, small5' (by rw [List.length_map]; omega), ?_⟩
        have e19 : Ex H17 (upd H18 fl (.lst (fs.map V.int ++ [V.non]))) := Ex.mut e18 hfl
        generalize upd H18 fl (.lst (fs.map V.int ++ [V.non])) = H19 at *
        refine ⟨_, rfl, _, rfl, tv, cv, tt, calT gb ms.reverse, rfl, hR17.mono (.of e19), hC17.mono (.of e19), ot, oc, by omega, by omega, fun fp2 fl2 fu2 H20 hfp2 hfl2 e20 hT20 hL20 hu20 => ?_⟩
        rw [← hfs] at hL20
        rw [bre] at hu20
        have e1720 := e19.trans e20
        refine ⟨_, rfl, _, _, due_dp hT20 (SqL.of hL20) hu20, dq _ e1720, sq, sq, ?_⟩
        rw [eq]
        have nin : inV (V.int 7) ((numsT (tt :: ms)).map V.int) = false := by
          rw [inV_ints, decide_eq_false]
          intro m
          obtain ⟨u, hu, hk⟩ := mem_nums.mp m
          have hk := mem_varsOf hk
          rcases List.mem_cons.1 hu with e | hu
          · subst e
            have := vt 7 hk
            omega
          · have := (hGs u hu).2.2.2 7 hk
            omega
        have f7 := free7 (t := tt) fun k hk => vt k (mem_varsOf hk)
        refine ⟨true, rfl, iteT ⟨_, rfl, (by show 1 ≤ sizeLine; decide), fun sv hsv => ?_⟩⟩
        have e21 := Ex.new (o := HO.tup [.int 7]) hsv
        have hsv21 : (upd H20 sv (.tup [.int 7])) sv = some (.tup [.int 7]) := upd_same
        generalize upd H20 sv (.tup [.int 7]) = H21 at *
        have e1721 := e1720.trans e21
        have r7 : ∀ H' (x : Addr), H' x = some (.tup [.int 7]) → Rep K H' (.var 7) (.ref x) := fun H' x h => by
          unfold Rep
          exact ⟨x, rfl, SqT.of h⟩
        refine ⟨tv, .ref sv, tt, .var 7, rfl, hR17.mono (.of e1721), r7 _ _ hsv21, ot, by unfold Ok; decide, by omega, by show 1 ≤ 1400; decide, fun fp3 fl3 fu3 H22 hfp3 hfl3 e22 hT22 hL22 hu22 => ?_⟩
        rw [f7] at hL22
        have hu22 : Rep K H22 (.var 7) fu3 := hu22
        refine ⟨(by show 1 ≤ sizeLine; decide), fun l7 hl7 => ?_⟩
        have e23 := Ex.new (o := HO.lst [.int 7]) hl7
        have hl723 : (upd H22 l7 (.lst [.int 7])) l7 = some (.lst [.int 7]) := upd_same
        generalize upd H22 l7 (.lst [.int 7]) = H23 at *
        have e1723 := (e1721.trans e22).trans e23
        refine ⟨_, rfl, kn, _, rfl, .inl (SqL.of (e1723 _ _ hK17)), rfl, flat_ints _, .inr ⟨_, rfl, ?_⟩⟩
        rw [nin]
        refine ⟨l7, 1, [V.int 7], rfl, rfl, hl723, by decide, by decide, by decide, fun p7 hp7 => ?_⟩
        have e24 := Ex.new (o := HO.lst [V.int 7]) hp7
        have hp724 : (upd H23 p7 (.lst [V.int 7])) p7 = some (.lst [V.int 7]) := upd_same
        refine ⟨(by show 1 ≤ sizeLine; decide), fun s7 hs7 => ?_⟩
        have hs7 : (upd H23 p7 (.lst [V.int 7])) s7 = none := hs7
        have e25 := Ex.new (o := HO.tup [V.int 7]) hs7
        refine ⟨(by show 2 ≤ sizeLine; decide), fun r7' hr7' => ?_⟩
        have hr7' : (upd (upd H23 p7 (.lst [V.int 7])) s7 (.tup [V.int 7])) r7' = none := hr7'
        have e26 := Ex.new (o := HO.tup [V.ref p7, V.ref s7]) hr7'
        have e2226 := e23.trans (e24.trans (e25.trans e26))
        have x1 := due_dp (ns := [7]) (Evl.ex_t e2226 hT22) (SqL.of (e2226 _ _ hL22)) (hu22.mono (.of e2226))
        have x2 := due_dp (K := K) (H := upd (upd (upd H23 p7 (.lst [V.int 7])) s7 (.tup [V.int 7])) r7' (.tup [V.ref p7, V.ref s7])) (p := r7') (l := p7) (u := .ref s7) (ns := [7]) (g := .var 7) (SqT.of upd_same) (SqL.of ((e25.trans e26) _ _ hp724)) (r7 _ _ (e26 _ _ upd_same))
        have sq7 := due_shaped [7] (g := .var 7) (by unfold Ok; decide) (by show 1 ≤ 60; decide)
        refine ⟨_, _, x1, x2, sq7, sq7, ?_⟩
        rw [due_eqv [7] (by unfold Ok; decide) (by show 1 ≤ 60; decide)]
        have eF := (e1723.trans (e24.trans (e25.trans e26)))
        have eG := e1017.trans eF
        refine q _ ⟨?_, fun b o hb hq => ?_⟩
        · obtain ⟨x1, y1, z1, hw⟩ := hw
          exact ⟨x1, y1, z1, eG _ _ hw⟩
        · have h7 := d7.keep b o hb hq
          exact eG _ _ (kp b o hb (ne_of_none h7 hmk) (d9.keep b o hb (e8 _ _ h7)))
end
end Hm

set_option Elab.async false
set_option linter.all false
set_option maxRecDepth 100000
set_option maxHeartbeats 2000000
/-! try: body, several clauses except x as n: one of them is met -/
namespace RG
open PySem PySem.Spec PyProof.Rows L2
/-- what each clause wishes: it is passed by, or its suite runs with what came in slot i -/
def wNames (K : PySem.W.Frag) (D : Ends) : List (Value × Nat × (Addr → Value → Option Addr → TS)) → WX
  | [] => fun _ _ _ _ => False
  | (c, i, ts) :: r => fun cls d σ H => ∃ b, PySem.W.exmOne K cls c = some b ∧ (b = true → ∀ a, H a = none → ts a cls d { nx := fun σ' H' => D.nx (σ'.set i none) H', rt := D.rt, bk := fun σ' H' => D.bk (σ'.set i none) H', ct := fun σ' H' => D.ct (σ'.set i none) H' } (σ.set i (some (.ref a))) H) ∧
      (b = false → wNames K D r cls d σ H)
/-- clauses with names -/
inductive ClsN (X : Cx) : List ExceptHandler → List (Value × Nat × (Addr → Value → Option Addr → TS)) → Prop
  | nil : ClsN X [] []
  | cons {x n : Str} {c : Value} {i : Nat} {ts : Addr → Value → Option Addr → TS} {b₀ : Stmt} {suite : List Stmt} {np pos' : Pos} {hds : List ExceptHandler} {l : List (Value × Nat × (Addr → Value → Option Addr → TS))} (hi : X.N[i]? = some n) (hln : X.env.kindOf n = some .local) (hc : Names X x c)
      (hsu : ∀ (a : Addr) (oe : Obj) (cls : Value) (d : Option Addr) (pn : List (Addr × Obj)), Zc cls d oe → (∃ vs, oe.data = .fields vs) → PSs (X.suite a ((a, oe) :: pn)) (b₀ :: suite) (ts a cls d)) (r : ClsN X hds l) :
      ClsN X (.ExceptHandler (some (.Name x np)) (some n) (b₀ :: suite) pos' :: hds) ((c, i, ts) :: l)
section
variable {X : Cx} {body : List Stmt} {h₀ : ExceptHandler} {pos : Pos} {tb : WX → TS} {hds : List ExceptHandler} {l : List (Value × Nat × (Addr → Value → Option Addr → TS))}
theorem ps_try_names (hs : X.stack = X.env :: X.outer) (hf : X.env.frame = some X.env.locals) (hN : X.N.Nodup)
    (hb : ∀ (W : WX) (pn : List (Addr × Obj)) (xe : Value → Shared → Prop), Takes (X.tr pn xe) W → PassesOwn (model X.prog X.w) X.A X.env xe → PSs (X.tr pn xe) body (tb W))
    (hh : ClsN X (h₀ :: hds) l) : PS X (.Try body (h₀ :: hds) [] [] pos) (fun D σ H => tb (wNames X.K D l) D σ H) := by
  refine ⟨fun pins s σ H D I h => ?_⟩
  have ok := I.ok
  have hfr : X.A.frames = some (X.env :: X.outer) := by rw [ok.frames, hs]
  have back : ∀ {f : Flow} {s1 : Shared}, SP (X.tr (X.pn ++ pins) (fun e s₁ => wpAny (model X.prog X.w) X.A (noteFrame e X.env) (fun _ s₂ => wpAny (model X.prog X.w) X.A (setFlight e none) (fun _ s₃ =>
      wpAny (model X.prog X.w) X.A (handleBy e X.env (h₀ :: hds)) (SP X pins D) X.xe s₃) X.xe s₂) X.xe s₁)) [] D f s1 → SP X pins D f s1 := by
    rintro (_ | _ | _ | u) s1 hsp
    · obtain ⟨σ', H', J, q⟩ := hsp
      exact ⟨σ', H', J.ofTry ok, q⟩
    · obtain ⟨σ', H', J, q⟩ := hsp
      exact ⟨σ', H', J.ofTry ok, q⟩
    · obtain ⟨σ', H', J, q⟩ := hsp
      exact ⟨σ', H', J.ofTry ok, q⟩
    · obtain ⟨v, σ', H', J, r, q⟩ := hsp
      exact ⟨v, σ', H', J.ofTry ok, r, q⟩
  refine wpAny_Try_except (wpAny_mono ((hb (wNames X.K D l) (X.pn ++ pins) (fun e s₁ => wpAny (model X.prog X.w) X.A (noteFrame e X.env) (fun _ s₂ => wpAny (model X.prog X.w) X.A (setFlight e none) (fun _ s₃ =>
      wpAny (model X.prog X.w) X.A (handleBy e X.env (h₀ :: hds)) (SP X pins D) X.xe s₃) X.xe s₂) X.xe s₁) (fun u s' xx => ?_) PassesOwn.looking).run [] s σ H D (I.toTry _) h) (fun f s1 hsp => ?_) (fun e s1 he => he))
  · obtain ⟨a, B, sI, pins', σ', H', cls, d, rfl, J', nb, up, sky, na, os, ag, w⟩ := xx
    have J := J'.ofTry ok
    have sky' : Sky B (X.env :: X.outer) a (Zc cls d) X.env.locals s'.heap := by rw [← hs]; exact sky
    refine Sky.land Zc.steady hfr hf sky' fun h3 fl3 up3 => ?_
    have J3 : Inv X pins σ' H' { s' with heap := h3 } := J.landed nb fl3.1 (up.trans up3) os ag
    obtain ⟨oe3, vs3, he3, hz3, hd3⟩ := fl3.there
    have away : a ∉ frs (X.env :: X.outer) := fun hm => by
      obtain ⟨_, o, eo, no⟩ := fl3.2.2.1.mem hm
      rw [he3] at eo
      cases eo
      exact no _ hd3
    have nL : a ≠ X.env.locals := fun z => away (List.mem_filterMap.mpr ⟨X.env, List.mem_cons_self, by rw [hf, z]⟩)
    have nF : a ∉ X.fs := fun hm => (List.mem_filterMap.mp hm).elim fun e q => away (List.mem_filterMap.mpr ⟨e, List.mem_cons_of_mem _ q.1, q.2⟩)
    have S3 := J3.suite he3 hd3 na nL nF
    have go : ∀ {hds' : List ExceptHandler} {l' : List (Value × Nat × (Addr → Value → Option Addr → TS))}, ClsN X hds' l' → wNames X.K D l' cls d σ' H' →
        wpAny (model X.prog X.w) X.A (handleBy (.ref a) X.env hds') (SP X pins D) X.xe { s' with heap := h3 } := by
      intro hds' l' hk
      induction hk with
      | nil => exact fun w => w.elim
      | @cons x n c i ts b₀ suite np pos' hds2 l2 hi hln hc hsu r ih =>
        intro w
        obtain ⟨b, hb1, hyes, hno⟩ := w
        refine wpAny_handleBy_cons (codeAny_handlers_test ?_) (by intro q; cases q)
        have LM := PySem.W.exm_one (M := model X.prog X.w) J3.kIn (fun A Q E s k q => wpAny_typeOf_ref (k _ _ he3) (by rw [hz3.1]; exact q)) hb1
        have test : ∀ {Q : Value → Shared → Prop} {E : Value → Shared → Prop}, Q c { s' with heap := h3 } → wpAny (model X.prog X.w) (X.A.mark (some (.ref a))) (eval (.Name x np) X.env) Q E { s' with heap := h3 } := fun {Q E} q => by
          obtain ⟨hg, hdbg, hm | ⟨hm, hv, hnn⟩⟩ := hc
          · exact ld_glob (X := X.suite a ((a, oe3) :: (X.pn ++ pins))) S3 hg hm q hdbg
          · exact ld_blt (X := X.suite a ((a, oe3) :: (X.pn ++ pins))) S3 hg hm hv q hnn hdbg
        refine test (LM.here ?_)
        cases b with
        | true =>
          refine codeAny_handlers_suite_as (HandSPX.lands_againZ fl3 fun h4 fl4 up4 => ?_)
          have J4 : Inv X pins σ' H' { s' with heap := h4 } := J.landed nb fl4.1 ((up.trans up3).trans up4) os ag
          obtain ⟨oe4, vs4, he4, hz4, hd4⟩ := fl4.there
          refine store_ok (X := X.suite a ((a, oe4) :: (X.pn ++ pins))) (v := .ref a) (J4.suite he4 hd4 na nL nF) hN hi (.inl hln) rfl (fun s5 S5 => ?_) (.inr hln)
          refine wpAny_mono ((hsu a oe4 cls d (X.pn ++ pins) hz4 ⟨_, hd4⟩).run [] s5 _ H' _ S5 (hyes rfl a na)) ?_ (fun _ _ z => False.elim z)
          rintro (_ | _ | _ | u) s6 hsp
          · obtain ⟨σ6, H6, S6, q6⟩ := hsp
            exact gone_ok (S6.unsuite ok) hN hi hln fun s7 J7 => ⟨_, _, J7, q6⟩
          · obtain ⟨σ6, H6, S6, q6⟩ := hsp
            exact gone_ok (S6.unsuite ok) hN hi hln fun s7 J7 => ⟨_, _, J7, q6⟩
          · obtain ⟨σ6, H6, S6, q6⟩ := hsp
            exact gone_ok (S6.unsuite ok) hN hi hln fun s7 J7 => ⟨_, _, J7, q6⟩
          · obtain ⟨v6, σ6, H6, S6, r6, q6⟩ := hsp
            exact gone_ok (S6.unsuite ok) hN hi hln fun s7 J7 => ⟨_, _, _, J7, r6, q6⟩
        | false =>
          show wpAny _ X.A (handleBy (.ref a) X.env hds2) _ _ _
          exact ih (hno rfl)
    exact go hh w
  · have b1 := back hsp
    cases f with
    | next => exact wpAny_execs_nil b1
    | brk => exact b1
    | cont => exact b1
    | ret u => exact b1
end
end RG

set_option Elab.async false
set_option linter.all false
set_option maxRecDepth 100000
set_option maxHeartbeats 4000000
namespace Hm
open PySem PySem.Spec PyProof.Rows L2 HT LamX
open Evl (Ex)
/-! ## odd objects -/
inductive Ob where
  | non
  | bl (b : Bool)
  | int (i : Int)
  | str (s : Str)
  | dic
  | lst (xs : List Ob)
  | tup (xs : List Ob)
mutual
def odOf : Ob → Od
  | .non => .non
  | .bl b => .bl b
  | .int i => .int i
  | .str s => .str s
  | .dic => .dic
  | .lst _ => .lst
  | .tup xs => .tup (odsOf xs)
def odsOf : List Ob → List Od
  | [] => []
  | x :: xs => odOf x :: odsOf xs
end
mutual
def pdOf : Ob → PyData
  | .non => .none
  | .bl b => .bool b
  | .int i => .int i
  | .str s => .str s
  | .dic => .dict []
  | .lst xs => .list (pdsOf xs)
  | .tup xs => .tuple (pdsOf xs)
def pdsOf : List Ob → List PyData
  | [] => []
  | x :: xs => pdOf x :: pdsOf xs
end
mutual
/-- has it no dict within -/
def plO : Ob → Bool
  | .dic => false
  | .lst xs => plOs xs
  | .tup xs => plOs xs
  | _ => true
def plOs : List Ob → Bool
  | [] => true
  | x :: xs => plO x && plOs xs
end
def isDic : Ob → Bool
  | .dic => true
  | _ => false
def textOf (o : Ob) : Str := if isDic o then "{}" else (pdOf o).shown
/-- it may be shown -/
def shO (o : Ob) : Bool := isDic o || (plO o && (pdOf o).showable && !(pdOf o).hasDict && decide ((pdOf o).depth ≤ 60) && decide ((pdOf o).shown.length ≤ sizeLine))
section
variable {K : PySem.W.Frag} {H H' : Hp}
mutual
inductive ObAt (K : PySem.W.Frag) (H : Hp) : V → Ob → Prop
  | non : ObAt K H .non .non
  | bl (b : Bool) : ObAt K H (.bl b) (.bl b)
  | int (i : Int) : ObAt K H (.int i) (.int i)
  | str (s : Str) : ObAt K H (.str s) (.str s)
  | dic {a : Addr} : H a = some (.dK []) → ObAt K H (.ref a) .dic
  | lst {a : Addr} {xs : List V} {os : List Ob} : H a = some (.lst xs) → ObAll K H xs os → ObAt K H (.ref a) (.lst os)
  | tup {a : Addr} {xs : List V} {os : List Ob} : H a = some (.tup xs) → ObAll K H xs os → ObAt K H (.ref a) (.tup os)
inductive ObAll (K : PySem.W.Frag) (H : Hp) : List V → List Ob → Prop
  | nil : ObAll K H [] []
  | cons {v : V} {vs : List V} {o : Ob} {os : List Ob} : ObAt K H v o → ObAll K H vs os → ObAll K H (v :: vs) (o :: os)
end
mutual
theorem ObAt.mono (e : ExtN H H') : ∀ {v : V} {o : Ob}, ObAt K H v o → ObAt K H' v o
  | _, _, .non => .non
  | _, _, .bl b => .bl b
  | _, _, .int b => .int b
  | _, _, .str b => .str b
  | _, _, .dic h => .dic (e _ _ h fun ps z => by cases z)
  | _, _, .lst h r => .lst (e _ _ h fun ps z => by cases z) (ObAll.mono e r)
  | _, _, .tup h r => .tup (e _ _ h fun ps z => by cases z) (ObAll.mono e r)
theorem ObAll.mono (e : ExtN H H') : ∀ {vs : List V} {os : List Ob}, ObAll K H vs os → ObAll K H' vs os
  | _, _, .nil => .nil
  | _, _, .cons h r => .cons (ObAt.mono e h) (ObAll.mono e r)
end
mutual
theorem ObAt.od : ∀ {v : V} {o : Ob}, ObAt K H v o → OdAt K H v (odOf o)
  | _, _, .non => .non
  | _, _, .bl b => .bl b
  | _, _, .int b => .int b
  | _, _, .str b => .str b
  | _, _, .dic h => .dic h
  | _, _, .lst h r => .lst (SqL.of h)
  | _, _, .tup h r => .tup (SqT.of h) (ObAll.od r)
theorem ObAll.od : ∀ {vs : List V} {os : List Ob}, ObAll K H vs os → OdAll K H vs (odsOf os)
  | _, _, .nil => .nil
  | _, _, .cons h r => .cons (ObAt.od h) (ObAll.od r)
end
mutual
theorem ObAt.dp : ∀ {v : V} {o : Ob}, ObAt K H v o → plO o = true → Dp K H v (pdOf o)
  | _, _, .non, _ => .non
  | _, _, .bl b, _ => .bl b
  | _, _, .int b, _ => .int b
  | _, _, .str b, _ => .str b
  | _, _, .dic h, p => by cases p
  | _, _, .lst h r, p => .lst (SqL.of h) (ObAll.dp r p)
  | _, _, .tup h r, p => .tup (SqT.of h) (ObAll.dp r p)
theorem ObAll.dp : ∀ {vs : List V} {os : List Ob}, ObAll K H vs os → plOs os = true → DpAll K H vs (pdsOf os)
  | _, _, .nil, _ => .nil
  | _, _, .cons h r, p => by
    have p' := (Bool.and_eq_true_iff.mp (show (plO _ && plOs _) = true from p))
    exact .cons (ObAt.dp h p'.1) (ObAll.dp r p'.2)
end
theorem ObAt.rep {v : V} {o : Ob} (h : ObAt K H v o) (s : shO o = true) {Q : VK} (q : Q (.str (textOf o)) H) : RG.rReprE K [v] H Q := by
  unfold shO at s
  rcases Bool.or_eq_true_iff.mp s with s | s
  · cases o with
    | dic =>
      cases h with
      | dic h => exact .inr ⟨_, rfl, h, q⟩
    | _ => cases s
  · simp only [Bool.and_eq_true, decide_eq_true_eq, Bool.not_eq_true'] at s
    obtain ⟨⟨⟨⟨s1, s2⟩, s3⟩, s4⟩, s5⟩ := s
    have e : textOf o = (pdOf o).shown := by
      unfold textOf
      cases o <;> first | rfl | cases s1
    rw [e] at q
    exact .inl ⟨v, _, rfl, h.dp s1, s2, s3, s4, s5, q⟩
theorem ObAll.get : ∀ {vs : List V} {os : List Ob} {i : Nat} {v : V}, ObAll K H vs os → vs[i]? = some v → ∃ o, os[i]? = some o ∧ ObAt K H v o
  | _, _, 0, _, .cons h _, e => by
    cases e
    exact ⟨_, rfl, h⟩
  | _, _, i + 1, _, .cons _ r, e => ObAll.get (i := i) r e
theorem ObAll.len : ∀ {vs : List V} {os : List Ob}, ObAll K H vs os → vs.length = os.length
  | _, _, .nil => rfl
  | _, _, .cons _ r => congrArg (· + 1) (ObAll.len r)
end
/-! ## _law_caught, with a lambda -/
/-- what the pair of a word and a text is as data -/
def txD (f x : Str) : PyData := .tuple [.str f, .str x]
section
variable {X : Cx}
/-- what is made of what comes out of the lambda -/
def ECau (X : Cx) (T : Tx X.K X.mg) (Q : VK) : XK := fun cls d H' => ∃ (C : Addr) (f : Str) (dd : Addr) (v : V) (o : Ob), ((C = T.a_Bap ∧ f = "pairs") ∨ (C = T.a_Bad ∧ f = "term")) ∧ cls = .ref C ∧ d = some dd ∧ H' dd = some (.xd [(f, v)]) ∧ ObAt X.K H' v o ∧ shO o = true ∧
  ∀ p, H' p = none → Q (.ref p) (upd H' p (.tup [.str f, .str (textOf o)]))
def TTc (X : Cx) (T : Tx X.K X.mg) : (XK → Hp → VK → Prop) → Hp → VK → Prop := fun tl H Q => tl (ECau X T Q) H fun _ H' => Q .non H'
theorem takes_len {Y : Cx} {W : WX} (t : Takes Y W) : Takes Y (fun cls d σ H => σ.length = Y.N.length → W cls d σ H) := fun u s' ⟨a, B, sI, pins, σ, H, cls, d, e, I, nb, up, sky, na, os, ag, w⟩ =>
  t u s' ⟨a, B, sI, pins, σ, H, cls, d, e, I, nb, up, sky, na, os, ag, w I.len⟩
theorem two_set {σ : L2.St} (h : σ.length = 2) (x : Option V) : (σ.set 1 x)[1]? = some x := by
  rw [List.getElem?_set_self (by omega)]
theorem caught_gives (T : Tx X.K X.mg) (free : RG.Free X.A) {k : Nat} (hr : Room (k + 2) X.A) (cdv : Value) (q : Str) : GivesTo X ["_law_ask", "e"] "_law_caught" (defScope s_law_caught) T.f_law_caught cdv (defBody s_law_caught) "_law_ask" q (TTc X T) := by
  intro f c' s H Q tl act hc h
  have hu2 : (X.A.deeper (envOfC "_law_caught" (defScope s_law_caught) s.heap.objs.size T.f_law_caught cdv)).units + 64 < cLine := (hr.deeper _).units
  refine ⟨_, (pss_cons (RG.ps_try_names (tb := fun W D σ H => ∃ Ech : XK, (∀ cls d (σ' : L2.St) H', Ech cls d H' → σ'.length = 2 → W cls d σ' H') ∧ σ[0]? = some (some (.ref f)) ∧ H c' = some (CodeO c' q) ∧ tl Ech H (fun _ H1 => D.nx σ H1)) rfl rfl sc_law_caught.nd (fun W pn xe tk _ => ?_)
    (.cons (i := 1) rfl rfl ⟨rfl, by decide, .inl T.e_Bap.at_⟩ (fun a oe cls d pn hz hf => pss_one (ps_ret (pe_ifExp (pt_val (pe_callB (id := "isinstance") (r := RG.rIsD X.K T.a_Bap a cls d) (RG.call_isD T.x_Bap hz hf) rfl T.b_isinstance (by decide +kernel) (pa_cons (pv 1) (pa_cons (pe_glob (v := .ref T.a_Horn) rfl T.e_Horn.at_ rfl) pa_nil))))
      (pe_tup (pa_cons pe_str (pa_cons (pe_callB (id := "repr") (r := RG.rReprE X.K) (RG.call_reprE free hu2) rfl T.b_repr (by decide +kernel) (pa_cons (pe_xf T.e_Bap.xf T.e_Bap.noF hz hf (pv 1)) pa_nil)) pa_nil))) pe_non)))
    (.cons (i := 1) rfl rfl ⟨rfl, by decide, .inl T.e_Bad.at_⟩ (fun a oe cls d pn hz hf => pss_one (ps_ret (pe_ifExp (pt_val (pe_callB (id := "isinstance") (r := RG.rIsD X.K T.a_Bad a cls d) (RG.call_isD T.x_Bad hz hf) rfl T.b_isinstance (by decide +kernel) (pa_cons (pv 1) (pa_cons (pe_glob (v := .ref T.a_Horn) rfl T.e_Horn.at_ rfl) pa_nil))))
      (pe_tup (pa_cons pe_str (pa_cons (pe_callB (id := "repr") (r := RG.rReprE X.K) (RG.call_reprE free hu2) rfl T.b_repr (by decide +kernel) (pa_cons (pe_xf T.e_Bad.xf T.e_Bad.noF hz hf (pv 1)) pa_nil)) pa_nil))) pe_non))) .nil))) (pss_one (ps_ret pe_non))), ?_⟩
  · refine ⟨fun pins s' σ H' D I h' => ?_⟩
    obtain ⟨Ech, hW, h1, h2, h3⟩ := h'
    exact (pss_one (ps_expr (act _ pn xe Ech _ _ (takes_len tk) hW))).run pins s' σ H' D I ⟨h1, h2, h3⟩
  · refine ⟨ECau X T Q, fun cls d σ' H' he hl2 => ?_, rfl, hc, h⟩
    obtain ⟨C, f, dd, v, o, hC, rfl, rfl, hx, ho, hs, hq⟩ := he
    rcases hC with ⟨rfl, rfl⟩ | ⟨rfl, rfl⟩
    · exact ⟨true, T.e_Bap.ex, fun _ a ha => ⟨_, two_set hl2 _, _, .ref T.a_Horn, true, dd, _, rfl, fun u r => r, rfl, rfl, hx, T.y_Bap, true, rfl, iteT ⟨_, two_set hl2 _, rfl, rfl, dd, _, v, rfl, hx, rfl, ho.rep hs ⟨(by show 2 ≤ sizeLine; decide), fun p hp => hq p hp⟩⟩⟩, fun z => by cases z⟩
    · exact ⟨false, T.q_BB, (fun z => by cases z), fun _ => ⟨true, T.e_Bad.ex, fun _ a ha => ⟨_, two_set hl2 _, _, .ref T.a_Horn, true, dd, _, rfl, fun u r => r, rfl, rfl, hx, T.y_Bad, true, rfl, iteT ⟨_, two_set hl2 _, rfl, rfl, dd, _, v, rfl, hx, rfl, ho.rep hs ⟨(by show 2 ≤ sizeLine; decide), fun p hp => hq p hp⟩⟩⟩, fun z => by cases z⟩⟩
def qR : Str := (("_law_refused_right" : Str) ++ (".<locals>." : Str)) ++ ("<lambda>" : Str)
abbrev TR (pp : Addr) : List (Addr × Str) := [(pp, qR)]
/-- _law_caught(lambda: body) -/
theorem pe_cau (T : Tx X.K X.mg) (free : RG.Free X.A) {L : List (Addr × Str)} {c P : Addr} {k : Nat} {params : Arguments} {body : Expr} {scope : Scope} {t : XK → TE} {p lpos pos : Pos} (hg : Gl X "_law_caught")
    (TB : TabB X.base X.mg c P) (hcode : X.env.code = .ref c) (hmT : (P, X.env.qual ++ "<lambda>") ∈ L) (hu : ∀ p ∈ L, p.1 = P → p.2 = X.env.qual ++ "<lambda>") (hr : Room (k + 2) X.A) (LS : LamS X.env.scope scope) (hdef : defaultsOf params X.env = ([], []))
    (hbind : ∀ (q : Str) (cl : List (Str × Addr)) (pm cv ctv : Value), bindArgs (PySem.W.kla_fn "<lambda>" q params body scope cl pm cv ctv) ⟨[], []⟩ = pure [])
    (hbody : ∀ (A : Around) (outer : List Env) (s : Shared) (H : Hp) (E : XK) (f c' : Addr), Room k (A.deeper (lamEnv X scope s.heap.objs.size f c')) → PE (lamCx X A outer s H E scope f c') body (t E)) :
    PE X (.Call (.Name "_law_caught" p) [.Lambda params body scope lpos] [] pos) (tLam L (TTc X T) t) := by
  obtain ⟨oc, od, kV, doc, pm, an, cdv, ct, osl, e, lk, hcd⟩ := T.h_law_caught.F.ex
  have hb := T.h_law_caught.b
  rw [e] at lk hb
  exact pe_lamcall (Ng := ["_law_ask", "e"]) hg T.h_law_caught.m T.h_law_caught.F.kp lk hcd hb sc_law_caught rfl (.inl rfl) (caught_gives T free hr cdv _) TB hcode hmT hu hr LS hdef hbind hbody
end
end Hm

set_option Elab.async false
set_option linter.all false
set_option maxRecDepth 100000
set_option maxHeartbeats 4000000
namespace Hm
open PySem PySem.Spec PyProof.Rows L2 HT LamX
open Evl (Ex)
section
variable {P : Program} {w : World} {K : PySem.W.Frag} {mg : Str → Option Value} {base : Heap}
/-- the pair that is handed in -/
def tabO : Ob := .tup [.str "a", .str "b"]
def wrongO : List Ob := [.non, .str "ab", .int 5, .dic, .lst ([tabO] ++ [.non]), .lst ([tabO] ++ [.tup [.str "a"]]), .lst ([tabO] ++ [.lst [.str "a", .str "b"]]), .lst ([tabO] ++ [.tup [.str "a", .bl true]])]
theorem obAll_app {H : Hp} : ∀ {u v : List V} {o o' : List Ob}, ObAll K H u o → ObAll K H v o' → ObAll K H (u ++ v) (o ++ o')
  | _, _, _, _, .nil, g => g
  | _, _, _, _, .cons h r, g => .cons h (obAll_app r g)
/-- no pairs, and it may be shown -/
def badP : Ob → Bool
  | .lst xs => !((odsOf xs).all pairD) && (odsOf xs).all (fun d => decide (sizeD d ≤ 60000)) && decide (xs.length ≤ 1000)
  | .tup xs => !((odsOf xs).all pairD) && (odsOf xs).all (fun d => decide (sizeD d ≤ 60000)) && decide (xs.length ≤ 1000)
  | _ => true
def goodP (o : Ob) : Bool := shO o && SeqAt.shaped (txD "pairs" (textOf o)) && badP o
theorem goodP_iff {o : Ob} (h : goodP o = true) : shO o = true ∧ SeqAt.shaped (txD "pairs" (textOf o)) = true ∧ badP o = true := by
  unfold goodP at h
  rw [Bool.and_eq_true, Bool.and_eq_true] at h
  exact ⟨h.1.1, h.1.2, h.2⟩
/-- what is no pairs -/
theorem badP_cases {H : Hp} {v : V} {o : Ob} (h : ObAt K H v o) (b : badP o = true) : (∃ d, OdAt K H v d ∧ tyN d ≠ "list" ∧ tyN d ≠ "tuple") ∨ ∃ a xs ds, v = .ref a ∧ (H a = some (.lst xs) ∨ SqT K H a xs) ∧ OdAll K H xs ds ∧ (∀ d ∈ ds, sizeD d ≤ 60000) ∧ xs.length ≤ 1000 ∧ ds.all pairD = false := by
  have od := h.od
  cases h with
  | non => exact .inl ⟨_, od, by decide, by decide⟩
  | bl b => exact .inl ⟨_, od, (by show ("bool" : String) ≠ _; decide), (by show ("bool" : String) ≠ _; decide)⟩
  | int b => exact .inl ⟨_, od, (by show ("int" : String) ≠ _; decide), (by show ("int" : String) ≠ _; decide)⟩
  | str b => exact .inl ⟨_, od, (by show ("str" : String) ≠ _; decide), (by show ("str" : String) ≠ _; decide)⟩
  | dic h => exact .inl ⟨_, od, (by show ("dict" : String) ≠ _; decide), (by show ("dict" : String) ≠ _; decide)⟩
  | @lst a xs os h r =>
    unfold badP at b
    simp only [Bool.and_eq_true, decide_eq_true_eq, Bool.not_eq_true', List.all_eq_true] at b
    exact .inr ⟨a, xs, _, rfl, .inl h, r.od, b.1.2, by rw [r.len]; exact b.2, b.1.1⟩
  | @tup a xs os h r =>
    unfold badP at b
    simp only [Bool.and_eq_true, decide_eq_true_eq, Bool.not_eq_true', List.all_eq_true] at b
    exact .inr ⟨a, xs, _, rfl, .inr (SqT.of h), r.od, b.1.2, by rw [r.len]; exact b.2, b.1.1⟩
/-- how the error comes through _law_caught -/
theorem caught_comes {X : Cx} {T : Tx X.K X.mg} {pp C : Addr} {f : Str} {x : V} {o : Ob} {H : Hp} (hC : (C = T.a_Bap ∧ f = "pairs") ∨ (C = T.a_Bad ∧ f = "term")) (hv : ObAt X.K H x o) (g : shO o = true) (hT : Tabs (TR pp) H) {Q : VK}
    (q : ∀ p H', Ex H H' → Tabs (TR pp) H' → ObAt X.K H' x o → H' p = some (.tup [.str f, .str (textOf o)]) → Q (.ref p) H') : RG.Comes C f x H (ECau X T Q) := fun dd H2 hdd e2 hx2 => by
  refine ⟨C, f, dd, x, o, hC, rfl, rfl, hx2, hv.mono (.of e2), g, fun p hp => ?_⟩
  have e3 := e2.trans (Ex.new (o := HO.tup [V.str f, V.str (textOf o)]) hp)
  exact q p _ e3 (hT.ext e3) (hv.mono (.of e3)) upd_same
/-- the two pairs are alike -/
theorem pair_alike {H : Hp} {p p2 : Addr} {f x : Str} (h1 : H p = some (.tup [.str f, .str x])) (h2 : H p2 = some (.tup [.str f, .str x])) : Dp K H (.ref p) (txD f x) ∧ Dp K H (.ref p2) (txD f x) :=
  ⟨.tup (SqT.of h1) (.cons (.str _) (.cons (.str _) .nil)), .tup (SqT.of h2) (.cons (.str _) (.cons (.str _) .nil))⟩
theorem tx_eqv {f x : Str} (s : SeqAt.shaped (txD f x) = true) : PyData.eqv (txD f x) (txD f x) = true := SeqAt.eqv_refl _ (SeqAt.canLay_of_shaped s)
def wordsO : List Ob := [.non, .str (Str.ofString "findall"), .str (Str.ofString ""), .int 5, .lst [.str (Str.ofString "bagof")], .dic]
def goodW (o : Ob) : Bool := shO o && SeqAt.shaped (txD "pairs" (textOf o)) && (match o with | .str z => !decide (z = Str.ofString "bagof") && !decide (z = Str.ofString "setof") | _ => true)
theorem goodW_iff {o : Ob} (h : goodW o = true) : shO o = true ∧ SeqAt.shaped (txD "pairs" (textOf o)) = true ∧ ∀ z, odOf o = .str z → z ≠ Str.ofString "bagof" ∧ z ≠ Str.ofString "setof" := by
  unfold goodW at h
  rw [Bool.and_eq_true, Bool.and_eq_true] at h
  refine ⟨h.1.1, h.1.2, fun z e => ?_⟩
  have h2 := h.2
  cases o with
  | str y =>
    simp only [Bool.and_eq_true, Bool.not_eq_true', decide_eq_false_iff_not] at h2
    have e : y = z := by
      unfold odOf at e
      injection e
    rw [← e]
    exact h2
  | _ => unfold odOf at e; cases e
def termsO : List Ob := [.non, .bl true, .lst [.int 1], .dic, .tup [], .tup [.str (Str.ofString "f"), .non]]
def goodT (o : Ob) : Bool := shO o && SeqAt.shaped (txD "term" (textOf o)) && !isT (odOf o) && decide (sizeD (odOf o) ≤ 60000)
theorem goodT_iff {o : Ob} (h : goodT o = true) : shO o = true ∧ SeqAt.shaped (txD "term" (textOf o)) = true ∧ isT (odOf o) = false ∧ sizeD (odOf o) ≤ 60000 := by
  unfold goodT at h
  simp only [Bool.and_eq_true, Bool.not_eq_true', decide_eq_true_eq] at h
  exact ⟨h.1.1.1, h.1.1.2, h.1.2, h.2⟩
def spRefR (K : PySem.W.Frag) (pp : Addr) : Sp := fun vs H Q _ => ∃ a xs, vs = [.ref a] ∧ H a = some (.lst xs) ∧ ObAll K H xs [tabO] ∧ Tabs (TR pp) H ∧ ∀ H', ExtN H H' → Tabs (TR pp) H' → Q (.bl true) H'
theorem ok_law_refused_right (T : Tx K mg) {pp : Addr} (TB : TabB base mg T.cc pp) : RG.FnG P w K mg base CX0 14 T.f_law_refused_right T.d_law_refused_right ["_law_some"] (spRefR K pp) := by
  refine T.h_law_refused_right.free sc_law_refused_right (fun vs H Q E h => ?_) (fun A outer s H vs Q E free hr h => ?_)
  · obtain ⟨a, xs, rfl, _⟩ := h
    rfl
  obtain ⟨a, xs, rfl, hS, hX, hT, q⟩ := h
  have hu := hr.units
  have hu2 : (A.deeper (envOfC "_law_refused_right" (defScope s_law_refused_right) s.heap.objs.size T.f_law_refused_right (.ref T.cc))).units + 64 < cLine := hu
  refine ⟨_, (pss_cons (ps_set (i := 1) sc_law_refused_right.nd rfl (Or.inl rfl) (pe_lst (pa_cons pe_non (pa_cons pe_str (pa_cons pe_int (pa_cons pe_dnewK (pa_cons (pe_op op_catL (pv 0) (pe_lst (pa_cons pe_non pa_nil))) (pa_cons (pe_op op_catL (pv 0) (pe_lst (pa_cons (pe_tup (pa_cons pe_str pa_nil)) pa_nil))) (pa_cons (pe_op op_catL (pv 0) (pe_lst (pa_cons (pe_lst (pa_cons pe_str (pa_cons pe_str pa_nil))) pa_nil))) (pa_cons (pe_op op_catL (pv 0) (pe_lst (pa_cons (pe_tup (pa_cons pe_str (pa_cons pe_bl pa_nil))) pa_nil))) pa_nil))))))))))
    (pss_cons (ps_for PassesOwn.never rfl (pi_list (pe_op op_catL (pv 1) (pe_lst (pa_cons (pe_lst (pa_cons (pe_tup (pa_cons pe_int (pa_cons pe_int (pa_cons pe_int pa_nil)))) pa_nil)) pa_nil)))) (pg_name (i := 2) sc_law_refused_right.nd rfl (Or.inr rfl))
      (pss_one (ps_if (pt_cmpR (op_neD hu) (pe_cau T free (L := TR pp) (k := 10) rfl TB rfl (List.mem_singleton.mpr rfl) (fun p hp _ => by rw [List.mem_singleton.mp hp]; rfl) (hr.mono (by decide)) (show LamS (defScope s_law_refused_right) _ from lamS_by (by decide +kernel)) rfl (fun _ _ _ _ _ => rfl) ((fun A outer s H E f c2 hr2 => pe_callS (ok_grouped T) hr2 rfl T.h_grouped.m T.h_grouped.F.kp T.h_grouped.b (fun σ => passAt (takes_of rfl rfl rfl rfl) σ) (pa_cons pe_str (pa_cons (pv 2) pa_nil))))) (pe_tup (pa_cons pe_str (pa_cons (pe_callB (RG.call_reprE free hu2) rfl T.b_repr (by decide +kernel) (pa_cons (pv 2) pa_nil)) pa_nil))) (nomark _))
      (pss_one (ps_ret pe_bl))
      pss_nil)))
    (pss_cons (ps_for PassesOwn.never rfl (pi_tup (pe_tup (pa_cons pe_non (pa_cons pe_str (pa_cons pe_str (pa_cons pe_int (pa_cons (pe_lst (pa_cons pe_str pa_nil)) (pa_cons pe_dnewK pa_nil)))))))) (pg_name (i := 3) sc_law_refused_right.nd rfl (Or.inr rfl))
      (pss_one (ps_if (pt_cmpR (op_neD hu) (pe_cau T free (L := TR pp) (k := 10) rfl TB rfl (List.mem_singleton.mpr rfl) (fun p hp _ => by rw [List.mem_singleton.mp hp]; rfl) (hr.mono (by decide)) (show LamS (defScope s_law_refused_right) _ from lamS_by (by decide +kernel)) rfl (fun _ _ _ _ _ => rfl) ((fun A outer s H E f c2 hr2 => pe_callS (ok_grouped T) hr2 rfl T.h_grouped.m T.h_grouped.F.kp T.h_grouped.b (fun σ => passAt (takes_of rfl rfl rfl rfl) σ) (pa_cons (pv 3) (pa_cons (pv 0) pa_nil))))) (pe_tup (pa_cons pe_str (pa_cons (pe_callB (RG.call_reprE free hu2) rfl T.b_repr (by decide +kernel) (pa_cons (pv 3) pa_nil)) pa_nil))) (nomark _))
      (pss_one (ps_ret pe_bl))
      pss_nil)))
    (pss_cons (ps_for PassesOwn.never rfl (pi_tup (pe_tup (pa_cons pe_non (pa_cons pe_bl (pa_cons (pe_lst (pa_cons pe_int pa_nil)) (pa_cons pe_dnewK (pa_cons (pe_tup pa_nil) (pa_cons (pe_tup (pa_cons pe_str (pa_cons pe_non pa_nil))) pa_nil)))))))) (pg_name (i := 2) sc_law_refused_right.nd rfl (Or.inr rfl))
      (pss_cons (ps_if (pt_cmpR (op_neD hu) (pe_cau T free (L := TR pp) (k := 10) rfl TB rfl (List.mem_singleton.mpr rfl) (fun p hp _ => by rw [List.mem_singleton.mp hp]; rfl) (hr.mono (by decide)) (show LamS (defScope s_law_refused_right) _ from lamS_by (by decide +kernel)) rfl (fun _ _ _ _ _ => rfl) ((fun A outer s H E f c2 hr2 => pe_callS (ok_free_of T) (hr2.mono (by decide)) rfl T.h_free_of.m T.h_free_of.F.kp T.h_free_of.b (fun σ => passAt (takes_of rfl rfl rfl rfl) σ) (pa_cons (pv 2) (pa_cons (pv 2) pa_nil))))) (pe_tup (pa_cons pe_str (pa_cons (pe_callB (RG.call_reprE free hu2) rfl T.b_repr (by decide +kernel) (pa_cons (pv 2) pa_nil)) pa_nil))) (nomark _))
      (pss_one (ps_ret pe_bl))
      pss_nil)
    (pss_one (ps_if (pt_cmpR (op_neD hu) (pe_cau T free (L := TR pp) (k := 10) rfl TB rfl (List.mem_singleton.mpr rfl) (fun p hp _ => by rw [List.mem_singleton.mp hp]; rfl) (hr.mono (by decide)) (show LamS (defScope s_law_refused_right) _ from lamS_by (by decide +kernel)) rfl (fun _ _ _ _ _ => rfl) ((fun A outer s H E f c2 hr2 => pe_callS (ok_free_of T) (hr2.mono (by decide)) rfl T.h_free_of.m T.h_free_of.F.kp T.h_free_of.b (fun σ => passAt (takes_of rfl rfl rfl rfl) σ) (pa_cons pe_str (pa_cons (pv 2) pa_nil))))) (pe_tup (pa_cons pe_str (pa_cons (pe_callB (RG.call_reprE free hu2) rfl T.b_repr (by decide +kernel) (pa_cons (pv 2) pa_nil)) pa_nil))) (nomark _))
      (pss_one (ps_ret pe_bl))
      pss_nil))))
    (pss_one (ps_ret (pe_and (pe_cmpR (op_eqD hu) (cl (ok_gpd0 T) T.h_grouped hr (pa_cons pe_str (pa_cons (pe_lst pa_nil) pa_nil))) (pe_lst pa_nil) (nomark _)) (pe_one (pe_cmpR (op_eqD hu) (cl (ok_gpd0 T) T.h_grouped hr (pa_cons pe_str (pa_cons (pe_tup pa_nil) pa_nil))) (pe_lst pa_nil) (nomark _)))))))))), ?_⟩
  have lx := hX.len
  have ob : ∀ {H1 H2 : Hp} {v : V} {o : Ob}, Ex H1 H2 → ObAt K H1 v o → ObAt K H2 v o := fun e h => h.mono (.of e)
  have obs : ∀ {H1 H2 : Hp} {v : List V} {o : List Ob}, Ex H1 H2 → ObAll K H1 v o → ObAll K H2 v o := fun e h => h.mono (.of e)
  have app : ∀ {H1 : Hp} {u v : List V} {o o' : List Ob}, ObAll K H1 u o → ObAll K H1 v o' → ObAll K H1 (u ++ v) (o ++ o') := fun h g => obAll_app h g
  intro d hd
  have e1 := Ex.new (o := HO.dK []) hd
  have od1 : ObAt K (upd H d (.dK [])) (.ref d) .dic := .dic upd_same
  generalize upd H d (.dK []) = H1 at *
  -- some + [None]
  refine ⟨_, rfl, (by show 1 ≤ sizeLine; decide), fun l1 hl1 => ?_⟩
  have e2 := Ex.new (o := HO.lst [V.non]) hl1
  have hl12 : (upd H1 l1 (.lst [V.non])) l1 = some (.lst [V.non]) := upd_same
  generalize upd H1 l1 (.lst [V.non]) = H2 at *
  refine ⟨a, l1, xs, _, rfl, rfl, SqL.of ((e1.trans e2) _ _ hS), hl12, small5 (by show xs.length + 1 ≤ _; rw [lx]; decide), fun r1 hr1 => ?_⟩
  have e3 := Ex.new (o := HO.lst (xs ++ [V.non])) hr1
  have or3 : ObAt K (upd H2 r1 (.lst (xs ++ [V.non]))) (.ref r1) (.lst ([tabO] ++ [.non])) := .lst upd_same (app (obs ((e1.trans e2).trans e3) hX) (.cons .non .nil))
  generalize upd H2 r1 (.lst (xs ++ [V.non])) = H3 at *
  have e03 := (e1.trans e2).trans e3
  -- some + [("a",)]
  refine ⟨_, rfl, (by show 1 ≤ sizeLine; decide), fun t2 ht2 => ⟨(by show 1 ≤ sizeLine; decide), fun l2 hl2 => ?_⟩⟩
  have e4 := Ex.new (o := HO.tup [V.str "a"]) ht2
  have ot4 : ObAt K (upd H3 t2 (.tup [V.str "a"])) (.ref t2) (.tup [.str "a"]) := .tup upd_same (.cons (.str _) .nil)
  generalize upd H3 t2 (.tup [V.str "a"]) = H4 at *
  have e5 := Ex.new (o := HO.lst [V.ref t2]) hl2
  have hl25 : (upd H4 l2 (.lst [V.ref t2])) l2 = some (.lst [V.ref t2]) := upd_same
  generalize upd H4 l2 (.lst [V.ref t2]) = H5 at *
  have e05 := (e03.trans e4).trans e5
  refine ⟨a, l2, xs, _, rfl, rfl, SqL.of (e05 _ _ hS), hl25, small5 (by show xs.length + 1 ≤ _; rw [lx]; decide), fun r2 hr2 => ?_⟩
  have e6 := Ex.new (o := HO.lst (xs ++ [V.ref t2])) hr2
  have or6 : ObAt K (upd H5 r2 (.lst (xs ++ [V.ref t2]))) (.ref r2) (.lst ([tabO] ++ [.tup [.str "a"]])) := .lst upd_same (app (obs (e05.trans e6) hX) (.cons (ob (e5.trans e6) ot4) .nil))
  generalize upd H5 r2 (.lst (xs ++ [V.ref t2])) = H6 at *
  have e06 := e05.trans e6
  -- some + [["a", "b"]]
  refine ⟨_, rfl, (by show 2 ≤ sizeLine; decide), fun t3 ht3 => ⟨(by show 1 ≤ sizeLine; decide), fun l3 hl3 => ?_⟩⟩
  have e7 := Ex.new (o := HO.lst [V.str "a", V.str "b"]) ht3
  have ot7 : ObAt K (upd H6 t3 (.lst [V.str "a", V.str "b"])) (.ref t3) (.lst [.str "a", .str "b"]) := .lst upd_same (.cons (.str _) (.cons (.str _) .nil))
  generalize upd H6 t3 (.lst [V.str "a", V.str "b"]) = H7 at *
  have e8 := Ex.new (o := HO.lst [V.ref t3]) hl3
  have hl38 : (upd H7 l3 (.lst [V.ref t3])) l3 = some (.lst [V.ref t3]) := upd_same
  generalize upd H7 l3 (.lst [V.ref t3]) = H8 at *
  have e08 := (e06.trans e7).trans e8
  refine ⟨a, l3, xs, _, rfl, rfl, SqL.of (e08 _ _ hS), hl38, small5 (by show xs.length + 1 ≤ _; rw [lx]; decide), fun r3 hr3 => ?_⟩
  have e9 := Ex.new (o := HO.lst (xs ++ [V.ref t3])) hr3
  have or9 : ObAt K (upd H8 r3 (.lst (xs ++ [V.ref t3]))) (.ref r3) (.lst ([tabO] ++ [.lst [.str "a", .str "b"]])) := .lst upd_same (app (obs (e08.trans e9) hX) (.cons (ob (e8.trans e9) ot7) .nil))
  generalize upd H8 r3 (.lst (xs ++ [V.ref t3])) = H9 at *
  have e09 := e08.trans e9
  -- some + [("a", True)]
  refine ⟨_, rfl, (by show 2 ≤ sizeLine; decide), fun t4 ht4 => ⟨(by show 1 ≤ sizeLine; decide), fun l4 hl4 => ?_⟩⟩
  have e10 := Ex.new (o := HO.tup [V.str "a", V.bl true]) ht4
  have ot10 : ObAt K (upd H9 t4 (.tup [V.str "a", V.bl true])) (.ref t4) (.tup [.str "a", .bl true]) := .tup upd_same (.cons (.str _) (.cons (.bl _) .nil))
  generalize upd H9 t4 (.tup [V.str "a", V.bl true]) = H10 at *
  have e11 := Ex.new (o := HO.lst [V.ref t4]) hl4
  have hl411 : (upd H10 l4 (.lst [V.ref t4])) l4 = some (.lst [V.ref t4]) := upd_same
  generalize upd H10 l4 (.lst [V.ref t4]) = H11 at *
  have e011 := (e09.trans e10).trans e11
  refine ⟨a, l4, xs, _, rfl, rfl, SqL.of (e011 _ _ hS), hl411, small5 (by show xs.length + 1 ≤ _; rw [lx]; decide), fun r4 hr4 => ⟨(by show 8 ≤ sizeLine; decide), fun wr hwr => ?_⟩⟩
  have e12 := Ex.new (o := HO.lst (xs ++ [V.ref t4])) hr4
  have or12 : ObAt K (upd H11 r4 (.lst (xs ++ [V.ref t4]))) (.ref r4) (.lst ([tabO] ++ [.tup [.str "a", .bl true]])) := .lst upd_same (app (obs (e011.trans e12) hX) (.cons (ob (e11.trans e12) ot10) .nil))
  generalize upd H11 r4 (.lst (xs ++ [V.ref t4])) = H12 at *
  have e012 := e011.trans e12
  have all12 : ObAll K H12 [.non, .str "ab", .int 5, .ref d, .ref r1, .ref r2, .ref r3, .ref r4] wrongO :=
    .cons .non (.cons (.str _) (.cons (.int _) (.cons (ob ((e2.trans e3).trans ((e4.trans (e5.trans e6)).trans ((e7.trans (e8.trans e9)).trans (e10.trans (e11.trans e12))))) od1) (.cons (ob ((e4.trans (e5.trans e6)).trans ((e7.trans (e8.trans e9)).trans (e10.trans (e11.trans e12)))) or3) (.cons (ob ((e7.trans (e8.trans e9)).trans (e10.trans (e11.trans e12))) or6) (.cons (ob (e10.trans (e11.trans e12)) or9) (.cons or12 .nil)))))))
  have e13 := Ex.new (o := HO.lst [.non, .str "ab", .int 5, .ref d, .ref r1, .ref r2, .ref r3, .ref r4]) hwr
  have hwr13 : (upd H12 wr (.lst [.non, .str "ab", .int 5, .ref d, .ref r1, .ref r2, .ref r3, .ref r4])) wr = some (.lst [.non, .str "ab", .int 5, .ref d, .ref r1, .ref r2, .ref r3, .ref r4]) := upd_same
  have all13 := obs e13 all12
  generalize upd H12 wr (.lst [.non, .str "ab", .int 5, .ref d, .ref r1, .ref r2, .ref r3, .ref r4]) = H13 at *
  generalize [V.non, V.str "ab", V.int 5, V.ref d, V.ref r1, V.ref r2, V.ref r3, V.ref r4] = ws at *
  have lws := all13.len
  refine ⟨_, rfl, (by show 3 ≤ sizeLine; decide), fun t5 ht5 => ⟨(by show 1 ≤ sizeLine; decide), fun l5 hl5 => ⟨(by show 1 ≤ sizeLine; decide), fun l6 hl6 => ?_⟩⟩⟩
  have e14 := Ex.new (o := HO.tup [V.int 1, V.int 2, V.int 3]) ht5
  have ot14 : ObAt K (upd H13 t5 (.tup [V.int 1, V.int 2, V.int 3])) (.ref t5) (.tup [.int 1, .int 2, .int 3]) := .tup upd_same (.cons (.int _) (.cons (.int _) (.cons (.int _) .nil)))
  generalize upd H13 t5 (.tup [V.int 1, V.int 2, V.int 3]) = H14 at *
  have e15 := Ex.new (o := HO.lst [V.ref t5]) hl5
  have ol15 : ObAt K (upd H14 l5 (.lst [V.ref t5])) (.ref l5) (.lst [.tup [.int 1, .int 2, .int 3]]) := .lst upd_same (.cons (ob e15 ot14) .nil)
  generalize upd H14 l5 (.lst [V.ref t5]) = H15 at *
  have e16 := Ex.new (o := HO.lst [V.ref l5]) hl6
  have hl616 : (upd H15 l6 (.lst [V.ref l5])) l6 = some (.lst [V.ref l5]) := upd_same
  generalize upd H15 l6 (.lst [V.ref l5]) = H16 at *
  have e1316 := (e14.trans e15).trans e16
  refine ⟨wr, l6, ws, _, rfl, rfl, SqL.of (e1316 _ _ hwr13), hl616, small5 (by rw [lws]; show 8 + 1 ≤ _; decide), fun w9 hw9 => ?_⟩
  have e17 := Ex.new (o := HO.lst (ws ++ [V.ref l5])) hw9
  have hw917 : (upd H16 w9 (.lst (ws ++ [V.ref l5]))) w9 = some (.lst (ws ++ [V.ref l5])) := upd_same
  have all17 : ObAll K (upd H16 w9 (.lst (ws ++ [V.ref l5]))) (ws ++ [V.ref l5]) (wrongO ++ [.lst [.tup [.int 1, .int 2, .int 3]]]) := app (obs (e1316.trans e17) all13) (.cons (ob (e16.trans e17) ol15) .nil)
  generalize upd H16 w9 (.lst (ws ++ [V.ref l5])) = H17 at *
  have e017 := e012.trans (e13.trans (e1316.trans e17))
  have hT17 := hT.ext e017
  have gW : (wrongO ++ [Ob.lst [.tup [.int 1, .int 2, .int 3]]]).all goodP = true := by decide +kernel
  refine ⟨w9, rfl, ⟨_, SqL.of hw917⟩, for_list (fun i σ' H' => ∃ x2 x3, σ' = [some (.ref a), some (.ref wr), x2, x3] ∧ ExtN H17 H' ∧ Tabs (TR pp) H') ⟨_, _, rfl, ExtN.refl _, hT17⟩ (fun i σ' H' _ ⟨_, _, _, e, _⟩ => SqL.of (e _ _ hw917 fun ps z => by cases z)) ?_ ?_⟩
  · rintro i x σ' H18 hx ⟨x2, x3, rfl, e18, hT18⟩
    obtain ⟨o, ho, hv⟩ := all17.get hx
    have go := List.all_eq_true.mp gW o (List.mem_of_getElem? ho)
    obtain ⟨g1, g2, g3⟩ := goodP_iff go
    refine ⟨hT18, fun H19 e19 hT19 => ?_⟩
    have hv19 := (hv.mono e18).mono e19
    refine ⟨_, rfl, .str (Str.ofString "bagof"), x, rfl, .inr ⟨Str.ofString "bagof", rfl, .inl rfl, ?_⟩⟩
    rcases badP_cases hv19 g3 with ⟨dd, h1, h2, h3⟩ | ⟨a', xs', ds, rfl, h1, h2, h3, h4, h5⟩
    · refine .inl ⟨dd, h1, h2, h3, caught_comes (pp := pp) (.inl ⟨rfl, rfl⟩) hv19 g1 hT19 fun p H20 e20 hT20 hv20 hp20 => ?_⟩
      refine ⟨_, rfl, hv20.rep g1 ⟨(by show 2 ≤ sizeLine; decide), fun p2 hp2 => ?_⟩⟩
      have e21 := Ex.new (o := HO.tup [V.str (Str.ofString "pairs"), V.str (textOf o)]) hp2
      obtain ⟨k1, k2⟩ := pair_alike (K := K) (e21 _ _ hp20) (show (upd H20 p2 (.tup [V.str (Str.ofString "pairs"), V.str (textOf o)])) p2 = _ from upd_same)
      refine ⟨_, _, k1, k2, g2, g2, _, rfl, ?_⟩
      rw [tx_eqv g2]
      exact iteF ⟨_, _, rfl, (e18.trans e19).trans (.of (e20.trans e21)), hT20.ext e21⟩
    · refine .inr (.inl ⟨a', xs', ds, rfl, h1, h2, h3, h4, h5, caught_comes (pp := pp) (.inl ⟨rfl, rfl⟩) hv19 g1 hT19 fun p H20 e20 hT20 hv20 hp20 => ?_⟩)
      refine ⟨_, rfl, hv20.rep g1 ⟨(by show 2 ≤ sizeLine; decide), fun p2 hp2 => ?_⟩⟩
      have e21 := Ex.new (o := HO.tup [V.str (Str.ofString "pairs"), V.str (textOf o)]) hp2
      obtain ⟨k1, k2⟩ := pair_alike (K := K) (e21 _ _ hp20) (show (upd H20 p2 (.tup [V.str (Str.ofString "pairs"), V.str (textOf o)])) p2 = _ from upd_same)
      refine ⟨_, _, k1, k2, g2, g2, _, rfl, ?_⟩
      rw [tx_eqv g2]
      exact iteF ⟨_, _, rfl, (e18.trans e19).trans (.of (e20.trans e21)), hT20.ext e21⟩
  · rintro σ' H18 ⟨x2, x3, rfl, e18', hT18'⟩
    have e018 : ExtN H H18 := (ExtN.of e017).trans e18'
    -- words
    refine ⟨(by show 1 ≤ sizeLine; decide), fun lb hlb => ?_⟩
    have e20 := Ex.new (o := HO.lst [V.str (Str.ofString "bagof")]) hlb
    have ob20 : ObAt K (upd H18 lb (.lst [V.str (Str.ofString "bagof")])) (.ref lb) (.lst [.str (Str.ofString "bagof")]) := .lst upd_same (.cons (.str _) .nil)
    generalize upd H18 lb (.lst [V.str (Str.ofString "bagof")]) = H20 at *
    intro dd hdd
    have e21 := Ex.new (o := HO.dK []) hdd
    have od21 : ObAt K (upd H20 dd (.dK [])) (.ref dd) .dic := .dic upd_same
    generalize upd H20 dd (.dK []) = H21 at *
    refine ⟨(by show 6 ≤ sizeLine; decide), fun tw htw => ?_⟩
    have e22 := Ex.new (o := HO.tup [.non, .str (Str.ofString "findall"), .str (Str.ofString ""), .int 5, .ref lb, .ref dd]) htw
    have htw22 : (upd H21 tw (.tup [.non, .str (Str.ofString "findall"), .str (Str.ofString ""), .int 5, .ref lb, .ref dd])) tw = some (.tup [.non, .str (Str.ofString "findall"), .str (Str.ofString ""), .int 5, .ref lb, .ref dd]) := upd_same
    have all22 : ObAll K (upd H21 tw (.tup [.non, .str (Str.ofString "findall"), .str (Str.ofString ""), .int 5, .ref lb, .ref dd])) [.non, .str (Str.ofString "findall"), .str (Str.ofString ""), .int 5, .ref lb, .ref dd] wordsO :=
      .cons .non (.cons (.str _) (.cons (.str _) (.cons (.int _) (.cons (ob (e21.trans e22) ob20) (.cons (ob e22 od21) .nil)))))
    generalize upd H21 tw (.tup [.non, .str (Str.ofString "findall"), .str (Str.ofString ""), .int 5, .ref lb, .ref dd]) = H22 at *
    have e1822 := e20.trans (e21.trans e22)
    have hT22 := hT18'.ext e1822
    have gW2 : wordsO.all goodW = true := by decide +kernel
    refine ⟨tw, rfl, ⟨_, SqT.of htw22⟩, for_tup (fun i σ' H' => ∃ x2 x3, σ' = [some (.ref a), some (.ref wr), x2, x3] ∧ ExtN H22 H' ∧ Tabs (TR pp) H') ⟨_, _, rfl, ExtN.refl _, hT22⟩ (fun i σ' H' _ ⟨_, _, _, e, _⟩ => SqT.of (e _ _ htw22 fun ps z => by cases z)) ?_ ?_⟩
    · rintro i x σ' H18 hx ⟨x2, x3, rfl, e18, hT18⟩
      obtain ⟨o, ho, hv⟩ := all22.get hx
      have go := List.all_eq_true.mp gW2 o (List.mem_of_getElem? ho)
      obtain ⟨g1, g2, g3⟩ := goodW_iff go
      refine ⟨hT18, fun H19 e19 hT19 => ?_⟩
      have hv19 := (hv.mono e18).mono e19
      refine ⟨_, rfl, _, rfl, x, .ref a, rfl, .inl ⟨odOf o, hv19.od, g3, caught_comes (pp := pp) (.inl ⟨rfl, rfl⟩) hv19 g1 hT19 fun p H20 e20 hT20 hv20 hp20 => ?_⟩⟩
      refine ⟨_, rfl, hv20.rep g1 ⟨(by show 2 ≤ sizeLine; decide), fun p2 hp2 => ?_⟩⟩
      have e21 := Ex.new (o := HO.tup [V.str (Str.ofString "pairs"), V.str (textOf o)]) hp2
      obtain ⟨k1, k2⟩ := pair_alike (K := K) (e21 _ _ hp20) (show (upd H20 p2 (.tup [V.str (Str.ofString "pairs"), V.str (textOf o)])) p2 = _ from upd_same)
      refine ⟨_, _, k1, k2, g2, g2, _, rfl, ?_⟩
      rw [tx_eqv g2]
      exact iteF ⟨_, _, rfl, (e18.trans e19).trans (.of (e20.trans e21)), hT20.ext e21⟩
    · rintro σ' H23 ⟨x2, x3, rfl, e23, hT23⟩
      -- terms
      refine ⟨(by show 1 ≤ sizeLine; decide), fun lc hlc => ?_⟩
      have e24 := Ex.new (o := HO.lst [V.int 1]) hlc
      have ob24 : ObAt K (upd H23 lc (.lst [V.int 1])) (.ref lc) (.lst [.int 1]) := .lst upd_same (.cons (.int _) .nil)
      generalize upd H23 lc (.lst [V.int 1]) = H24 at *
      intro de hde
      have e25 := Ex.new (o := HO.dK []) hde
      have od25 : ObAt K (upd H24 de (.dK [])) (.ref de) .dic := .dic upd_same
      generalize upd H24 de (.dK []) = H25 at *
      refine ⟨Nat.zero_le _, fun t0 ht0 => ?_⟩
      have e26 := Ex.new (o := HO.tup []) ht0
      have ot26 : ObAt K (upd H25 t0 (.tup [])) (.ref t0) (.tup []) := .tup upd_same .nil
      generalize upd H25 t0 (.tup []) = H26 at *
      refine ⟨(by show 2 ≤ sizeLine; decide), fun tf htf => ?_⟩
      have e27 := Ex.new (o := HO.tup [V.str (Str.ofString "f"), V.non]) htf
      have ot27 : ObAt K (upd H26 tf (.tup [V.str (Str.ofString "f"), V.non])) (.ref tf) (.tup [.str (Str.ofString "f"), .non]) := .tup upd_same (.cons (.str _) (.cons .non .nil))
      generalize upd H26 tf (.tup [V.str (Str.ofString "f"), V.non]) = H27 at *
      refine ⟨(by show 6 ≤ sizeLine; decide), fun tw2 htw2 => ?_⟩
      have e28 := Ex.new (o := HO.tup [.non, .bl true, .ref lc, .ref de, .ref t0, .ref tf]) htw2
      have htw28 : (upd H27 tw2 (.tup [.non, .bl true, .ref lc, .ref de, .ref t0, .ref tf])) tw2 = some (.tup [.non, .bl true, .ref lc, .ref de, .ref t0, .ref tf]) := upd_same
      have all28 : ObAll K (upd H27 tw2 (.tup [.non, .bl true, .ref lc, .ref de, .ref t0, .ref tf])) [.non, .bl true, .ref lc, .ref de, .ref t0, .ref tf] termsO :=
        .cons .non (.cons (.bl _) (.cons (ob (e25.trans (e26.trans (e27.trans e28))) ob24) (.cons (ob (e26.trans (e27.trans e28)) od25) (.cons (ob (e27.trans e28) ot26) (.cons (ob e28 ot27) .nil)))))
      generalize upd H27 tw2 (.tup [.non, .bl true, .ref lc, .ref de, .ref t0, .ref tf]) = H28 at *
      have e2328 := e24.trans (e25.trans (e26.trans (e27.trans e28)))
      have hT28 := hT23.ext e2328
      have gW3 : termsO.all goodT = true := by decide +kernel
      refine ⟨tw2, rfl, ⟨_, SqT.of htw28⟩, for_tup (fun i σ' H' => ∃ x2 x3, σ' = [some (.ref a), some (.ref wr), x2, x3] ∧ ExtN H28 H' ∧ Tabs (TR pp) H') ⟨_, _, rfl, ExtN.refl _, hT28⟩ (fun i σ' H' _ ⟨_, _, _, e, _⟩ => SqT.of (e _ _ htw28 fun ps z => by cases z)) ?_ ?_⟩
      · rintro i x σ' H18 hx ⟨x2, x3, rfl, e18, hT18⟩
        obtain ⟨o, ho, hv⟩ := all28.get hx
        have go := List.all_eq_true.mp gW3 o (List.mem_of_getElem? ho)
        obtain ⟨g1, g2, g3, g4⟩ := goodT_iff go
        refine ⟨hT18, fun H19 e19 hT19 => ?_⟩
        have hv19 := (hv.mono e18).mono e19
        refine ⟨_, rfl, _, rfl, x, x, odOf o, odOf o, rfl, hv19.od, hv19.od, g4, g4, .inl ⟨g3, caught_comes (pp := pp) (.inr ⟨rfl, rfl⟩) hv19 g1 hT19 fun p H20 e20 hT20 hv20 hp20 => ?_⟩⟩
        refine ⟨_, rfl, hv20.rep g1 ⟨(by show 2 ≤ sizeLine; decide), fun p2 hp2 => ?_⟩⟩
        have e21 := Ex.new (o := HO.tup [V.str (Str.ofString "term"), V.str (textOf o)]) hp2
        obtain ⟨k1, k2⟩ := pair_alike (K := K) (e21 _ _ hp20) (show (upd H20 p2 (.tup [V.str (Str.ofString "term"), V.str (textOf o)])) p2 = _ from upd_same)
        refine ⟨_, _, k1, k2, g2, g2, _, rfl, ?_⟩
        rw [tx_eqv g2]
        have hT21 := hT20.ext e21
        have hv21 := ob e21 hv20
        have e1821 := (e18.trans e19).trans (.of (e20.trans e21))
        generalize upd H20 p2 (.tup [V.str (Str.ofString "term"), V.str (textOf o)]) = H21 at *
        refine iteF ⟨hT21, fun H29 e29 hT29 => ?_⟩
        have hv29 := hv21.mono e29
        refine ⟨_, rfl, .str (Str.ofString "a"), x, .str (Str.ofString "a"), odOf o, rfl, .str _, hv29.od, by decide +kernel, g4, .inr (.inl ⟨by decide +kernel, g3, caught_comes (pp := pp) (.inr ⟨rfl, rfl⟩) hv29 g1 hT29 fun p H30 e30 hT30 hv30 hp30 => ?_⟩)⟩
        refine ⟨_, rfl, hv30.rep g1 ⟨(by show 2 ≤ sizeLine; decide), fun p2 hp2 => ?_⟩⟩
        have e31 := Ex.new (o := HO.tup [V.str (Str.ofString "term"), V.str (textOf o)]) hp2
        obtain ⟨k1, k2⟩ := pair_alike (K := K) (e31 _ _ hp30) (show (upd H30 p2 (.tup [V.str (Str.ofString "term"), V.str (textOf o)])) p2 = _ from upd_same)
        refine ⟨_, _, k1, k2, g2, g2, _, rfl, ?_⟩
        rw [tx_eqv g2]
        exact iteF ⟨_, _, rfl, (e1821.trans e29).trans (.of (e30.trans e31)), hT30.ext e31⟩
      · rintro σ' H30 ⟨x2, x3, rfl, e30, hT30⟩
        have none_p : ∀ {p : Addr} {gv : List V} {H0 H1 : Hp}, PySem.Paired (fun x g => GrAt K H0 p H1 g x) gv ((gsOf (sortW [])).map fun g => (g.1, FinW (Str.ofString "setof") g.2)) → gv = [] := fun h => by
          have h : PySem.Paired _ _ [] := h
          cases h
          rfl
        have none_q : ∀ {p : Addr} {gv : List V} {H0 H1 : Hp}, PySem.Paired (fun x g => GrAt K H0 p H1 g x) gv ((gsOf (sortW [])).map fun g => (g.1, FinW (Str.ofString "bagof") g.2)) → gv = [] := fun h => by
          have h : PySem.Paired _ _ [] := h
          cases h
          rfl
        refine ⟨Nat.zero_le _, fun la hla => ?_⟩
        have e31 := Ex.new (o := HO.lst []) hla
        refine ⟨Str.ofString "setof", la, [], [], rfl, .inr rfl, .inl upd_same, .nil, fun p hp => absurd hp List.not_mem_nil, by show 0 ≤ 30; decide, fun p gv H32 hp e32 hg hP => ?_⟩
        obtain rfl := none_p hP
        refine ⟨Nat.zero_le _, fun lb2 hlb2 => ?_⟩
        have e33 := Ex.new (o := HO.lst []) hlb2
        refine ⟨_, _, .lst (SqL.of (e33 _ _ hg)) .nil, .lst (SqL.of upd_same) .nil, rfl, rfl, true, rfl, iteT ⟨Nat.zero_le _, fun t1 ht1 => ?_⟩⟩
        have e34 := Ex.new (o := HO.tup []) ht1
        refine ⟨Str.ofString "bagof", t1, [], [], rfl, .inl rfl, .inr (SqT.of upd_same), .nil, fun p hp => absurd hp List.not_mem_nil, by show 0 ≤ 30; decide, fun p gv H35 hp e35 hg2 hP2 => ?_⟩
        obtain rfl := none_q hP2
        refine ⟨Nat.zero_le _, fun lb3 hlb3 => ?_⟩
        have e36 := Ex.new (o := HO.lst []) hlb3
        have eF := (e31.trans e32).trans ((e33.trans e34).trans (e35.trans e36))
        refine ⟨_, _, .lst (SqL.of (e36 _ _ hg2)) .nil, .lst (SqL.of upd_same) .nil, rfl, rfl, ?_⟩
        exact q _ (e018.trans ((ExtN.of e1822).trans (e23.trans ((ExtN.of e2328).trans (e30.trans (.of eF)))))) (hT30.ext eF)
end
end Hm

set_option Elab.async false
set_option linter.all false
set_option maxRecDepth 100000
set_option maxHeartbeats 1000000
namespace Hm
open PySem PySem.Spec PyProof.Rows L2 HT
open Evl (Ex)
open SrtO
/-! ## a term's text is not too long -/
def Vl (t : Tm) : Prop := ∀ k ∈ (pre t).flatMap vOne, k < 5
def Vls (ts : List Tm) : Prop := ∀ k ∈ (pres ts).flatMap vOne, k < 5
theorem vl_var {k : Int} (h : Vl (.var k)) : k < 5 := h k (by simp [pre, vOne])
theorem vl_comp {f : Str} {as : List Tm} (h : Vl (.comp f as)) : Vls as := fun k hk => h k (by
  rw [show pre (.comp f as) = .comp f as :: pres as from rfl, List.flatMap_cons]
  exact List.mem_append_right _ hk)
theorem vls_cons {t : Tm} {ts : List Tm} (h : Vls (t :: ts)) : Vl t ∧ Vls ts := by
  unfold Vls at h
  rw [pres_cons, List.flatMap_append] at h
  exact ⟨fun k hk => h k (List.mem_append_left _ hk), fun k hk => h k (List.mem_append_right _ hk)⟩
theorem log_of {i : Int} (h : i.natAbs < 2 ^ 1000) : i.natAbs.log2 < 1920 := Nat.lt_of_lt_of_le (PySem.Flt.log2_lt_of (by decide) h) (by decide)
theorem tt_len (ts : List Str) (h : ts ≠ []) : (tupleText ts).length ≤ piled ts + 1 := by
  unfold tupleText
  rw [PySem.Str.length_append, PySem.Str.length_append]
  have e1 : ((("(" : String) : Str)).length = 1 := rfl
  have e3 : (((if ts.length == 1 then ",)" else ")" : String) : Str)).length ≤ 2 := by split <;> decide
  have := join_length_add ts h
  rw [e1]
  omega
theorem repr_len {f : Str} (h : AtomOk f) : (reprText f).length ≤ 402 := by
  have h1 := PySem.StrLaws.reprText_len f fun c hc => Nat.lt_of_le_of_lt (h.2 c hc).2.1 (by decide)
  have h2 : f.length ≤ 40 := h.1
  omega
theorem great_pow : tooGreat < 2 ^ 1000 := by decide +kernel
mutual
theorem shown_tm : ∀ {t : Tm}, Ok t → Vl t → (toD t).showable = true ∧ (toD t).shown.length + 2 ≤ 2100 * size t
  | .var k, h, g => by
    unfold Ok at h
    have g := vl_var g
    have hl : k.natAbs.log2 < 1920 := log_of (Nat.lt_trans (show k.natAbs < 1000000 by omega) (by decide +kernel))
    refine ⟨?_, ?_⟩
    · show (decide (k.natAbs.log2 < 1920) && true) = true
      rw [decide_eq_true hl]
      rfl
    · show (tupleText [Str.ofString (toString k)]).length + 2 ≤ 2100 * 1
      have h1 := tt_len [Str.ofString (toString k)] (by simp)
      rw [piled_cons, piled_nil] at h1
      have h2 := int_text_len_1921 hl
      omega
  | .int i, h, _ => by
    unfold Ok at h
    have hg := great_pow
    have hl : i.natAbs.log2 < 1920 := log_of (by omega)
    refine ⟨decide_eq_true hl, ?_⟩
    show (Str.ofString (toString i)).length + 2 ≤ 2100 * 1
    have h2 := int_text_len_1921 hl
    omega
  | .atom s, h, _ => by
    unfold Ok at h
    refine ⟨rfl, ?_⟩
    show (reprText s).length + 2 ≤ 2100 * 1
    have := repr_len h
    omega
  | .comp f as, h, g => by
    unfold Ok at h
    have g := vl_comp g
    obtain ⟨h1, h2⟩ := shown_tms h.2.2.2 g
    refine ⟨?_, ?_⟩
    · show (true && PyData.showableAll (toDs as)) = true
      rw [h1]
      rfl
    · show (tupleText (reprText f :: PyData.shownAll (toDs as))).length + 2 ≤ 2100 * size (.comp f as)
      have h3 := tt_len (reprText f :: PyData.shownAll (toDs as)) (by simp)
      rw [piled_cons] at h3
      have h4 := repr_len h.1
      rw [size]
      omega
theorem shown_tms : ∀ {ts : List Tm}, Oks ts → Vls ts → PyData.showableAll (toDs ts) = true ∧ piled (PyData.shownAll (toDs ts)) ≤ 2100 * sizes ts
  | [], _, _ => ⟨rfl, Nat.zero_le _⟩
  | t :: ts, h, g => by
    rw [oks_cons] at h
    have g := vls_cons g
    obtain ⟨h1, h2⟩ := shown_tm h.1 g.1
    obtain ⟨h3, h4⟩ := shown_tms h.2 g.2
    refine ⟨?_, ?_⟩
    · show ((toD t).showable && PyData.showableAll (toDs ts)) = true
      rw [h1, h3]
      rfl
    · show piled ((toD t).shown :: PyData.shownAll (toDs ts)) ≤ _
      rw [piled_cons, sizes_cons]
      omega
end
theorem list_shown (ds : List PyData) : (PyData.list ds).shown.length ≤ piled (PyData.shownAll ds) + 2 := by
  rw [PyData.shown_list, PySem.Str.length_append, PySem.Str.length_append]
  have e1 : ((("[" : String) : Str)).length = 1 := rfl
  have e2 : ((("]" : String) : Str)).length = 1 := rfl
  rw [e1, e2]
  by_cases h : PyData.shownAll ds = []
  · rw [h]
    have : (Str.join ", " ([] : List Str)).length = 0 := rfl
    omega
  · have := join_length_add _ h
    omega

/-- pairs of drawn terms -/
def PrB (p : Tm × Tm) : Prop := Gt 2 p.1 ∧ Gt 1 p.2
theorem gt_size {n : Nat} {t : Tm} (h : Gt n t) (hn : n ≤ 2) : size t ≤ 7 := by
  have := (h.mono hn).2.2.1
  have e : (2 : Nat) ^ (2 + 1) = 8 := rfl
  rw [e] at this
  omega
theorem shown_pairs : ∀ {ps : List (Tm × Tm)}, (∀ p ∈ ps, PrB p) → PyData.showableAll (ps.map prD) = true ∧ piled (PyData.shownAll (ps.map prD)) ≤ 40000 * ps.length
  | [], _ => ⟨rfl, Nat.zero_le _⟩
  | p :: ps, h => by
    obtain ⟨h1, h2⟩ := shown_pairs (ps := ps) fun q hq => h q (List.mem_cons_of_mem _ hq)
    obtain ⟨g1, g2⟩ := h p List.mem_cons_self
    obtain ⟨s1, l1⟩ := shown_tm g1.1 g1.2.2.2
    obtain ⟨s2, l2⟩ := shown_tm g2.1 g2.2.2.2
    have z1 := gt_size g1 (by decide)
    have z2 := gt_size g2 (by decide)
    refine ⟨?_, ?_⟩
    · show (((toD p.1).showable && ((toD p.2).showable && true)) && PyData.showableAll (ps.map prD)) = true
      rw [s1, s2, h1]
      rfl
    · show piled ((tupleText [(toD p.1).shown, (toD p.2).shown]) :: PyData.shownAll (ps.map prD)) ≤ _
      have h3 := tt_len [(toD p.1).shown, (toD p.2).shown] (by simp)
      rw [piled_cons, piled_cons, piled_nil] at h3
      rw [piled_cons, List.length_cons]
      omega
theorem show_plist {ps : List (Tm × Tm)} (h : ∀ p ∈ ps, PrB p) (hl : ps.length ≤ 30) : (PyData.list (ps.map prD)).showable = true ∧ (PyData.list (ps.map prD)).hasDict = false ∧ (PyData.list (ps.map prD)).depth ≤ 60 ∧ (PyData.list (ps.map prD)).shown.length ≤ sizeLine := by
  obtain ⟨h1, h2⟩ := shown_pairs h
  have h3 := list_shown (ps.map prD)
  have hb : ∀ p ∈ ps, TmB 4 p.1 ∧ TmB 4 p.2 := fun p hp => by
    obtain ⟨g1, g2⟩ := h p hp
    have z1 := gt_size g1 (by decide)
    have z2 := gt_size g2 (by decide)
    have d1 := g1.2.1
    have d2 := g2.2.1
    exact ⟨⟨g1.1, by omega, by omega⟩, g2.1, by omega, by omega⟩
  obtain ⟨s1, s2⟩ := shaped_pairs hb
  refine ⟨h1, PyData.hasDict_of_canLay _ s1, ?_, Nat.le_trans h3 (Nat.le_trans (show _ ≤ 2940000 by omega) (by decide))⟩
  show PyData.depthAll (ps.map prD) + 1 ≤ 60
  omega
/-! ## groups as data -/
def grD (g : Tm × List Tm) : PyData := .tuple [toD g.1, .list (toDs g.2)]
section
variable {K : PySem.W.Frag} {H0 H : Hp} {p : Addr}
theorem gr_dp : ∀ {vs : List V} {gs : List (Tm × List Tm)}, PySem.Paired (fun x g => GrAt K H0 p H g x) vs gs → DpAll K H vs (gs.map grD)
  | _, _, .nil => .nil
  | _, _, .cons ⟨a, x, l, ys, e, h1, h2, h3, h4, _, _⟩ t => by
    subst e
    exact .cons (.tup h1 (.cons (dp_rep h2) (.cons (.lst (SqL.of h3) (dp_reps h4)) .nil))) (gr_dp t)
end
/-- a group's terms are as they should be -/
def GrB (m : Nat) (g : Tm × List Tm) : Prop := TmB 4 g.1 ∧ (∀ t ∈ g.2, TmB 4 t) ∧ g.2.length ≤ m
theorem addG_B {m : Nat} {q : Tm × Tm} (hq : TmB 4 q.1 ∧ TmB 4 q.2) : ∀ {gs : List (Tm × List Tm)}, (∀ g ∈ gs, GrB m g) → ∀ g ∈ addG gs q, GrB (m + 1) g
  | [], _, g, hg => by
    have : g = (q.1, [sub (rnm q.1 q.1) q.2]) := by simpa [addG] using hg
    subst this
    exact ⟨hq.1, fun t ht => by rw [List.mem_singleton.mp ht]; exact tmb_sub hq.1.1 hq.2, by simp⟩
  | g0 :: gs, h, g, hg => by
    obtain ⟨b1, b2, b3⟩ := h g0 List.mem_cons_self
    have hr : ∀ g ∈ gs, GrB m g := fun g hg => h g (List.mem_cons_of_mem _ hg)
    by_cases c : tord (renum g0.1) (renum q.1) = 0
    · have e : addG (g0 :: gs) q = (g0.1, g0.2 ++ [sub (rnm g0.1 q.1) q.2]) :: gs := if_pos c
      rw [e] at hg
      rcases List.mem_cons.1 hg with hg | hg
      · subst hg
        refine ⟨b1, fun t ht => ?_, by rw [List.length_append, List.length_singleton]; omega⟩
        rcases List.mem_append.mp ht with ht | ht
        · exact b2 t ht
        · rw [List.mem_singleton.mp ht]
          exact tmb_sub b1.1 hq.2
      · obtain ⟨c1, c2, c3⟩ := hr g hg
        exact ⟨c1, c2, by omega⟩
    · have e : addG (g0 :: gs) q = g0 :: addG gs q := if_neg c
      rw [e] at hg
      rcases List.mem_cons.1 hg with hg | hg
      · subst hg
        exact ⟨b1, b2, by omega⟩
      · exact addG_B hq hr g hg
theorem fold_B : ∀ {qs : List (Tm × Tm)} {gs : List (Tm × List Tm)} {m : Nat}, (∀ q ∈ qs, TmB 4 q.1 ∧ TmB 4 q.2) → (∀ g ∈ gs, GrB m g) → ∀ g ∈ qs.foldl addG gs, GrB (m + qs.length) g
  | [], _, _, _, h => h
  | q :: qs, gs, m, hq, h => by
    have := fold_B (qs := qs) (m := m + 1) (fun p hp => hq p (List.mem_cons_of_mem _ hp)) (addG_B (hq q List.mem_cons_self) h)
    rw [List.length_cons, show m + (qs.length + 1) = m + 1 + qs.length by omega]
    exact this
theorem once_sub : ∀ (l : Option Tm) (ts : List Tm), ∀ t ∈ onceT l ts, t ∈ ts
  | _, [], t, h => h
  | none, u :: ts, t, h => by
    have h : t ∈ [u] ++ onceT (some u) ts := h
    rcases List.mem_append.mp h with h | h
    · rw [List.mem_singleton.mp h]
      exact List.mem_cons_self
    · exact List.mem_cons_of_mem _ (once_sub _ ts t h)
  | some s, u :: ts, t, h => by
    have h : t ∈ (if tord u s = 0 then [] else [u]) ++ onceT (some u) ts := h
    rcases List.mem_append.mp h with h | h
    · by_cases c : tord u s = 0
      · rw [if_pos c] at h
        cases h
      · rw [if_neg c] at h
        rw [List.mem_singleton.mp h]
        exact List.mem_cons_self
    · exact List.mem_cons_of_mem _ (once_sub _ ts t h)
theorem fin_B {z : Str} {m : Nat} {g : Tm × List Tm} (h : GrB m g) : GrB m (g.1, FinW z g.2) := by
  obtain ⟨h1, h2, h3⟩ := h
  unfold FinW
  by_cases c : z = Str.ofString "bagof"
  · rw [if_pos c]
    exact ⟨h1, h2, h3⟩
  · rw [if_neg c]
    have pm := (sortA_stb ltT_swo g.2).perm
    refine ⟨h1, fun t ht => h2 t (pm.mem_iff.mp (once_sub _ _ t ht)), ?_⟩
    have l1 := len_once none (sortT g.2)
    have l2 : (sortT g.2).length = g.2.length := pm.length_eq
    show (onceT none (sortT g.2)).length ≤ m
    omega
theorem all_B {z : Str} {ps : List (Tm × Tm)} (h : ∀ p ∈ ps, TmB 4 p.1 ∧ TmB 4 p.2) : ∀ g ∈ (gsOf (sortW ps)).map (fun g => (g.1, FinW z g.2)), GrB ps.length g := fun g hg => by
  obtain ⟨g', hg', rfl⟩ := List.mem_map.mp hg
  have pm := (sortA_stb (lt := fun p q : Tm × Tm => decide (tord p.1 q.1 < 0)) ⟨fun a b => ltT_swo.asym _ _, fun a b c => ltT_swo.tr _ _ _⟩ ps).perm
  have lq : (sortW ps).length = ps.length := pm.length_eq
  have := fold_B (gs := []) (m := 0) (qs := sortW ps) (fun p hp => h p (pm.mem_iff.mp hp)) (fun _ h => absurd h List.not_mem_nil) g' hg'
  rw [Nat.zero_add, lq] at this
  exact fin_B this
theorem tmbs {ts : List Tm} (h : ∀ t ∈ ts, TmB 4 t) : Oks ts ∧ depths ts ≤ 4 := by
  refine ⟨oks_all.mpr fun t ht => (h t ht).1, ?_⟩
  induction ts with
  | nil => exact Nat.zero_le _
  | cons t ts ih =>
    rw [depths_cons]
    have h1 := (h t List.mem_cons_self).2.2
    have h2 := ih fun u hu => h u (List.mem_cons_of_mem _ hu)
    omega
theorem gr_lay {m : Nat} : ∀ {gs : List (Tm × List Tm)}, (∀ g ∈ gs, GrB m g) → PyData.canLayAll0 (gs.map grD) = true ∧ PyData.depthAll (gs.map grD) ≤ 7
  | [], _ => ⟨rfl, Nat.zero_le _⟩
  | g :: gs, h => by
    obtain ⟨h1, h2⟩ := gr_lay (gs := gs) fun q hq => h q (List.mem_cons_of_mem _ hq)
    obtain ⟨b1, b2, _⟩ := h g List.mem_cons_self
    obtain ⟨o, d⟩ := tmbs b2
    have l1 := lay_tm b1.1
    have l2 := lay_tms o
    have d1 := dep_tm g.1
    have d2 := dep_tms g.2
    have d3 := b1.2.2
    constructor
    · show (((toD g.1).canLay0 && (PyData.canLayAll0 (toDs g.2) && true)) && PyData.canLayAll0 (gs.map grD)) = true
      rw [l1, l2, h1]
      rfl
    · show max (grD g).depth (PyData.depthAll (gs.map grD)) ≤ 7
      have : (grD g).depth = max (toD g.1).depth (max (PyData.depthAll (toDs g.2) + 1) 0) + 1 := rfl
      omega
theorem gr_shaped {m : Nat} {gs : List (Tm × List Tm)} (h : ∀ g ∈ gs, GrB m g) : SeqAt.shaped (.list (gs.map grD)) = true := by
  obtain ⟨h1, h2⟩ := gr_lay h
  show (PyData.canLayAll0 (gs.map grD) && decide (PyData.depthAll (gs.map grD) + 1 ≤ 64)) = true
  rw [h1, decide_eq_true (by omega)]
  rfl
theorem gr_eqv {m : Nat} {gs : List (Tm × List Tm)} (h : ∀ g ∈ gs, GrB m g) : PyData.eqv (.list (gs.map grD)) (.list (gs.map grD)) = true := SeqAt.eqv_refl _ (SeqAt.canLay_of_shaped (gr_shaped h))
theorem addG_len (q : Tm × Tm) : ∀ gs : List (Tm × List Tm), (addG gs q).length ≤ gs.length + 1
  | [] => by simp [addG]
  | g :: gs => by
    have ih := addG_len q gs
    by_cases c : tord (renum g.1) (renum q.1) = 0
    · have e : addG (g :: gs) q = (g.1, g.2 ++ [sub (rnm g.1 q.1) q.2]) :: gs := if_pos c
      rw [e, List.length_cons, List.length_cons]
      omega
    · have e : addG (g :: gs) q = g :: addG gs q := if_neg c
      rw [e, List.length_cons, List.length_cons]
      omega
theorem fold_len_g : ∀ (qs : List (Tm × Tm)) (gs : List (Tm × List Tm)), (qs.foldl addG gs).length ≤ gs.length + qs.length
  | [], gs => Nat.le_refl _
  | q :: qs, gs => by
    have h1 := fold_len_g qs (addG gs q)
    have h2 := addG_len q gs
    rw [List.foldl_cons, List.length_cons]
    omega
theorem gs_len {z : Str} (ps : List (Tm × Tm)) : ((gsOf (sortW ps)).map fun g => (g.1, FinW z g.2)).length ≤ ps.length := by
  have pm := (sortA_stb (lt := fun p q : Tm × Tm => decide (tord p.1 q.1 < 0)) ⟨fun a b => ltT_swo.asym _ _, fun a b c => ltT_swo.tr _ _ _⟩ ps).perm
  have lq : (sortW ps).length = ps.length := pm.length_eq
  have := fold_len_g (sortW ps) []
  rw [List.length_map]
  show ((sortW ps).foldl addG []).length ≤ _
  rw [List.length_nil] at this
  omega
end Hm

set_option Elab.async false
set_option linter.all false
set_option maxRecDepth 100000
set_option maxHeartbeats 4000000
namespace Hm
open PySem PySem.Spec PyProof.Rows L2 HT LamX
open Evl (Ex)
open SrtO
section
variable {P : Program} {w : World} {K : PySem.W.Frag} {mg : Str → Option Value} {base : Heap}
theorem tabs_dr {T : List (Addr × Str)} {a : Addr} {H H' : Hp} (hw : Well H a) (d : Dr a H H') (t : Tabs T H) : Tabs T H' := fun p hp => by
  obtain ⟨x, y, z, hw⟩ := hw
  obtain ⟨ps, h1, h2, h3⟩ := t p hp
  refine ⟨ps, d.keep _ _ (fun e => by rw [e, hw] at h1; cases h1) h1, h2, fun pos cv hc => ?_⟩
  obtain ⟨c, e1, e2⟩ := h3 pos cv hc
  refine ⟨c, e1, d.keep _ _ (fun e => ?_) e2⟩
  rw [e, hw] at e2
  unfold CodeO at e2
  cases e2
theorem dr_fresh {a D : Addr} {H0 H1 H2 : Hp} {o : HO} (d1 : Dr a H0 H1) (d2 : Dr a H1 H2) (hD : H0 D = none) (hDa : D ≠ a) : Dr a H0 (upd H2 D o) := by
  obtain ⟨x1, y1, z1, hw⟩ := d2.well
  refine ⟨⟨x1, y1, z1, by rw [upd_ne hDa.symm]; exact hw⟩, fun b o' hb hq => ?_⟩
  rw [upd_ne (ne_of_none hq hD)]
  exact d2.keep b o' hb (d1.keep b o' hb hq)
def spLaw (K : PySem.W.Frag) (pp : Addr) : Sp := fun vs H Q _ => ∃ (a : Addr) (ns : List Int), vs = [.ref a] ∧ SqL K H a (ns.map V.int) ∧ ns.length ≤ 63 ∧ Tabs (TR pp) H ∧ ∀ H', Q (.bl true) H'
theorem ok_law (T : Tx K mg) {pp : Addr} (TB : TabB base mg T.cc pp) : RG.FnG P w K mg base CX0 15 T.f_law T.d_law ["_law_script"] (spLaw K pp) := by
  refine RG.Fun.free T.h_law.F sc_law (fun vs H Q E h => ?_) (fun cdv A outer s H vs Q E free hr h => ?_)
  · obtain ⟨a, ns, rfl, _⟩ := h
    rfl
  obtain ⟨a, ns, rfl, hS, hn, hTab, q⟩ := h
  have hu := hr.units
  have hu2 : (A.deeper (envOfC "law" (defScope s_law) s.heap.objs.size T.f_law cdv)).units + 64 < cLine := hu
  refine ⟨_, (pss_cons (ps_for PassesOwn.never rfl (pi_list (pe_slice sl_list (pe_op op_catL (pv 0) (pe_lst (pa_cons pe_int pa_nil))) po_none (po_some pe_int))) (pg_name (i := 1) sc_law.nd rfl (Or.inl rfl))
      (pss_cons (ps_set (i := 2) sc_law.nd rfl (Or.inr rfl) (cl (ok_law_source_of T) T.h_law_source_of hr (pa_cons (pv 1) pa_nil)))
    (pss_cons (ps_for PassesOwn.never rfl (pi_range1 rfl T.b_range (pa_cons pe_int pa_nil)) (pg_name (i := 3) sc_law.nd rfl (Or.inl rfl))
      (pss_cons (ps_set (i := 4) sc_law.nd rfl (Or.inr rfl) (cl (ok_law_next T) T.h_law_next hr (pa_cons (pv 2) (pa_cons pe_int pa_nil))))
    (pss_cons (ps_setLc (i := 5) (own := [("_law_k", 12)]) (g := gName 12) rfl sc_law.nd rfl rfl (sw_true rfl rfl rfl (by decide +kernel)) (pi_range1 rfl T.b_range (pa_cons (cl (ok_law_next T) T.h_law_next hr (pa_cons (pv 2) (pa_cons pe_int pa_nil))) pa_nil)) (blkOk_by (own := [("_law_k", 12)]) (N := ["_law_script", "_law_cell", "_law_source", "_law_turn", "_law_deep", "_law_some", "_law_stood", "_law_word", "_law_due", "_law_found", "_law_witness", "_law_solutions", "_law_k"]) (sc := defScope s_law) (by decide +kernel)) (fun _ _ _ _ _ => pg_name (i := 12) sc_law.nd rfl (Or.inl rfl)) (fun _ _ _ _ _ => pts_nil) (fun _ _ _ _ _ => (pe_tup (pa_cons (cl (ok_law_term T 3) T.h_law_term hr (pa_cons (pv 2) (pa_cons (pv 4) pa_nil))) (pa_cons (cl (ok_law_term T 3) T.h_law_term hr (pa_cons (pv 2) (pa_cons pe_int pa_nil))) pa_nil)))))
    (pss_cons (ps_set (i := 6) sc_law.nd rfl (Or.inl rfl) (pe_callB (RG.call_reprE free hu2) rfl T.b_repr (by decide +kernel) (pa_cons (pv 5) pa_nil)))
    (pss_cons (ps_for PassesOwn.never rfl (pi_tup (pe_tup (pa_cons pe_str (pa_cons pe_str pa_nil)))) (pg_name (i := 7) sc_law.nd rfl (Or.inl rfl))
      (pss_cons (ps_set (i := 8) sc_law.nd rfl (Or.inl rfl) (cl (ok_law_groups T) T.h_law_groups hr (pa_cons (pv 7) (pa_cons (pv 5) pa_nil))))
    (pss_cons (ps_set (i := 9) sc_law.nd rfl (Or.inl rfl) (cl (ok_gpd0 T) T.h_grouped hr (pa_cons (pv 7) (pa_cons (pv 5) pa_nil))))
    (pss_cons (ps_if (PW.pt (pw_or (pt_cmpR (op_neD hu) (pv 9) (pv 8) (nomark _)) (pw_or (pt_cmpR (op_neD hu) (cl (ok_gpd0 T) T.h_grouped hr (pa_cons (pv 7) (pa_cons (pe_callTy call_tuple_of rfl T.b_tuple (by decide +kernel) (pa_cons (pv 5) pa_nil)) pa_nil))) (pv 8) (nomark _)) (pw_or1 (pt_cmpR op_ne (pe_callB (RG.call_reprE free hu2) rfl T.b_repr (by decide +kernel) (pa_cons (pv 5) pa_nil)) (pv 6) (nomark _))))))
      (pss_one (ps_ret pe_bl))
      pss_nil)
    (pss_cons (ps_for PassesOwn.never rfl (pi_list (pv 9)) (pg_tup rfl (pgs_cons (pg_name (i := 10) sc_law.nd rfl (Or.inl rfl)) (pgs_cons (pg_name (i := 11) sc_law.nd rfl (Or.inl rfl)) pgs_nil)))
      (pss_one (ps_expr (pe_bm PySem.F.plainAttrs_list PySem.F.slot_list_append PySem.F.type_list_append mt_append (pv 11) (pa_cons pe_non pa_nil)))))
    (pss_cons (ps_expr (pe_bm PySem.F.plainAttrs_list PySem.F.slot_list_append PySem.F.type_list_append mt_append (pv 9) (pa_cons pe_non pa_nil)))
    (pss_one (ps_if (pt_cmpR (op_neD hu) (cl (ok_gpd0 T) T.h_grouped hr (pa_cons (pv 7) (pa_cons (pv 5) pa_nil))) (pv 8) (nomark _))
      (pss_one (ps_ret pe_bl))
      pss_nil))))))))
    (pss_one (ps_if (pt_not (pt_val (cl (ok_law_free_right T) T.h_law_free_right hr (pa_cons (pv 2) pa_nil))))
      (pss_one (ps_ret pe_bl))
      pss_nil)))))))
    (pss_one (ps_if (pt_not (pt_val (RG.pe_callG (ok_law_refused_right T TB) free (hr.mono (by decide)) rfl T.h_law_refused_right.m T.h_law_refused_right.F.kp T.h_law_refused_right.b .nil pass0 (pa_cons (pe_lst (pa_cons (pe_tup (pa_cons pe_str (pa_cons pe_str pa_nil))) pa_nil)) pa_nil))))
      (pss_one (ps_ret pe_bl))
      pss_nil)))))
    (pss_one (ps_ret pe_bl))), ?_⟩
  refine ⟨_, rfl, (by show 1 ≤ sizeLine; decide), fun p1 hp1 => ⟨a, p1, ns.map V.int, [V.int 0], rfl, rfl, Evl.ex_l (Ex.new hp1) hS, upd_same, small5 (by rw [List.length_map]; show ns.length + 1 ≤ _; omega), fun p2 hp2 => ⟨_, rfl, p2, _, rfl, SqL.of upd_same, fun p3 hp3 => ?_⟩⟩⟩
  have e03 := (Ex.new (o := HO.lst [V.int 0]) hp1).trans ((Ex.new (o := HO.lst (ns.map V.int ++ [V.int 0])) hp2).trans (Ex.new (o := HO.lst (cutV (ns.map V.int ++ [V.int 0]) none (some 5))) hp3))
  have hL3 : (upd (upd (upd H p1 (.lst [V.int 0])) p2 (.lst (ns.map V.int ++ [V.int 0]))) p3 (.lst (cutV (ns.map V.int ++ [V.int 0]) none (some 5)))) p3 = some (.lst (cutV (ns.map V.int ++ [V.int 0]) none (some 5))) := upd_same
  generalize upd (upd (upd H p1 (.lst [V.int 0])) p2 (.lst (ns.map V.int ++ [V.int 0]))) p3 (.lst (cutV (ns.map V.int ++ [V.int 0]) none (some 5))) = H3 at *
  have hT3 := hTab.ext e03
  have items : ∀ i x, (cutV (ns.map V.int ++ [V.int 0]) none (some 5))[i]? = some x → ∃ z, x = V.int z := fun i x hx => by
    have hm := List.mem_of_getElem? hx
    unfold cutV at hm
    rcases List.mem_append.mp (List.mem_of_mem_drop (List.mem_of_mem_take hm)) with h | h
    · obtain ⟨z, _, e⟩ := List.mem_map.mp h
      exact ⟨z, e.symm⟩
    · exact ⟨0, List.mem_singleton.mp h⟩
  generalize cutV (ns.map V.int ++ [V.int 0]) none (some 5) = xs at *
  refine ⟨p3, rfl, ⟨_, SqL.of hL3⟩, for_list (fun i σ' H' => ∃ c1 c2 c3 c4 c5 c6 c7 c8 c9 c10 c11 c12, σ' = [some (.ref a), c1, c2, c3, c4, c5, c6, c7, c8, c9, c10, c11, c12] ∧ ExtN H3 H' ∧ Tabs (TR pp) H') ⟨none, none, none, none, none, none, none, none, none, none, none, none, rfl, ExtN.refl _, hT3⟩ (fun i σ' H' _ ⟨_, _, _, _, _, _, _, _, _, _, _, _, _, h, _⟩ => SqL.of (h p3 _ hL3 fun ps z => by cases z)) ?_ ?_⟩
  · rintro i x σ' H4 hx ⟨c1, c2, c3, c4, c5, c6, c7, c8, c9, c10, c11, c12, rfl, e4, hT4⟩
    obtain ⟨z, rfl⟩ := items i x hx
    refine ⟨_, rfl, z, rfl, fun pw x y z2 H5 hpw e5 hL5 => ?_⟩
    have hw5 : Well H5 pw := ⟨x, y, z2, hL5⟩
    have hT5 := hT4.ext e5
    refine ⟨3, rfl, by decide, by decide, for_it walk_range (fun i σ' H' => ∃ c3 c4 c5 c6 c7 c8 c9 c10 c11 c12, σ' = [some (.ref a), some (.int z), some (.ref pw), c3, c4, c5, c6, c7, c8, c9, c10, c11, c12] ∧ Dr pw H5 H') ⟨_, _, _, _, _, _, _, _, _, _, rfl, Dr.ex hw5 (Ex.refl _)⟩ (fun _ _ _ _ _ => trivial) ?_ ?_⟩
    · rintro i x σ' H6x H6 hi ⟨c3, c4, c5, c6, c7, c8, c9, c10, c11, c12, rfl, d6⟩ ⟨rfl, rfl⟩
      refine ⟨_, rfl, pw, 3, rfl, d6.well, by decide, by decide +kernel, fun dp H7 p0 p1 d7 => ?_⟩
      obtain ⟨dp', rfl⟩ := Int.eq_ofNat_of_zero_le p0
      have hdp : dp' ≤ 2 := by omega
      refine ⟨_, rfl, pw, 15, rfl, d7.well, by decide, by decide +kernel, fun nn H8 n0 n1 d8 => ⟨nn, rfl, by omega, by omega, fun D hD => ?_⟩⟩
      have w8 := d8.well
      have hDa := w8.ne hD
      refine lc_it walk_range (fun i H' => Dr pw H8 H' ∧ ∃ ps us, H' D = some (.lst us) ∧ PySem.Paired (fun x p => P2At K H' p x) us ps ∧ ps.length = i ∧ ∀ p ∈ ps, PrB p) ⟨Dr.ex w8 (Ex.new hD), [], [], upd_same, .nil, rfl, fun _ h => absurd h List.not_mem_nil⟩ (fun _ _ _ _ => trivial) ?_ ?_
      · rintro j x H9x H9 hj ⟨d9, ps, us, hU, hP, hlen, hall⟩ ⟨rfl, rfl⟩
        have hj' : j < 15 := by
          have : j < nn.toNat := hj
          omega
        refine ⟨rfl, yesI ⟨_, rfl, _, rfl, pw, dp', rfl, by omega, hdp, d9.well, fun v t H10 d10 hR hG => ⟨_, rfl, pw, 1, rfl, by decide, by decide, d10.well, fun v2 t2 H11 d11 hR2 hG2 => ⟨(by show 2 ≤ sizeLine; decide), fun tp htp => ?_⟩⟩⟩⟩
        have e12 := Ex.new (o := HO.tup [v, v2]) htp
        have hT12 : SqT K (upd H11 tp (.tup [v, v2])) tp [v, v2] := SqT.of upd_same
        have d12 := d10.trans (d11.trans (Dr.ex d11.well e12))
        generalize upd H11 tp (.tup [v, v2]) = H12 at *
        have hU12 := d12.keep D _ hDa hU
        have t12 := Dr.tups (K := K) d9.well d12
        have tl : Tups K H12 (upd H12 D (.lst (us ++ [.ref tp]))) := Tups.lst hU12
        have lp := hP.length
        refine ⟨us, hU12, small5' (by omega), dr_fresh d9 d12 hD hDa, ps ++ [(t, t2)], us ++ [.ref tp], upd_same, Paired.snoc (p2_mono (t12.trans tl) hP) ⟨tp, v, v2, rfl, tl _ _ hT12, ?_, ?_⟩, by rw [List.length_append, List.length_singleton, hlen], fun p hp => ?_⟩
        · exact (hR.mono ((Dr.tups d10.well d11).trans (.of e12))).mono tl
        · exact (hR2.mono (.of e12)).mono tl
        · rcases List.mem_append.mp hp with hp | hp
          · exact hall p hp
          · rw [List.mem_singleton.mp hp]
            exact ⟨hG.mono hdp, hG2⟩
      · rintro H9 ⟨d9, ps, us, hU, hP, hlen, hall⟩
        have hlen' : ps.length ≤ 14 := by
          have : ps.length = nn.toNat := hlen
          omega
        have lp := hP.length
        obtain ⟨s1, s2, s3, s4⟩ := show_plist hall (by omega)
        have dps : ∀ {H' : Hp}, Ex H9 H' → Dp K H' (.ref D) (.list (ps.map prD)) := fun e => .lst (SqL.of (e _ _ hU)) (dp_pairs (p2_mono (.of e) hP))
        refine ⟨_, rfl, .inl ⟨.ref D, .list (ps.map prD), rfl, dps (Ex.refl _), s1, s2, s3, s4, ?_⟩⟩
        generalize hst : (PyData.list (ps.map prD)).shown = txt at *
        have hB4 : ∀ p ∈ ps, TmB 4 p.1 ∧ TmB 4 p.2 := fun p hp => by
          obtain ⟨g1, g2⟩ := hall p hp
          have z1 := gt_size g1 (by decide)
          have z2 := gt_size g2 (by decide)
          have d1 := g1.2.1
          have d2 := g2.2.1
          exact ⟨⟨g1.1, by omega, by omega⟩, g2.1, by omega, by omega⟩
        have hB3 : ∀ p ∈ ps, Ok p.1 ∧ Ok p.2 ∧ size p.1 ≤ 300 ∧ size p.2 ≤ 300 := fun p hp => by
          obtain ⟨g1, g2⟩ := hall p hp
          have z1 := gt_size g1 (by decide)
          have z2 := gt_size g2 (by decide)
          exact ⟨g1.1, g2.1, by omega, by omega⟩
        refine ⟨(by show 2 ≤ sizeLine; decide), fun tw htw => ?_⟩
        have e10 := Ex.new (o := HO.tup [.str (Str.ofString "bagof"), .str (Str.ofString "setof")]) htw
        have htw10 : (upd H9 tw (.tup [.str (Str.ofString "bagof"), .str (Str.ofString "setof")])) tw = some (.tup [.str (Str.ofString "bagof"), .str (Str.ofString "setof")]) := upd_same
        generalize upd H9 tw (.tup [.str (Str.ofString "bagof"), .str (Str.ofString "setof")]) = H10 at *
        refine ⟨tw, rfl, ⟨_, SqT.of htw10⟩, for_tup (fun i σ' H' => ∃ c3 c7 c8 c9 c10 c11 c12, σ' = [some (.ref a), some (.int z), some (.ref pw), c3, some (.int (dp' : Int)), some (.ref D), some (.str txt), c7, c8, c9, c10, c11, c12] ∧ Ex H10 H') ⟨_, _, _, _, _, _, _, rfl, Ex.refl _⟩ (fun i σ' H' _ ⟨_, _, _, _, _, _, _, _, e⟩ => SqT.of (e _ _ htw10)) ?_ ?_⟩
        · rintro k x σ' H13 hx ⟨c3, c7, c8, c9, c10, c11, c12, rfl, e13⟩
          obtain ⟨wd, rfl, hz⟩ : ∃ wd, x = .str wd ∧ (wd = Str.ofString "bagof" ∨ wd = Str.ofString "setof") := by
            have hm := List.mem_of_getElem? hx
            rcases List.mem_cons.1 hm with e | hm
            · exact ⟨_, e, .inl rfl⟩
            · exact ⟨_, List.mem_singleton.mp hm, .inr rfl⟩
          have aB := all_B (z := wd) hB4
          have shp := gr_shaped aB
          have eqv := gr_eqv aB
          have lgs := gs_len (z := wd) ps
          generalize hgs : (gsOf (sortW ps)).map (fun g => (g.1, FinW wd g.2)) = gs at *
          have e913 := e10.trans e13
          have hU13 := e913 _ _ hU
          have hP13 := p2_mono (K := K) (.of e913) hP
          refine ⟨_, rfl, _, rfl, wd, D, us, ps, rfl, hz, hU13, hP13, hB4, by omega, fun gp gv H14 hgp e14 hgv hG => ?_⟩
          rw [hgs] at hG
          have hU14 := e14 _ _ hU13
          have hP14 := p2_mono (K := K) (.of e14) hP13
          refine ⟨_, rfl, _, rfl, wd, D, us, ps, rfl, hz, .inl hU14, hP14, hB3, by omega, fun fp fv H15 hfp e15 hfv hF => ?_⟩
          rw [hgs] at hF
          have due : ∀ {H' : Hp}, Ex H14 H' → Dp K H' (.ref gp) (.list (gs.map grD)) := fun e => .lst (SqL.of (e _ _ hgv)) (gr_dp (Paired.mapP hG fun x g h => h.mv (.of e) fun l ys _ _ q => e _ _ q))
          refine ⟨_, rfl, _, rfl, _, _, .lst (SqL.of hfv) (gr_dp hF), due e15, shp, shp, _, rfl, ?_⟩
          rw [eqv]
          refine iteF ⟨_, rfl, _, rfl, D, us, rfl, .inl ⟨SqL.of (e15 _ _ hU14), fun tt htt => ?_⟩⟩
          have e16 := Ex.new (o := HO.tup us) htt
          have htt16 : (upd H15 tt (.tup us)) tt = some (.tup us) := upd_same
          generalize upd H15 tt (.tup us) = H16 at *
          refine ⟨wd, tt, us, ps, rfl, hz, .inr (SqT.of htt16), p2_mono (.of (e15.trans e16)) hP14, hB3, by omega, fun kp kv H17 hkp e17 hkv hK => ?_⟩
          rw [hgs] at hK
          have e1417 := e15.trans (e16.trans e17)
          refine ⟨_, rfl, _, _, .lst (SqL.of hkv) (gr_dp hK), due e1417, shp, shp, _, rfl, ?_⟩
          rw [eqv]
          have e917 := e913.trans (e14.trans e1417)
          refine iteF ⟨_, rfl, .inl ⟨.ref D, .list (ps.map prD), rfl, dps e917, s1, s2, s3, by rw [hst]; exact s4, ?_⟩⟩
          rw [hst]
          refine ⟨_, rfl, rfl, _, rfl, ?_⟩
          rw [decide_eq_true (rfl : V.str txt = V.str txt)]
          have hfv17 := (e16.trans e17) _ _ hfv
          have lF := hF.length
          refine iteF ⟨_, rfl, fp, rfl, ⟨_, SqL.of hfv17⟩, for_list (fun i σ' H' => ∃ c10 c11 c12, σ' = [some (.ref a), some (.int z), some (.ref pw), c3, some (.int (dp' : Int)), some (.ref D), some (.str txt), some (.str wd), some (.ref gp), some (.ref fp), c10, c11, c12] ∧ Ex H14 H' ∧ Tups K H15 H' ∧ H' fp = some (.lst fv) ∧ ∀ v ∈ fv, ∃ a1 x1 l, v = .ref a1 ∧ SqT K H15 a1 [x1, .ref l] ∧ H14 l = none ∧ l ≠ fp ∧ ∃ ys, H' l = some (.lst ys) ∧ ys.length ≤ 30 + i) ⟨_, _, _, rfl, e1417, .of (e16.trans e17), hfv17, fun v hv => ?_⟩ (fun i σ' H' _ ⟨_, _, _, _, _, _, e, _⟩ => SqL.of e) ?_ ?_⟩
          · obtain ⟨j, hj⟩ := List.mem_iff_getElem?.mp hv
            obtain ⟨g, hg, ⟨a1, x1, l, ys, e1, h1, h2, h3, h4, h5, h6⟩⟩ := pairG_get hF hj
            have bg := (aB g (List.mem_of_getElem? hg)).2.2
            have ly := h4.len
            exact ⟨a1, x1, l, e1, h1, h5, h6, ys, (e16.trans e17) _ _ h3, by omega⟩
          · rintro j v σ' H18 hv ⟨c10, c11, c12, rfl, e18, t18, hfv18, hin⟩
            obtain ⟨a1, x1, l, rfl, h1, h5, h6, ys, hl, hy⟩ := hin v (List.mem_of_getElem? hv)
            have tl : Tups K H18 (upd H18 l (.lst (ys ++ [V.non]))) := Tups.lst hl
            have hj : j < fv.length := (List.getElem?_eq_some_iff.mp hv).1
            refine ⟨a1, _, rfl, t18 _ _ h1, rfl, x1, _, rfl, .ref l, _, rfl, rfl, ?_⟩
            refine ⟨_, rfl, .inl ⟨rfl, ys, SqL.of hl⟩, l, ys, .non, rfl, rfl, hl, small5' (by omega), _, _, _, rfl, Ex.mut e18 h5, t18.trans tl, ?_, fun u hu => ?_⟩
            · rw [upd_ne h6.symm]
              exact hfv18
            · obtain ⟨a2, x2, l2, e2, k1, k5, k6, ys2, hl2, hy2⟩ := hin u hu
              by_cases c : l2 = l
              · subst c
                rw [hl] at hl2
                cases hl2
                exact ⟨a2, x2, l2, e2, k1, k5, k6, _, upd_same, by rw [List.length_append, List.length_singleton]; omega⟩
              · exact ⟨a2, x2, l2, e2, k1, k5, k6, ys2, by rw [upd_ne c]; exact hl2, by omega⟩
          · rintro σ' H18 ⟨c10, c11, c12, rfl, e18, t18, hfv18, hin⟩
            refine ⟨_, rfl, .inl ⟨rfl, fv, SqL.of hfv18⟩, fp, fv, .non, rfl, rfl, hfv18, small5' (by omega), ?_⟩
            have e19 : Ex H14 (upd H18 fp (.lst (fv ++ [V.non]))) := Ex.mut e18 hfp
            generalize upd H18 fp (.lst (fv ++ [V.non])) = H19 at *
            refine ⟨_, rfl, _, rfl, wd, D, us, ps, rfl, hz, .inl (e19 _ _ hU14), p2_mono (.of e19) hP14, hB3, by omega, fun kp kv H20 hkp e20 hkv hK => ?_⟩
            rw [hgs] at hK
            refine ⟨_, rfl, _, _, .lst (SqL.of hkv) (gr_dp hK), due (e19.trans e20), shp, shp, _, rfl, ?_⟩
            rw [eqv]
            exact iteF ⟨_, _, _, _, _, _, _, rfl, e13.trans (e14.trans (e19.trans e20))⟩
        · rintro σ' H13 ⟨c3, c7, c8, c9, c10, c11, c12, rfl, e13⟩
          have d13 := d6.trans (d7.trans (d8.trans (d9.trans (Dr.ex d9.well (e10.trans e13)))))
          exact ⟨_, rfl, pw, rfl, d13.well, fun H14 d14 => ⟨true, rfl, iteF ⟨_, _, _, _, _, _, _, _, _, _, rfl, d13.trans d14⟩⟩⟩
    · rintro σ' H6 ⟨c3, c4, c5, c6, c7, c8, c9, c10, c11, c12, rfl, d6⟩
      have hT6 := tabs_dr hw5 d6 hT5
      refine ⟨(by show 2 ≤ sizeLine; decide), fun tq htq => ⟨(by show 1 ≤ sizeLine; decide), fun lq hlq => ?_⟩⟩
      have e7 := Ex.new (o := HO.tup [.str "a", .str "b"]) htq
      have ot7 : ObAt K (upd H6 tq (.tup [.str "a", .str "b"])) (.ref tq) tabO := .tup upd_same (.cons (.str _) (.cons (.str _) .nil))
      generalize upd H6 tq (.tup [.str "a", .str "b"]) = H7 at *
      have e8 := Ex.new (o := HO.lst [.ref tq]) hlq
      refine ⟨lq, [.ref tq], rfl, upd_same, .cons (ot7.mono (.of e8)) .nil, hT6.ext (e7.trans e8), fun H9 eN hT9 => ⟨true, rfl, iteF ⟨_, _, _, _, _, _, _, _, _, _, _, _, rfl, fun b o hb no => ?_, hT9⟩⟩⟩
      have h4 := e4 b o hb no
      have h5 := e5 b o h4
      have h6 := d6.keep b o (ne_of_none h4 hpw) h5
      exact eN b o ((e7.trans e8) b o h6) no
  · rintro σ' H4 ⟨c1, c2, c3, c4, c5, c6, c7, c8, c9, c10, c11, c12, rfl, e4, hT4⟩
    exact q H4
end
end Hm

set_option Elab.async false
set_option linter.all false
set_option maxRecDepth 100000
set_option maxHeartbeats 2000000
/-! the end of a law whose defs show data and make lambdas: one code object's table is written to -/
namespace RG
open PySem PySem.Spec PyProof.Rows L2 LamX
/-- the empty table -/
abbrev emp : Obj := { cls := .none, data := .fields #[] }
/-- what is tracked at the start: the script, and the table -/
def trk1 (K : PySem.W.Frag) (a pp : Addr) (vs : List Value) (ns : List Int) : Hp := fun b => if b = pp then some (.tbl #[]) else trk0 K a vs ns b
theorem trk1_at {K : PySem.W.Frag} {a pp b : Addr} {vs : List Value} {ns : List Int} {u : HO} (h : trk1 K a pp vs ns b = some u) : (b = pp ∧ u = .tbl #[]) ∨ (b ≠ pp ∧ b = a ∧ K.lookup a = none ∧ u = .frz (scr vs) (.lst (ns.map V.int))) := by
  unfold trk1 at h
  split at h
  · rename_i c
    cases h
    exact .inl ⟨c, rfl⟩
  · rename_i c
    exact .inr ⟨c, trk0_at h⟩
theorem law_free1 {P : Program} {w : World} {K : PySem.W.Frag} {mg mb : Str → Option Value} {CC : CXT} {k : Nat} {fa a cc pp : Addr} {fd : FuncData} {x : Str} {sp : Sp} {st : Shared} {vs : List Value} {ns : List Int}
    (inK : K.In st.heap) (gl : st.heap.Ns mainGlobals mg) (bn : st.heap.Ns builtinsNs mb) (boot : ∀ y : Str, y ≠ "__name__" → mb y = bootBuiltins y) (noL : st.heap.NoLimit) (noG : st.gens = #[])
    (hT : st.heap.get? pp = some emp) (nT : K.lookup pp = none) (C : PySem.W.CodeHd st.heap cc pp)
    (hbm : ∃ (bm : Addr) (ob : Obj), mg "__builtins__" = some (.ref bm) ∧ bm ≠ builtinsNs ∧ st.heap.get? bm = some ob ∧ ob.cls = .type "module" ∧ ob.dict = some builtinsNs ∧ ob.data = .plain)
    (at_ : st.heap.get? a = some (scr vs)) (inz : IntsAre vs ns) (few : ns.length ≤ sizeLine) (room : Room k callerA)
    (F : ∀ base : Heap, K.In base → base.Ns mainGlobals mg → TabB base mg cc pp → FnG P w K mg base CC k fa fd [x] sp) (bind : ∀ (s : Shared) (u : Value), BindsTo s fd ⟨[u], []⟩ [(x, u)])
    (told : ∀ H : Hp, H pp = some (.tbl #[]) → SqL K H a (ns.map V.int) → sp [.ref a] H (fun v _ => v = .bl true) fun _ _ _ => False)
    (calm : ∀ H e s', CC [] H st (fun _ _ _ => False) e s' → False) :
    codeAny (model P w) callerA (.call (.ref fa) ⟨[.ref a], []⟩) (fun r s' => r = .ok (.ret (.bool true)) ∧ OldK st.heap s'.heap ∧ s'.os = st.os ∧ AllBare s'.gens) st := by
  have rv := vals_ints inz
  have hlen := inz.length
  have nap : a ≠ pp := fun z => by
    rw [z, hT] at at_
    have q : Data.fields #[] = Data.seq vs.toArray _ := congrArg Obj.data (Option.some.inj at_)
    cases q
  let H := trk1 K a pp vs ns
  have Ha : K.lookup a = none → H a = some (.frz (scr vs) (.lst (ns.map V.int))) := fun e => (if_neg nap).trans (if_pos ⟨rfl, e⟩)
  have Hp : H pp = some (.tbl #[]) := if_pos rfl
  have hS : SqL K H a (ns.map V.int) := by
    cases e : K.lookup a with
    | none => exact .inl (.inr ⟨scr vs, Ha e⟩)
    | some o =>
      have e2 := inK a o e
      rw [at_] at e2
      cases e2
      exact .inr ⟨_, vs.toArray, _, e, rfl, rfl, rfl, by rw [List.size_toArray, hlen]; exact few, by simpa using rv⟩
  have hOk : HOk P w H st.heap := fun b u z => by
    rcases trk1_at z with ⟨rfl, rfl⟩ | ⟨_, rfl, _, rfl⟩
    · exact hT
    · exact ⟨at_, by rw [List.length_map]; exact few, vs, _, rv, at_⟩
  have keepB : ∀ {b : Addr} {o : Obj}, st.heap.get? b = some o → H b = none → (hidT st.heap H).get? b = some o := fun e n => hidT_get e n
  -- what is no list and no table of rows is not tracked
  have plainB : ∀ {b : Addr} {o : Obj}, st.heap.get? b = some o → (∀ xs n, o.data ≠ .seq xs n) → o.data ≠ .fields #[] → (hidT st.heap H).get? b = some o := fun {b o} e h1 h2 => keepB e (by
    cases q : H b with
    | none => rfl
    | some u =>
      rcases trk1_at q with ⟨rfl, _⟩ | ⟨_, rfl, _, _⟩
      · rw [hT] at e
        cases e
        exact (h2 rfl).elim
      · rw [at_] at e
        cases e
        exact (h1 _ _ rfl).elim)
  have dicts : ∀ {b : Addr} {m : Str → Option Value}, st.heap.Ns b m → (hidT st.heap H).Ns b m := by
    rintro b m ⟨o, es, ep, e, d, r⟩
    exact ⟨o, es, ep, plainB e (fun xs n z => by rw [d] at z; cases z) (fun z => by rw [d] at z; cases z), d, r⟩
  have inB : K.In (hidT st.heap H) := fun b o e => keepB (inK b o e) (by
    cases q : H b with
    | none => rfl
    | some u =>
      rcases trk1_at q with ⟨rfl, _⟩ | ⟨_, rfl, z, _⟩
      · rw [nT] at e
        cases e
      · rw [z] at e
        cases e)
  obtain ⟨mc, c1, c2⟩ := noL
  have md : Mod K mg (hidT st.heap H) := ⟨inB, dicts gl, ⟨mb, dicts bn, boot⟩, mc, dicts c1, c2⟩
  have TB : TabB (hidT st.heap H) mg cc pp := by
    refine ⟨?_, ?_, fun z => ?_⟩
    · obtain ⟨o, us, file, tf, flags, tg, inF, text, tt, e1, r1, r2, r3, r⟩ := C
      refine ⟨o, us, file, tf, flags, tg, inF, text, tt, plainB e1 (fun xs n z => by rw [r2] at z; cases z) (fun z => ?_), r1, r2, r3, r⟩
      rw [r2] at z
      cases z
      simp at r3
    · obtain ⟨bm, ob, b1, b2, b3, b4, b5, b6⟩ := hbm
      refine ⟨bm, ob, b1, b2, fun q => ?_, fun q => ?_, plainB b3 (fun xs n z => by rw [b6] at z; cases z) (fun z => by rw [b6] at z; cases z), b4, b5, b6⟩
      · obtain ⟨o, es, ep, e, hd, _⟩ := gl
        rw [q, e] at b3
        cases b3
        rw [hd] at b6
        cases b6
      · rw [q, hT] at b3
        cases b3
        cases b6
    · obtain ⟨o, es, ep, e, hd, _⟩ := gl
      rw [z, hT] at e
      cases e
      cases hd
  have e0 : Env0 P w K mg (hidT st.heap H) callerA [] st H := {
    frames := rfl, mod := md, bs := fun b o e => of_hidT e, bsz := Nat.le_of_eq (hidT_size _ _), funs := trivial
    frf := fun b hb => (List.not_mem_nil hb).elim, hok := hOk, bare := .of_eq noG }
  refine codeAny_mono ((F _ inB (dicts gl) TB).go callerA [] st H ⟨[.ref a], []⟩ [.ref a] [.ref a] _ _ rfl room e0 (bind st (.ref a)) (.cons rfl .nil) (told H Hp hS)) ?_
  rintro (er | (_ | _ | _ | u)) s2 h2
  · exact (calm H er s2 h2).elim
  · exact h2.elim
  · exact h2.elim
  · exact h2.elim
  · obtain ⟨v, G, ho, hb, un, ok2, r, rfl⟩ := h2
    cases (r : u = Value.bool true)
    obtain ⟨more, z⟩ := un.tbls pp #[] Hp
    have grown : s2.heap.get? pp = some { cls := .none, data := .fields more } := by
      have := ok2 pp _ z
      rw [Array.empty_append] at this
      exact this
    have key : ∀ b o, b ≠ pp → st.heap.get? b = some o → s2.heap.get? b = some o := fun b o nb e => by
      cases q : H b with
      | none => exact un.keep b o e q (fun z => List.not_mem_nil z) (by simp)
      | some t =>
        rcases trk1_at q with ⟨z, _⟩ | ⟨_, rfl, _, rfl⟩
        · exact absurd z nb
        · have z2 := un.frzs b (scr vs) _ q
          obtain ⟨k1, _⟩ := ok2 b _ z2
          rw [at_] at e
          cases e
          exact k1
    refine ⟨rfl, ⟨fun b o e => ?_, fun b o e => ?_⟩, ho, hb⟩
    · by_cases nb : b = pp
      · subst nb
        rw [hT] at e
        cases e
        exact .inr (.inl ⟨(C.tab hT).isCodeTable, rfl, #[], more, rfl, by rw [Array.empty_append]; exact grown⟩)
      · exact .inl (key b o nb e)
    · by_cases nb : b = pp
      · subst nb
        exact ⟨_, grown⟩
      · exact ⟨o, key b o nb e⟩
/-- what is known of the law's promise at the head's heap -/
def LawAtG (l : PySem.W.OpenLaw) (w : World) (K : PySem.W.Frag) (CC : CXT) (k n : Nat) (x : Str) (mg : Str → Option Value) (fa : Addr) (h : Heap) : Prop :=
  ∃ (fd : FuncData) (cc pp : Addr) (sp : Sp), h.get? pp = some emp ∧ K.lookup pp = none ∧ PySem.W.CodeHd h cc pp ∧ (∀ (s : Shared) (u : Value), BindsTo s fd ⟨[u], []⟩ [(x, u)]) ∧
    (∀ (H : Hp) (a : Addr) (ns : List Int), ns.length ≤ n → H pp = some (.tbl #[]) → SqL K H a (ns.map V.int) → sp [.ref a] H (fun v _ => v = .bl true) fun _ _ _ => False) ∧
    ∀ base : Heap, K.In base → base.Ns mainGlobals mg → TabB base mg cc pp → FnG l.prog w K mg base CC k fa fd [x] sp
/-- the goal that k_head leaves -/
theorem walk_free1 {l : PySem.W.OpenLaw} {n k : Nat} {q : Program} {loose : List Str} {XP : (Str → Option Value) → Heap → Prop} {YP : World → Heap → Prop} {d : DefRec} {K : Params → PySem.W.Frag} {CC : World → CXT} {x : Str}
    (most : l.most = some n) (few : n ≤ sizeLine) (nodef : d.params.defaults = []) (room : Room k callerA) (inK : ∀ (w : World) (h : Heap), YP w h → (K w.params).In h)
    (F : ∀ (w : World) (mg : Str → Option Value) (fa : Addr) (h : Heap), YP w h → (K w.params).In h → h.Ns mainGlobals mg → mg d.name = some (.ref fa) → LawAtG l w (K w.params) (CC w) k n x mg fa h)
    (calm : ∀ (w : World) (H : Hp) (s : Shared) (e : Value) (s' : Shared), CC w [] H s (fun _ _ _ => False) e s' → False) : PySem.W.WalkO q loose XP YP l.row.toRowW d [] (fun f vs => PySem.call f vs) := by
  refine Att.attach_callB most nodef fun w s0 s1 mg mb fa o pm cd doc a vs ns G Y ho hd hcd hmg hob hin hle hbits hgn => ?_
  obtain ⟨fd, cc, pp, sp, hT, nT, C, hbi, told, hF⟩ := F w mg fa _ Y (inK w _ Y) G.T.g hmg
  exact law_free1 (inK w _ Y) G.T.g G.T.b G.T.builtins G.T.nolimit hgn hT nT C G.T.bmain hob hin (Nat.le_trans hle few) room hF hbi (fun H h1 hS => told H a ns hle h1 hS) fun H e s2 => calm w H s1 e s2
end RG

set_option Elab.async false
set_option linter.all false
set_option maxRecDepth 100000
set_option maxHeartbeats 4000000
namespace Hm
open PySem PySem.Spec PyProof.Rows L2 HT
theorem mod_two {K : PySem.W.Frag} {N : Addr} {o : Option Addr} {m : Nat} {w : Array (Option Value)} {g g' : Tok} (h : K.lookup N = some ⟨.type "tuple", o, .seq #[.str "bagof" g, .str "setof" g'] m, w⟩) : ∀ H : Hp, SqT K H N [.str (Str.ofString "bagof"), .str (Str.ofString "setof")] := fun H =>
  .inr ⟨_, _, _, h, rfl, rfl, (by show 2 ≤ sizeLine; decide), .cons ⟨_, rfl⟩ (.cons ⟨_, rfl⟩ .nil)⟩
theorem kcl_own {K : PySem.W.Frag} {C D : Addr} {b : Bool} (h1 : PySem.W.isClsIn K D = true) (h2 : PySem.W.typeIn K (.ref D) = some (.type "type")) (h3 : PySem.W.subIn K (.ref C) (.ref D) = some b) : PySem.W.kitCls K (.ref C) (.ref D) = some b := by
  have e : ((PySem.W.clsIn K D).isSome && PySem.W.typeIn K (.ref D) == some (.type "type")) = true := by
    rw [show (PySem.W.clsIn K D).isSome = true from h1, h2]
    rfl
  show (if ((PySem.W.clsIn K D).isSome && PySem.W.typeIn K (.ref D) == some (.type "type")) = true then PySem.W.subIn K (.ref C) (.ref D) else none) = some b
  rw [if_pos e]
  exact h3
theorem exm_own {K : PySem.W.Frag} {C : Addr} (h0 : PySem.W.subIn K (.ref C) (.type "BaseException") = some true) (h1 : PySem.W.isClsIn K C = true) (h2 : PySem.W.typeIn K (.ref C) = some (.type "type")) (h3 : PySem.W.subIn K (.ref C) (.ref C) = some true) : PySem.W.exmOne K (.ref C) (.ref C) = some true := by
  unfold PySem.W.exmOne
  rw [h0]
  exact kcl_own h1 h2 h3
theorem kit_own {K : PySem.W.Frag} {C D : Addr} (h1 : PySem.W.isClsIn K D = true) (h2 : PySem.W.typeIn K (.ref D) = some (.type "type")) (h3 : PySem.W.subIn K (.ref C) (.ref D) = some true) : PySem.W.kitOne K (.ref C) (.ref D) = some true := by
  unfold PySem.W.kitOne
  split
  · rfl
  · exact kcl_own h1 h2 h3
theorem exm_any {K : PySem.W.Frag} {C D : Addr} {b : Bool} (h0 : PySem.W.subIn K (.ref D) (.type "BaseException") = some true) (h1 : PySem.W.isClsIn K D = true) (h2 : PySem.W.typeIn K (.ref D) = some (.type "type")) (h3 : PySem.W.subIn K (.ref C) (.ref D) = some b) : PySem.W.exmOne K (.ref C) (.ref D) = some b := by
  unfold PySem.W.exmOne
  rw [h0]
  exact kcl_own h1 h2 h3
theorem all_mk {l : PySem.W.OpenLaw} {w : World} {K : PySem.W.Frag} {h : Heap} {mg : Str → Option Value} {fa : Addr} (X : K.In h) (G : h.Ns mainGlobals mg) (hfa : mg "law" = some (.ref fa)) {pp : Addr}
    {f1 : Addr}
    {od1 an1 : Option Addr} {sl1 : Array (Option Value)} {oc1 kV1 dc1 pm1 cd1 ct1 : Value}
    {f2 : Addr}
    {od2 an2 : Option Addr} {sl2 : Array (Option Value)} {oc2 kV2 dc2 pm2 cd2 ct2 : Value}
    {f3 : Addr}
    {od3 an3 : Option Addr} {sl3 : Array (Option Value)} {oc3 kV3 dc3 pm3 cd3 ct3 : Value}
    {f4 : Addr}
    {od4 an4 : Option Addr} {sl4 : Array (Option Value)} {oc4 kV4 dc4 pm4 cd4 ct4 : Value}
    {f5 : Addr}
    {od5 an5 : Option Addr} {sl5 : Array (Option Value)} {oc5 kV5 dc5 pm5 cd5 ct5 : Value}
    {f6 : Addr}
    {od6 an6 : Option Addr} {sl6 : Array (Option Value)} {oc6 kV6 dc6 pm6 cd6 ct6 : Value}
    {f7 : Addr}
    {od7 an7 : Option Addr} {sl7 : Array (Option Value)} {oc7 kV7 dc7 pm7 cd7 ct7 : Value}
    {f8 : Addr}
    {od8 an8 : Option Addr} {sl8 : Array (Option Value)} {oc8 kV8 dc8 pm8 cd8 ct8 : Value}
    {f9 : Addr}
    {od9 an9 : Option Addr} {sl9 : Array (Option Value)} {oc9 kV9 dc9 pm9 cd9 ct9 : Value}
    {f10 : Addr}
    {od10 an10 : Option Addr} {sl10 : Array (Option Value)} {oc10 kV10 dc10 pm10 cd10 ct10 : Value}
    {f11 : Addr}
    {od11 an11 : Option Addr} {sl11 : Array (Option Value)} {oc11 kV11 dc11 pm11 cd11 ct11 : Value}
    {f12 : Addr}
    {od12 an12 : Option Addr} {sl12 : Array (Option Value)} {oc12 kV12 dc12 pm12 cd12 ct12 : Value}
    {f13 : Addr}
    {od13 an13 : Option Addr} {sl13 : Array (Option Value)} {oc13 kV13 dc13 pm13 cd13 ct13 : Value}
    {f14 : Addr}
    {od14 an14 : Option Addr} {sl14 : Array (Option Value)} {oc14 kV14 dc14 pm14 cd14 ct14 : Value}
    {f15 : Addr}
    {od15 an15 : Option Addr} {sl15 : Array (Option Value)} {oc15 kV15 dc15 pm15 cd15 ct15 : Value}
    {f16 : Addr}
    {od16 an16 : Option Addr} {sl16 : Array (Option Value)} {oc16 kV16 dc16 pm16 cd16 ct16 : Value}
    {f17 : Addr}
    {od17 an17 : Option Addr} {sl17 : Array (Option Value)} {oc17 kV17 dc17 pm17 cd17 ct17 : Value}
    {f18 : Addr}
    {od18 an18 : Option Addr} {sl18 : Array (Option Value)} {oc18 kV18 dc18 pm18 cd18 ct18 : Value}
    {f19 : Addr}
    {od19 an19 : Option Addr} {sl19 : Array (Option Value)} {oc19 kV19 dc19 pm19 cd19 ct19 : Value}
    {f20 : Addr}
    {od20 an20 : Option Addr} {sl20 : Array (Option Value)} {oc20 kV20 dc20 pm20 cd20 ct20 : Value}
    {f21 : Addr}
    {od21 an21 : Option Addr} {sl21 : Array (Option Value)} {oc21 kV21 dc21 pm21 cd21 ct21 : Value}
    {f22 : Addr}
    {od22 an22 : Option Addr} {sl22 : Array (Option Value)} {oc22 kV22 dc22 pm22 cd22 ct22 : Value}
    {f23 : Addr}
    {od23 an23 : Option Addr} {sl23 : Array (Option Value)} {oc23 kV23 dc23 pm23 cd23 ct23 : Value}
    {f24 : Addr}
    {od24 an24 : Option Addr} {sl24 : Array (Option Value)} {oc24 kV24 dc24 pm24 cd24 ct24 : Value}
    {f25 : Addr}
    {od25 an25 : Option Addr} {sl25 : Array (Option Value)} {oc25 kV25 dc25 pm25 cd25 ct25 : Value}
    {f26 : Addr}
    {od26 an26 : Option Addr} {sl26 : Array (Option Value)} {oc26 kV26 dc26 pm26 cd26 ct26 : Value}
    {f27 : Addr}
    {od27 an27 : Option Addr} {sl27 : Array (Option Value)} {oc27 kV27 dc27 pm27 cd27 ct27 : Value}
    {f28 : Addr}
    {od28 an28 : Option Addr} {sl28 : Array (Option Value)} {oc28 kV28 dc28 pm28 cd28 ct28 : Value}
    {f29 : Addr}
    {od29 an29 : Option Addr} {sl29 : Array (Option Value)} {oc29 kV29 dc29 pm29 cd29 ct29 : Value}
    {f30 : Addr}
    {od30 an30 : Option Addr} {sl30 : Array (Option Value)} {oc30 kV30 dc30 pm30 cd30 ct30 : Value}
    {f31 : Addr}
    {od31 an31 : Option Addr} {sl31 : Array (Option Value)} {oc31 kV31 dc31 pm31 cd31 ct31 : Value}
    {f32 : Addr}
    {od32 an32 : Option Addr} {sl32 : Array (Option Value)} {oc32 kV32 dc32 pm32 cd32 ct32 : Value}
    {f33 : Addr}
    {od33 an33 : Option Addr} {sl33 : Array (Option Value)} {oc33 kV33 dc33 pm33 cd33 ct33 : Value}
    {f34 : Addr}
    {od34 an34 : Option Addr} {sl34 : Array (Option Value)} {oc34 kV34 dc34 pm34 cd34 ct34 : Value}
    {f35 : Addr}
    {od35 an35 : Option Addr} {sl35 : Array (Option Value)} {oc35 kV35 dc35 pm35 cd35 ct35 : Value}
    {f36 : Addr}
    {od36 an36 : Option Addr} {sl36 : Array (Option Value)} {oc36 kV36 dc36 pm36 ct36 : Value}
    {cc : Addr}
    {f37 : Addr}
    {od37 an37 : Option Addr} {sl37 : Array (Option Value)} {oc37 kV37 dc37 pm37 cd37 ct37 : Value}
    {CC : Addr}
    {f38 : Addr}
    {od38 an38 : Option Addr} {sl38 : Array (Option Value)} {oc38 kV38 dc38 pm38 cd38 ct38 : Value}
    {f39 : Addr}
    {od39 an39 : Option Addr} {sl39 : Array (Option Value)} {oc39 kV39 dc39 pm39 cd39 ct39 : Value}
    {f40 : Addr}
    {od40 an40 : Option Addr} {sl40 : Array (Option Value)} {oc40 kV40 dc40 pm40 cd40 ct40 : Value}
    {u1 : Tok}
    {u2 : Tok}
    {u3 : Tok}
    {u4 : Tok}
    {u5 : Tok}
    {u6 : Tok}
    {u7 : Tok}
    {u8 : Tok}
    {N1 : Addr} {o1 : Option Addr} {m1 : Nat} {w1 : Array (Option Value)} {g1 g2 : Tok}
    {aHn : Addr}
    {aeD ieD NBeD : Addr} {nmBeD qBeD : Str} {bsBeD : List Value} {snBeD : List Str} {subBeD : List Value} {abBeD : Bool} {colBeD : Option Bool} {ddBeD : Option Addr} {mB0eD mB1eD mB2eD mB3eD mB5eD : Option Value} {odBeD anBeD : Option Addr} {slBeD : Array (Option Value)} {ocBeD kVBeD dcBeD pmBeD cdBeD ctBeD : Value}
    {aeP ieP NBeP : Addr} {nmBeP qBeP : Str} {bsBeP : List Value} {snBeP : List Str} {subBeP : List Value} {abBeP : Bool} {colBeP : Option Bool} {ddBeP : Option Addr} {mB0eP mB1eP mB2eP mB3eP mB5eP : Option Value} {odBeP anBeP : Option Addr} {slBeP : Array (Option Value)} {ocBeP kVBeP dcBeP pmBeP cdBeP ctBeP : Value}
    (a1 : PySem.W.nsIn K mainGlobals "is_integer" = some (some (.ref f1)))
    (l1 : K.lookup f1 = some ⟨oc1, od1, .func (PySem.W.fnOf "is_integer" "is_integer" (defArgs s_is_integer) (defBody s_is_integer) (defScope s_is_integer) .none kV1 dc1 pm1 an1 cd1 ct1), sl1⟩)
    (c1 : PySem.W.codeIn K cd1 "is_integer" = true) (k1 : PySem.W.keepIn K (.ref f1) = true)
    (a2 : PySem.W.nsIn K mainGlobals "is_sign" = some (some (.ref f2)))
    (l2 : K.lookup f2 = some ⟨oc2, od2, .func (PySem.W.fnOf "is_sign" "is_sign" (defArgs s_is_sign) (defBody s_is_sign) (defScope s_is_sign) .none kV2 dc2 pm2 an2 cd2 ct2), sl2⟩)
    (c2 : PySem.W.codeIn K cd2 "is_sign" = true) (k2 : PySem.W.keepIn K (.ref f2) = true)
    (a3 : PySem.W.nsIn K mainGlobals "is_atom" = some (some (.ref f3)))
    (l3 : K.lookup f3 = some ⟨oc3, od3, .func (PySem.W.fnOf "is_atom" "is_atom" (defArgs s_is_atom) (defBody s_is_atom) (defScope s_is_atom) .none kV3 dc3 pm3 an3 cd3 ct3), sl3⟩)
    (c3 : PySem.W.codeIn K cd3 "is_atom" = true) (k3 : PySem.W.keepIn K (.ref f3) = true)
    (a4 : PySem.W.nsIn K mainGlobals "is_number" = some (some (.ref f4)))
    (l4 : K.lookup f4 = some ⟨oc4, od4, .func (PySem.W.fnOf "is_number" "is_number" (defArgs s_is_number) (defBody s_is_number) (defScope s_is_number) .none kV4 dc4 pm4 an4 cd4 ct4), sl4⟩)
    (c4 : PySem.W.codeIn K cd4 "is_number" = true) (k4 : PySem.W.keepIn K (.ref f4) = true)
    (a5 : PySem.W.nsIn K mainGlobals "is_term" = some (some (.ref f5)))
    (l5 : K.lookup f5 = some ⟨oc5, od5, .func (PySem.W.fnOf "is_term" "is_term" (defArgs s_is_term) (defBody s_is_term) (defScope s_is_term) .none kV5 dc5 pm5 an5 cd5 ct5), sl5⟩)
    (c5 : PySem.W.codeIn K cd5 "is_term" = true) (k5 : PySem.W.keepIn K (.ref f5) = true)
    (a6 : PySem.W.nsIn K mainGlobals "_is_part" = some (some (.ref f6)))
    (l6 : K.lookup f6 = some ⟨oc6, od6, .func (PySem.W.fnOf "_is_part" "_is_part" (defArgs s_is_part) (defBody s_is_part) (defScope s_is_part) .none kV6 dc6 pm6 an6 cd6 ct6), sl6⟩)
    (c6 : PySem.W.codeIn K cd6 "_is_part" = true) (k6 : PySem.W.keepIn K (.ref f6) = true)
    (a7 : PySem.W.nsIn K mainGlobals "demand_term" = some (some (.ref f7)))
    (l7 : K.lookup f7 = some ⟨oc7, od7, .func (PySem.W.fnOf "demand_term" "demand_term" (defArgs s_demand_term) (defBody s_demand_term) (defScope s_demand_term) .none kV7 dc7 pm7 an7 cd7 ct7), sl7⟩)
    (c7 : PySem.W.codeIn K cd7 "demand_term" = true) (k7 : PySem.W.keepIn K (.ref f7) = true)
    (a8 : PySem.W.nsIn K mainGlobals "is_variable" = some (some (.ref f8)))
    (l8 : K.lookup f8 = some ⟨oc8, od8, .func (PySem.W.fnOf "is_variable" "is_variable" (defArgs s_is_variable) (defBody s_is_variable) (defScope s_is_variable) .none kV8 dc8 pm8 an8 cd8 ct8), sl8⟩)
    (c8 : PySem.W.codeIn K cd8 "is_variable" = true) (k8 : PySem.W.keepIn K (.ref f8) = true)
    (a9 : PySem.W.nsIn K mainGlobals "arguments_of" = some (some (.ref f9)))
    (l9 : K.lookup f9 = some ⟨oc9, od9, .func (PySem.W.fnOf "arguments_of" "arguments_of" (defArgs s_arguments_of) (defBody s_arguments_of) (defScope s_arguments_of) .none kV9 dc9 pm9 an9 cd9 ct9), sl9⟩)
    (c9 : PySem.W.codeIn K cd9 "arguments_of" = true) (k9 : PySem.W.keepIn K (.ref f9) = true)
    (a10 : PySem.W.nsIn K mainGlobals "parts_of" = some (some (.ref f10)))
    (l10 : K.lookup f10 = some ⟨oc10, od10, .func (PySem.W.fnOf "parts_of" "parts_of" (defArgs s_parts_of) (defBody s_parts_of) (defScope s_parts_of) .none kV10 dc10 pm10 an10 cd10 ct10), sl10⟩)
    (c10 : PySem.W.codeIn K cd10 "parts_of" = true) (k10 : PySem.W.keepIn K (.ref f10) = true)
    (a11 : PySem.W.nsIn K mainGlobals "head_of" = some (some (.ref f11)))
    (l11 : K.lookup f11 = some ⟨oc11, od11, .func (PySem.W.fnOf "head_of" "head_of" (defArgs s_head_of) (defBody s_head_of) (defScope s_head_of) .none kV11 dc11 pm11 an11 cd11 ct11), sl11⟩)
    (c11 : PySem.W.codeIn K cd11 "head_of" = true) (k11 : PySem.W.keepIn K (.ref f11) = true)
    (a12 : PySem.W.nsIn K mainGlobals "folded" = some (some (.ref f12)))
    (l12 : K.lookup f12 = some ⟨oc12, od12, .func (PySem.W.fnOf "folded" "folded" (defArgs s_folded) (defBody s_folded) (defScope s_folded) .none kV12 dc12 pm12 an12 cd12 ct12), sl12⟩)
    (c12 : PySem.W.codeIn K cd12 "folded" = true) (k12 : PySem.W.keepIn K (.ref f12) = true)
    (a13 : PySem.W.nsIn K mainGlobals "replaced" = some (some (.ref f13)))
    (l13 : K.lookup f13 = some ⟨oc13, od13, .func (PySem.W.fnOf "replaced" "replaced" (defArgs s_replaced) (defBody s_replaced) (defScope s_replaced) .none kV13 dc13 pm13 an13 cd13 ct13), sl13⟩)
    (c13 : PySem.W.codeIn K cd13 "replaced" = true) (k13 : PySem.W.keepIn K (.ref f13) = true)
    (a14 : PySem.W.nsIn K mainGlobals "numbers_in" = some (some (.ref f14)))
    (l14 : K.lookup f14 = some ⟨oc14, od14, .func (PySem.W.fnOf "numbers_in" "numbers_in" (defArgs s_numbers_in) (defBody s_numbers_in) (defScope s_numbers_in) .none kV14 dc14 pm14 an14 cd14 ct14), sl14⟩)
    (c14 : PySem.W.codeIn K cd14 "numbers_in" = true) (k14 : PySem.W.keepIn K (.ref f14) = true)
    (a15 : PySem.W.nsIn K mainGlobals "renumbered" = some (some (.ref f15)))
    (l15 : K.lookup f15 = some ⟨oc15, od15, .func (PySem.W.fnOf "renumbered" "renumbered" (defArgs s_renumbered) (defBody s_renumbered) (defScope s_renumbered) .none kV15 dc15 pm15 an15 cd15 ct15), sl15⟩)
    (c15 : PySem.W.codeIn K cd15 "renumbered" = true) (k15 : PySem.W.keepIn K (.ref f15) = true)
    (a16 : PySem.W.nsIn K mainGlobals "demand_pairs" = some (some (.ref f16)))
    (l16 : K.lookup f16 = some ⟨oc16, od16, .func (PySem.W.fnOf "demand_pairs" "demand_pairs" (defArgs s_demand_pairs) (defBody s_demand_pairs) (defScope s_demand_pairs) .none kV16 dc16 pm16 an16 cd16 ct16), sl16⟩)
    (c16 : PySem.W.codeIn K cd16 "demand_pairs" = true) (k16 : PySem.W.keepIn K (.ref f16) = true)
    (a17 : PySem.W.nsIn K mainGlobals "_is_pair" = some (some (.ref f17)))
    (l17 : K.lookup f17 = some ⟨oc17, od17, .func (PySem.W.fnOf "_is_pair" "_is_pair" (defArgs s_is_pair) (defBody s_is_pair) (defScope s_is_pair) .none kV17 dc17 pm17 an17 cd17 ct17), sl17⟩)
    (c17 : PySem.W.codeIn K cd17 "_is_pair" = true) (k17 : PySem.W.keepIn K (.ref f17) = true)
    (a18 : PySem.W.nsIn K mainGlobals "order_key" = some (some (.ref f18)))
    (l18 : K.lookup f18 = some ⟨oc18, od18, .func (PySem.W.fnOf "order_key" "order_key" (defArgs s_order_key) (defBody s_order_key) (defScope s_order_key) .none kV18 dc18 pm18 an18 cd18 ct18), sl18⟩)
    (c18 : PySem.W.codeIn K cd18 "order_key" = true) (k18 : PySem.W.keepIn K (.ref f18) = true)
    (a19 : PySem.W.nsIn K mainGlobals "free_of" = some (some (.ref f19)))
    (l19 : K.lookup f19 = some ⟨oc19, od19, .func (PySem.W.fnOf "free_of" "free_of" (defArgs s_free_of) (defBody s_free_of) (defScope s_free_of) .none kV19 dc19 pm19 an19 cd19 ct19), sl19⟩)
    (c19 : PySem.W.codeIn K cd19 "free_of" = true) (k19 : PySem.W.keepIn K (.ref f19) = true)
    (a20 : PySem.W.nsIn K mainGlobals "grouped" = some (some (.ref f20)))
    (l20 : K.lookup f20 = some ⟨oc20, od20, .func (PySem.W.fnOf "grouped" "grouped" (defArgs s_grouped) (defBody s_grouped) (defScope s_grouped) .none kV20 dc20 pm20 an20 cd20 ct20), sl20⟩)
    (c20 : PySem.W.codeIn K cd20 "grouped" = true) (k20 : PySem.W.keepIn K (.ref f20) = true)
    (a21 : PySem.W.nsIn K mainGlobals "_witness_key" = some (some (.ref f21)))
    (l21 : K.lookup f21 = some ⟨oc21, od21, .func (PySem.W.fnOf "_witness_key" "_witness_key" (defArgs s_witness_key) (defBody s_witness_key) (defScope s_witness_key) .none kV21 dc21 pm21 an21 cd21 ct21), sl21⟩)
    (c21 : PySem.W.codeIn K cd21 "_witness_key" = true) (k21 : PySem.W.keepIn K (.ref f21) = true)
    (a22 : PySem.W.nsIn K mainGlobals "sorted_once" = some (some (.ref f22)))
    (l22 : K.lookup f22 = some ⟨oc22, od22, .func (PySem.W.fnOf "sorted_once" "sorted_once" (defArgs s_sorted_once) (defBody s_sorted_once) (defScope s_sorted_once) .none kV22 dc22 pm22 an22 cd22 ct22), sl22⟩)
    (c22 : PySem.W.codeIn K cd22 "sorted_once" = true) (k22 : PySem.W.keepIn K (.ref f22) = true)
    (a23 : PySem.W.nsIn K mainGlobals "_law_source_of" = some (some (.ref f23)))
    (l23 : K.lookup f23 = some ⟨oc23, od23, .func (PySem.W.fnOf "_law_source_of" "_law_source_of" (defArgs s_law_source_of) (defBody s_law_source_of) (defScope s_law_source_of) .none kV23 dc23 pm23 an23 cd23 ct23), sl23⟩)
    (c23 : PySem.W.codeIn K cd23 "_law_source_of" = true) (k23 : PySem.W.keepIn K (.ref f23) = true)
    (a24 : PySem.W.nsIn K mainGlobals "_law_next" = some (some (.ref f24)))
    (l24 : K.lookup f24 = some ⟨oc24, od24, .func (PySem.W.fnOf "_law_next" "_law_next" (defArgs s_law_next) (defBody s_law_next) (defScope s_law_next) .none kV24 dc24 pm24 an24 cd24 ct24), sl24⟩)
    (c24 : PySem.W.codeIn K cd24 "_law_next" = true) (k24 : PySem.W.keepIn K (.ref f24) = true)
    (a25 : PySem.W.nsIn K mainGlobals "_law_one" = some (some (.ref f25)))
    (l25 : K.lookup f25 = some ⟨oc25, od25, .func (PySem.W.fnOf "_law_one" "_law_one" (defArgs s_law_one) (defBody s_law_one) (defScope s_law_one) .none kV25 dc25 pm25 an25 cd25 ct25), sl25⟩)
    (c25 : PySem.W.codeIn K cd25 "_law_one" = true) (k25 : PySem.W.keepIn K (.ref f25) = true)
    (a26 : PySem.W.nsIn K mainGlobals "_law_term" = some (some (.ref f26)))
    (l26 : K.lookup f26 = some ⟨oc26, od26, .func (PySem.W.fnOf "_law_term" "_law_term" (defArgs s_law_term) (defBody s_law_term) (defScope s_law_term) .none kV26 dc26 pm26 an26 cd26 ct26), sl26⟩)
    (c26 : PySem.W.codeIn K cd26 "_law_term" = true) (k26 : PySem.W.keepIn K (.ref f26) = true)
    (a27 : PySem.W.nsIn K mainGlobals "_law_is_open" = some (some (.ref f27)))
    (l27 : K.lookup f27 = some ⟨oc27, od27, .func (PySem.W.fnOf "_law_is_open" "_law_is_open" (defArgs s_law_is_open) (defBody s_law_is_open) (defScope s_law_is_open) .none kV27 dc27 pm27 an27 cd27 ct27), sl27⟩)
    (c27 : PySem.W.codeIn K cd27 "_law_is_open" = true) (k27 : PySem.W.keepIn K (.ref f27) = true)
    (a28 : PySem.W.nsIn K mainGlobals "_law_numbers" = some (some (.ref f28)))
    (l28 : K.lookup f28 = some ⟨oc28, od28, .func (PySem.W.fnOf "_law_numbers" "_law_numbers" (defArgs s_law_numbers) (defBody s_law_numbers) (defScope s_law_numbers) .none kV28 dc28 pm28 an28 cd28 ct28), sl28⟩)
    (c28 : PySem.W.codeIn K cd28 "_law_numbers" = true) (k28 : PySem.W.keepIn K (.ref f28) = true)
    (a29 : PySem.W.nsIn K mainGlobals "_law_put" = some (some (.ref f29)))
    (l29 : K.lookup f29 = some ⟨oc29, od29, .func (PySem.W.fnOf "_law_put" "_law_put" (defArgs s_law_put) (defBody s_law_put) (defScope s_law_put) .none kV29 dc29 pm29 an29 cd29 ct29), sl29⟩)
    (c29 : PySem.W.codeIn K cd29 "_law_put" = true) (k29 : PySem.W.keepIn K (.ref f29) = true)
    (a30 : PySem.W.nsIn K mainGlobals "_law_rank" = some (some (.ref f30)))
    (l30 : K.lookup f30 = some ⟨oc30, od30, .func (PySem.W.fnOf "_law_rank" "_law_rank" (defArgs s_law_rank) (defBody s_law_rank) (defScope s_law_rank) .none kV30 dc30 pm30 an30 cd30 ct30), sl30⟩)
    (c30 : PySem.W.codeIn K cd30 "_law_rank" = true) (k30 : PySem.W.keepIn K (.ref f30) = true)
    (a31 : PySem.W.nsIn K mainGlobals "_law_ahead_by" = some (some (.ref f31)))
    (l31 : K.lookup f31 = some ⟨oc31, od31, .func (PySem.W.fnOf "_law_ahead_by" "_law_ahead_by" (defArgs s_law_ahead_by) (defBody s_law_ahead_by) (defScope s_law_ahead_by) .none kV31 dc31 pm31 an31 cd31 ct31), sl31⟩)
    (c31 : PySem.W.codeIn K cd31 "_law_ahead_by" = true) (k31 : PySem.W.keepIn K (.ref f31) = true)
    (a32 : PySem.W.nsIn K mainGlobals "_law_placed" = some (some (.ref f32)))
    (l32 : K.lookup f32 = some ⟨oc32, od32, .func (PySem.W.fnOf "_law_placed" "_law_placed" (defArgs s_law_placed) (defBody s_law_placed) (defScope s_law_placed) .none kV32 dc32 pm32 an32 cd32 ct32), sl32⟩)
    (c32 : PySem.W.codeIn K cd32 "_law_placed" = true) (k32 : PySem.W.keepIn K (.ref f32) = true)
    (a33 : PySem.W.nsIn K mainGlobals "_law_groups" = some (some (.ref f33)))
    (l33 : K.lookup f33 = some ⟨oc33, od33, .func (PySem.W.fnOf "_law_groups" "_law_groups" (defArgs s_law_groups) (defBody s_law_groups) (defScope s_law_groups) .none kV33 dc33 pm33 an33 cd33 ct33), sl33⟩)
    (c33 : PySem.W.codeIn K cd33 "_law_groups" = true) (k33 : PySem.W.keepIn K (.ref f33) = true)
    (a34 : PySem.W.nsIn K mainGlobals "_law_free_right" = some (some (.ref f34)))
    (l34 : K.lookup f34 = some ⟨oc34, od34, .func (PySem.W.fnOf "_law_free_right" "_law_free_right" (defArgs s_law_free_right) (defBody s_law_free_right) (defScope s_law_free_right) .none kV34 dc34 pm34 an34 cd34 ct34), sl34⟩)
    (c34 : PySem.W.codeIn K cd34 "_law_free_right" = true) (k34 : PySem.W.keepIn K (.ref f34) = true)
    (a35 : PySem.W.nsIn K mainGlobals "_law_caught" = some (some (.ref f35)))
    (l35 : K.lookup f35 = some ⟨oc35, od35, .func (PySem.W.fnOf "_law_caught" "_law_caught" (defArgs s_law_caught) (defBody s_law_caught) (defScope s_law_caught) .none kV35 dc35 pm35 an35 cd35 ct35), sl35⟩)
    (c35 : PySem.W.codeIn K cd35 "_law_caught" = true) (k35 : PySem.W.keepIn K (.ref f35) = true)
    (a36 : PySem.W.nsIn K mainGlobals "_law_refused_right" = some (some (.ref f36)))
    (l36 : K.lookup f36 = some ⟨oc36, od36, .func (PySem.W.fnOf "_law_refused_right" "_law_refused_right" (defArgs s_law_refused_right) (defBody s_law_refused_right) (defScope s_law_refused_right) .none kV36 dc36 pm36 an36 (.ref cc) ct36), sl36⟩)
    (c36 : PySem.W.codeIn K (.ref cc) "_law_refused_right" = true) (k36 : PySem.W.keepIn K (.ref f36) = true)
    (a37 : PySem.W.nsIn K mainGlobals "law" = some (some (.ref f37)))
    (l37 : K.lookup f37 = some ⟨oc37, od37, .func (PySem.W.fnOf "law" "law" (defArgs s_law) (defBody s_law) (defScope s_law) .none kV37 dc37 pm37 an37 cd37 ct37), sl37⟩)
    (c37 : PySem.W.codeIn K cd37 "law" = true) (k37 : PySem.W.keepIn K (.ref f37) = true)
    (aC : PySem.W.nsIn K mainGlobals "Parts" = some (some (.ref CC)))
    (a38 : PySem.W.findIn K (.ref CC) "__init__" = some (some (.ref f38)))
    (i38 : PySem.W.isFn K (.ref f38) = true)
    (l38 : K.lookup f38 = some ⟨oc38, od38, .func (PySem.W.fnOf "__init__" "Parts.__init__" (defArgs s_St_init) (defBody s_St_init) (defScope s_St_init) .none kV38 dc38 pm38 an38 cd38 ct38), sl38⟩)
    (c38 : PySem.W.codeIn K cd38 "Parts.__init__" = true) (k38 : PySem.W.keepIn K (.ref f38) = true)
    (a39 : PySem.W.findIn K (.ref CC) "number_of" = some (some (.ref f39)))
    (i39 : PySem.W.isFn K (.ref f39) = true)
    (l39 : K.lookup f39 = some ⟨oc39, od39, .func (PySem.W.fnOf "number_of" "Parts.number_of" (defArgs s_St_number_of) (defBody s_St_number_of) (defScope s_St_number_of) .none kV39 dc39 pm39 an39 cd39 ct39), sl39⟩)
    (c39 : PySem.W.codeIn K cd39 "Parts.number_of" = true) (k39 : PySem.W.keepIn K (.ref f39) = true)
    (a40 : PySem.W.findIn K (.ref CC) "number" = some (some (.ref f40)))
    (i40 : PySem.W.isFn K (.ref f40) = true)
    (l40 : K.lookup f40 = some ⟨oc40, od40, .func (PySem.W.fnOf "number" "Parts.number" (defArgs s_St_number) (defBody s_St_number) (defScope s_St_number) .none kV40 dc40 pm40 an40 cd40 ct40), sl40⟩)
    (c40 : PySem.W.codeIn K cd40 "Parts.number" = true) (k40 : PySem.W.keepIn K (.ref f40) = true)
    (pg : PySem.W.plainGet K CC Str.empty = true) (hd : PySem.W.hasDictIn K CC = true) (po : PySem.W.plainOver K CC = true) (sa : PySem.W.findIn K (.ref CC) "__setattr__" = some (some (.builtin "object.__setattr__"))) (mk : PySem.W.makesIn K CC = true) (kc : PySem.W.keepIn K (.ref CC) = true)
    (nf0 : PySem.W.findIn K (.ref CC) "rows" = some none)
    (nf1 : PySem.W.findIn K (.ref CC) "places" = some none)
    (y1 : PySem.W.nsIn K mainGlobals "VARIABLE" = some (some (.int 0 u1)))
    (y2 : PySem.W.nsIn K mainGlobals "INTEGER" = some (some (.int 1 u2)))
    (y3 : PySem.W.nsIn K mainGlobals "ATOM" = some (some (.int 2 u3)))
    (y4 : PySem.W.nsIn K mainGlobals "COMPOUND" = some (some (.int 3 u4)))
    (y5 : PySem.W.nsIn K mainGlobals "MOST_SIGNS" = some (some (.int 40 u5)))
    (y6 : PySem.W.nsIn K mainGlobals "MOST_ARGUMENTS" = some (some (.int 8 u6)))
    (y7 : PySem.W.nsIn K mainGlobals "BARRED_SIGN" = some (some (.int 37 u7)))
    (y8 : PySem.W.nsIn K mainGlobals "TOO_GREAT" = some (some (.int tooGreat u8)))
    (nd : PySem.W.nsIn K mainGlobals "WORDS" = some (some (.ref N1)))
    (nd1 : K.lookup N1 = some ⟨.type "tuple", o1, .seq #[.str "bagof" g1, .str "setof" g2] m1, w1⟩)
    (hA : PySem.W.nsIn K mainGlobals "HornError" = some (some (.ref aHn)))
    (hRd : PySem.W.readsIn K aHn (.type "type") = true)
    (hGa : PySem.W.specialIn K (.ref aHn) "__getattribute__" = some (some (.builtin "type.__getattribute__")))
    (hIn : PySem.W.findCls K (.ref aHn) (.type "type") "__init__" = some (.val (.builtin "ValueError.__init__")))
    (hIs : PySem.W.isClsIn K aHn = true)
    (hTy : PySem.W.typeIn K (.ref aHn) = some (.type "type"))
    (bOg : PySem.W.specialIn K (.builtin "object.__class__") "__get__" = some (some (.builtin "getset_descriptor.__get__")))
    (bOt : PySem.W.takesIn K (.builtin "object.__class__") = some true)
    (eDA : PySem.W.nsIn K mainGlobals "BadTerm" = some (some (.ref aeD)))
    (eDX : K.lookup aeD = some (excClassObj nmBeD qBeD aeD NBeD bsBeD [.ref aHn, .type "ValueError", .type "Exception", .type "BaseException", .type "object"] true snBeD subBeD abBeD colBeD ddBeD mB0eD mB1eD mB2eD mB3eD mB5eD "ValueError.__new__"))
    (eDSa : PySem.W.findIn K (.ref aeD) "__setattr__" = some (some (.builtin "object.__setattr__")))
    (eDEx : PySem.W.subIn K (.ref aeD) (.type "BaseException") = some true)
    (eDTy : PySem.W.typeIn K (.ref aeD) = some (.type "type"))
    (eDK : PySem.W.keepIn K (.ref aeD) = true)
    (eDGa : PySem.W.findIn K (.ref aeD) "__getattribute__" = some (some (.builtin "BaseException.__getattribute__")))
    (eDGg : PySem.W.findIn K (.ref aeD) "__getattr__" = some none)
    (eDHd : PySem.W.hasDictIn K aeD = true)
    (eDNo : PySem.W.findIn K (.ref aeD) "term" = some none)
    (eDI : PySem.W.findIn K (.ref aeD) "__init__" = some (some (.ref ieD)))
    (eDTi : PySem.W.typeIn K (.ref ieD) = some (.type "function"))
    (eDIs : PySem.W.isClsIn K aeD = true)
    (eDSu : PySem.W.subIn K (.ref aeD) (.ref aeD) = some true)
    (eDSh : PySem.W.subIn K (.ref aeD) (.ref aHn) = some true)
    (eDL : K.lookup ieD = some ⟨ocBeD, odBeD, .func (PySem.W.fnOf "__init__" "BadTerm.__init__" (defArgs s_BadTerm_init) (defBody s_BadTerm_init) (defScope s_BadTerm_init) .none kVBeD dcBeD pmBeD anBeD cdBeD ctBeD), slBeD⟩)
    (eDC : PySem.W.codeIn K cdBeD "BadTerm.__init__" = true)
    (eDKi : PySem.W.keepIn K (.ref ieD) = true)
    (eDCa : PySem.W.findIn K (.ref aeD) "__class__" = some (some (.builtin "object.__class__")))
    (eDMr : PySem.W.mroIn K aeD (.type "object") = some true)
    (ePA : PySem.W.nsIn K mainGlobals "BadPairs" = some (some (.ref aeP)))
    (ePX : K.lookup aeP = some (excClassObj nmBeP qBeP aeP NBeP bsBeP [.ref aHn, .type "ValueError", .type "Exception", .type "BaseException", .type "object"] true snBeP subBeP abBeP colBeP ddBeP mB0eP mB1eP mB2eP mB3eP mB5eP "ValueError.__new__"))
    (ePSa : PySem.W.findIn K (.ref aeP) "__setattr__" = some (some (.builtin "object.__setattr__")))
    (ePEx : PySem.W.subIn K (.ref aeP) (.type "BaseException") = some true)
    (ePTy : PySem.W.typeIn K (.ref aeP) = some (.type "type"))
    (ePK : PySem.W.keepIn K (.ref aeP) = true)
    (ePGa : PySem.W.findIn K (.ref aeP) "__getattribute__" = some (some (.builtin "BaseException.__getattribute__")))
    (ePGg : PySem.W.findIn K (.ref aeP) "__getattr__" = some none)
    (ePHd : PySem.W.hasDictIn K aeP = true)
    (ePNo : PySem.W.findIn K (.ref aeP) "pairs" = some none)
    (ePI : PySem.W.findIn K (.ref aeP) "__init__" = some (some (.ref ieP)))
    (ePTi : PySem.W.typeIn K (.ref ieP) = some (.type "function"))
    (ePIs : PySem.W.isClsIn K aeP = true)
    (ePSu : PySem.W.subIn K (.ref aeP) (.ref aeP) = some true)
    (ePSh : PySem.W.subIn K (.ref aeP) (.ref aHn) = some true)
    (ePL : K.lookup ieP = some ⟨ocBeP, odBeP, .func (PySem.W.fnOf "__init__" "BadPairs.__init__" (defArgs s_BadPairs_init) (defBody s_BadPairs_init) (defScope s_BadPairs_init) .none kVBeP dcBeP pmBeP anBeP cdBeP ctBeP), slBeP⟩)
    (ePC : PySem.W.codeIn K cdBeP "BadPairs.__init__" = true)
    (ePKi : PySem.W.keepIn K (.ref ieP) = true)
    (ePCa : PySem.W.findIn K (.ref aeP) "__class__" = some (some (.builtin "object.__class__")))
    (ePMr : PySem.W.mroIn K aeP (.type "object") = some true)
    (eBB : PySem.W.subIn K (.ref aeD) (.ref aeP) = some false)
    (z1 : PySem.W.nsIn K mainGlobals "all" = some none)
    (z2 : PySem.W.nsIn K mainGlobals "bool" = some none)
    (z3 : PySem.W.nsIn K mainGlobals "dict" = some none)
    (z4 : PySem.W.nsIn K mainGlobals "enumerate" = some none)
    (z5 : PySem.W.nsIn K mainGlobals "int" = some none)
    (z6 : PySem.W.nsIn K mainGlobals "isinstance" = some none)
    (z7 : PySem.W.nsIn K mainGlobals "len" = some none)
    (z8 : PySem.W.nsIn K mainGlobals "list" = some none)
    (z9 : PySem.W.nsIn K mainGlobals "ord" = some none)
    (z10 : PySem.W.nsIn K mainGlobals "range" = some none)
    (z11 : PySem.W.nsIn K mainGlobals "repr" = some none)
    (z12 : PySem.W.nsIn K mainGlobals "reversed" = some none)
    (z13 : PySem.W.nsIn K mainGlobals "sorted" = some none)
    (z14 : PySem.W.nsIn K mainGlobals "str" = some none)
    (z15 : PySem.W.nsIn K mainGlobals "tuple" = some none)
    (z16 : PySem.W.nsIn K mainGlobals "zip" = some none) :
    ∃ fd : FuncData, (∀ (s : Shared) (v : Value), BindsTo s fd ⟨[v], []⟩ [("_law_script", v)]) ∧ ∀ base : Heap, K.In base → base.Ns mainGlobals mg → LamX.TabB base mg cc pp → RG.FnG l.prog w K mg base CX0 15 fa fd ["_law_script"] (spLaw K pp) := by
  have e := hfa.symm.trans (PySem.W.mg_of X G a37)
  cases e
  have F1 := fun_mk (st := s_is_integer) l1 c1 k1
  have b1 := F1.binds (ps := ["thing"]) fun _ _ _ _ _ _ us hl => match us, hl with | [_], _ => rfl
  have F2 := fun_mk (st := s_is_sign) l2 c2 k2
  have b2 := F2.binds (ps := ["sign"]) fun _ _ _ _ _ _ us hl => match us, hl with | [_], _ => rfl
  have F3 := fun_mk (st := s_is_atom) l3 c3 k3
  have b3 := F3.binds (ps := ["thing"]) fun _ _ _ _ _ _ us hl => match us, hl with | [_], _ => rfl
  have F4 := fun_mk (st := s_is_number) l4 c4 k4
  have b4 := F4.binds (ps := ["thing"]) fun _ _ _ _ _ _ us hl => match us, hl with | [_], _ => rfl
  have F5 := fun_mk (st := s_is_term) l5 c5 k5
  have b5 := F5.binds (ps := ["thing"]) fun _ _ _ _ _ _ us hl => match us, hl with | [_], _ => rfl
  have F6 := fun_mk (st := s_is_part) l6 c6 k6
  have b6 := F6.binds (ps := ["thing"]) fun _ _ _ _ _ _ us hl => match us, hl with | [_], _ => rfl
  have F7 := fun_mk (st := s_demand_term) l7 c7 k7
  have b7 := F7.binds (ps := ["term"]) fun _ _ _ _ _ _ us hl => match us, hl with | [_], _ => rfl
  have F8 := fun_mk (st := s_is_variable) l8 c8 k8
  have b8 := F8.binds (ps := ["part"]) fun _ _ _ _ _ _ us hl => match us, hl with | [_], _ => rfl
  have F9 := fun_mk (st := s_arguments_of) l9 c9 k9
  have b9 := F9.binds (ps := ["part"]) fun _ _ _ _ _ _ us hl => match us, hl with | [_], _ => rfl
  have F10 := fun_mk (st := s_parts_of) l10 c10 k10
  have b10 := F10.binds (ps := ["term"]) fun _ _ _ _ _ _ us hl => match us, hl with | [_], _ => rfl
  have F11 := fun_mk (st := s_head_of) l11 c11 k11
  have b11 := F11.binds (ps := ["part"]) fun _ _ _ _ _ _ us hl => match us, hl with | [_], _ => rfl
  have F12 := fun_mk (st := s_folded) l12 c12 k12
  have b12 := F12.binds (ps := ["row"]) fun _ _ _ _ _ _ us hl => match us, hl with | [_], _ => rfl
  have F13 := fun_mk (st := s_replaced) l13 c13 k13
  have b13 := F13.binds (ps := ["term", "table"]) fun _ _ _ _ _ _ us hl => match us, hl with | [_, _], _ => rfl
  have F14 := fun_mk (st := s_numbers_in) l14 c14 k14
  have b14 := F14.binds (ps := ["term"]) fun _ _ _ _ _ _ us hl => match us, hl with | [_], _ => rfl
  have F15 := fun_mk (st := s_renumbered) l15 c15 k15
  have b15 := F15.binds (ps := ["term"]) fun _ _ _ _ _ _ us hl => match us, hl with | [_], _ => rfl
  have F16 := fun_mk (st := s_demand_pairs) l16 c16 k16
  have b16 := F16.binds (ps := ["pairs"]) fun _ _ _ _ _ _ us hl => match us, hl with | [_], _ => rfl
  have F17 := fun_mk (st := s_is_pair) l17 c17 k17
  have b17 := F17.binds (ps := ["pair"]) fun _ _ _ _ _ _ us hl => match us, hl with | [_], _ => rfl
  have F18 := fun_mk (st := s_order_key) l18 c18 k18
  have b18 := F18.binds (ps := ["term"]) fun _ _ _ _ _ _ us hl => match us, hl with | [_], _ => rfl
  have F19 := fun_mk (st := s_free_of) l19 c19 k19
  have b19 := F19.binds (ps := ["template", "goal"]) fun _ _ _ _ _ _ us hl => match us, hl with | [_, _], _ => rfl
  have F20 := fun_mk (st := s_grouped) l20 c20 k20
  have b20 := F20.binds (ps := ["word", "pairs"]) fun _ _ _ _ _ _ us hl => match us, hl with | [_, _], _ => rfl
  have F21 := fun_mk (st := s_witness_key) l21 c21 k21
  have b21 := F21.binds (ps := ["pair"]) fun _ _ _ _ _ _ us hl => match us, hl with | [_], _ => rfl
  have F22 := fun_mk (st := s_sorted_once) l22 c22 k22
  have b22 := F22.binds (ps := ["terms"]) fun _ _ _ _ _ _ us hl => match us, hl with | [_], _ => rfl
  have F23 := fun_mk (st := s_law_source_of) l23 c23 k23
  have b23 := F23.binds (ps := ["_law_cell"]) fun _ _ _ _ _ _ us hl => match us, hl with | [_], _ => rfl
  have F24 := fun_mk (st := s_law_next) l24 c24 k24
  have b24 := F24.binds (ps := ["_law_source", "_law_many"]) fun _ _ _ _ _ _ us hl => match us, hl with | [_, _], _ => rfl
  have F25 := fun_mk (st := s_law_one) l25 c25 k25
  have b25 := F25.binds (ps := ["_law_source", "_law_some"]) fun _ _ _ _ _ _ us hl => match us, hl with | [_, _], _ => rfl
  have F26 := fun_mk (st := s_law_term) l26 c26 k26
  have b26 := F26.binds (ps := ["_law_source", "_law_deep"]) fun _ _ _ _ _ _ us hl => match us, hl with | [_, _], _ => rfl
  have F27 := fun_mk (st := s_law_is_open) l27 c27 k27
  have b27 := F27.binds (ps := ["_law_term_here"]) fun _ _ _ _ _ _ us hl => match us, hl with | [_], _ => rfl
  have F28 := fun_mk (st := s_law_numbers) l28 c28 k28
  have b28 := F28.binds (ps := ["_law_terms"]) fun _ _ _ _ _ _ us hl => match us, hl with | [_], _ => rfl
  have F29 := fun_mk (st := s_law_put) l29 c29 k29
  have b29 := F29.binds (ps := ["_law_term_here", "_law_numbers_here", "_law_places"]) fun _ _ _ _ _ _ us hl => match us, hl with | [_, _, _], _ => rfl
  have F30 := fun_mk (st := s_law_rank) l30 c30 k30
  have b30 := F30.binds (ps := ["_law_term_here"]) fun _ _ _ _ _ _ us hl => match us, hl with | [_], _ => rfl
  have F31 := fun_mk (st := s_law_ahead_by) l31 c31 k31
  have b31 := F31.binds (ps := ["_law_mine", "_law_its"]) fun _ _ _ _ _ _ us hl => match us, hl with | [_, _], _ => rfl
  have F32 := fun_mk (st := s_law_placed) l32 c32 k32
  have b32 := F32.binds (ps := ["_law_some", "_law_spot"]) fun _ _ _ _ _ _ us hl => match us, hl with | [_, _], _ => rfl
  have F33 := fun_mk (st := s_law_groups) l33 c33 k33
  have b33 := F33.binds (ps := ["_law_word", "_law_some"]) fun _ _ _ _ _ _ us hl => match us, hl with | [_, _], _ => rfl
  have F34 := fun_mk (st := s_law_free_right) l34 c34 k34
  have b34 := F34.binds (ps := ["_law_source"]) fun _ _ _ _ _ _ us hl => match us, hl with | [_], _ => rfl
  have F35 := fun_mk (st := s_law_caught) l35 c35 k35
  have b35 := F35.binds (ps := ["_law_ask"]) fun _ _ _ _ _ _ us hl => match us, hl with | [_], _ => rfl
  have F36 := fun_mk (st := s_law_refused_right) l36 c36 k36
  have b36 := F36.binds (ps := ["_law_some"]) fun _ _ _ _ _ _ us hl => match us, hl with | [_], _ => rfl
  have F37 := fun_mk (st := s_law) l37 c37 k37
  have b37 := F37.binds (ps := ["_law_script"]) fun _ _ _ _ _ _ us hl => match us, hl with | [_], _ => rfl
  have F38 := fun_mk (st := s_St_init) l38 c38 k38
  have b38 := F38.binds (ps := ["self"]) fun _ _ _ _ _ _ us hl => match us, hl with | [_], _ => rfl
  have F39 := fun_mk (st := s_St_number_of) l39 c39 k39
  have b39 := F39.binds (ps := ["self", "row"]) fun _ _ _ _ _ _ us hl => match us, hl with | [_, _], _ => rfl
  have F40 := fun_mk (st := s_St_number) l40 c40 k40
  have b40 := F40.binds (ps := ["self", "term", "known"]) fun _ _ _ _ _ _ us hl => match us, hl with | [_, _, _], _ => rfl
  have FeD := fun_mk (st := s_BadTerm_init) eDL eDC eDKi
  have beD := FeD.binds (ps := ["self", "term"]) fun _ _ _ _ _ _ us hl => match us, hl with | [_, _], _ => rfl
  have FeP := fun_mk (st := s_BadPairs_init) ePL ePC ePKi
  have beP := FeP.binds (ps := ["self", "pairs"]) fun _ _ _ _ _ _ us hl => match us, hl with | [_, _], _ => rfl
  exact ⟨PySem.W.fnOf "law" "law" (defArgs s_law) (defBody s_law) (defScope s_law) .none kV37 dc37 pm37 an37 cd37 ct37, fun s v => .of_eq rfl, fun base _ _ TB => ok_law (T := ({
    f_is_integer := f1, d_is_integer := _, h_is_integer := ⟨F1, b1, PySem.W.mg_of X G a1⟩,
    f_is_sign := f2, d_is_sign := _, h_is_sign := ⟨F2, b2, PySem.W.mg_of X G a2⟩,
    f_is_atom := f3, d_is_atom := _, h_is_atom := ⟨F3, b3, PySem.W.mg_of X G a3⟩,
    f_is_number := f4, d_is_number := _, h_is_number := ⟨F4, b4, PySem.W.mg_of X G a4⟩,
    f_is_term := f5, d_is_term := _, h_is_term := ⟨F5, b5, PySem.W.mg_of X G a5⟩,
    f_is_part := f6, d_is_part := _, h_is_part := ⟨F6, b6, PySem.W.mg_of X G a6⟩,
    f_demand_term := f7, d_demand_term := _, h_demand_term := ⟨F7, b7, PySem.W.mg_of X G a7⟩,
    f_is_variable := f8, d_is_variable := _, h_is_variable := ⟨F8, b8, PySem.W.mg_of X G a8⟩,
    f_arguments_of := f9, d_arguments_of := _, h_arguments_of := ⟨F9, b9, PySem.W.mg_of X G a9⟩,
    f_parts_of := f10, d_parts_of := _, h_parts_of := ⟨F10, b10, PySem.W.mg_of X G a10⟩,
    f_head_of := f11, d_head_of := _, h_head_of := ⟨F11, b11, PySem.W.mg_of X G a11⟩,
    f_folded := f12, d_folded := _, h_folded := ⟨F12, b12, PySem.W.mg_of X G a12⟩,
    f_replaced := f13, d_replaced := _, h_replaced := ⟨F13, b13, PySem.W.mg_of X G a13⟩,
    f_numbers_in := f14, d_numbers_in := _, h_numbers_in := ⟨F14, b14, PySem.W.mg_of X G a14⟩,
    f_renumbered := f15, d_renumbered := _, h_renumbered := ⟨F15, b15, PySem.W.mg_of X G a15⟩,
    f_demand_pairs := f16, d_demand_pairs := _, h_demand_pairs := ⟨F16, b16, PySem.W.mg_of X G a16⟩,
    f_is_pair := f17, d_is_pair := _, h_is_pair := ⟨F17, b17, PySem.W.mg_of X G a17⟩,
    f_order_key := f18, d_order_key := _, h_order_key := ⟨F18, b18, PySem.W.mg_of X G a18⟩,
    f_free_of := f19, d_free_of := _, h_free_of := ⟨F19, b19, PySem.W.mg_of X G a19⟩,
    f_grouped := f20, d_grouped := _, h_grouped := ⟨F20, b20, PySem.W.mg_of X G a20⟩,
    f_witness_key := f21, d_witness_key := _, h_witness_key := ⟨F21, b21, PySem.W.mg_of X G a21⟩,
    f_sorted_once := f22, d_sorted_once := _, h_sorted_once := ⟨F22, b22, PySem.W.mg_of X G a22⟩,
    f_law_source_of := f23, d_law_source_of := _, h_law_source_of := ⟨F23, b23, PySem.W.mg_of X G a23⟩,
    f_law_next := f24, d_law_next := _, h_law_next := ⟨F24, b24, PySem.W.mg_of X G a24⟩,
    f_law_one := f25, d_law_one := _, h_law_one := ⟨F25, b25, PySem.W.mg_of X G a25⟩,
    f_law_term := f26, d_law_term := _, h_law_term := ⟨F26, b26, PySem.W.mg_of X G a26⟩,
    f_law_is_open := f27, d_law_is_open := _, h_law_is_open := ⟨F27, b27, PySem.W.mg_of X G a27⟩,
    f_law_numbers := f28, d_law_numbers := _, h_law_numbers := ⟨F28, b28, PySem.W.mg_of X G a28⟩,
    f_law_put := f29, d_law_put := _, h_law_put := ⟨F29, b29, PySem.W.mg_of X G a29⟩,
    f_law_rank := f30, d_law_rank := _, h_law_rank := ⟨F30, b30, PySem.W.mg_of X G a30⟩,
    f_law_ahead_by := f31, d_law_ahead_by := _, h_law_ahead_by := ⟨F31, b31, PySem.W.mg_of X G a31⟩,
    f_law_placed := f32, d_law_placed := _, h_law_placed := ⟨F32, b32, PySem.W.mg_of X G a32⟩,
    f_law_groups := f33, d_law_groups := _, h_law_groups := ⟨F33, b33, PySem.W.mg_of X G a33⟩,
    f_law_free_right := f34, d_law_free_right := _, h_law_free_right := ⟨F34, b34, PySem.W.mg_of X G a34⟩,
    f_law_caught := f35, d_law_caught := _, h_law_caught := ⟨F35, b35, PySem.W.mg_of X G a35⟩,
    cc := cc, f_law_refused_right := f36, d_law_refused_right := _, h_law_refused_right := ⟨F36, b36, PySem.W.mg_of X G a36, ⟨_, _, _, _, _, _, _, _, rfl, l36, c36⟩⟩,
    f_law := fa, d_law := _, h_law := ⟨F37, b37, PySem.W.mg_of X G a37⟩,
    f_St_init := f38, d_St_init := _, F_St_init := F38, b_St_init := b38, mkS := ⟨mk, a38, i38, kc⟩,
    f_St_number_of := f39, d_St_number_of := _, h_St_number_of := ⟨F39, b39, ⟨a39, i39, k39⟩⟩,
    f_St_number := f40, d_St_number := _, h_St_number := ⟨F40, b40, ⟨a40, i40, k40⟩⟩,
    C := CC, cl := ⟨pg, hd, po, sa⟩, mgC := PySem.W.mg_of X G aC,
    n_rows := nf0,
    n_places := nf1,
    c_VARIABLE := ⟨_, PySem.W.mg_of X G y1⟩,
    c_INTEGER := ⟨_, PySem.W.mg_of X G y2⟩,
    c_ATOM := ⟨_, PySem.W.mg_of X G y3⟩,
    c_COMPOUND := ⟨_, PySem.W.mg_of X G y4⟩,
    c_MOST_SIGNS := ⟨_, PySem.W.mg_of X G y5⟩,
    c_MOST_ARGUMENTS := ⟨_, PySem.W.mg_of X G y6⟩,
    c_BARRED_SIGN := ⟨_, PySem.W.mg_of X G y7⟩,
    c_TOO_GREAT := ⟨_, PySem.W.mg_of X G y8⟩,
    a_Wds := N1, m_Wds := PySem.W.mg_of X G nd, r_Wds := mod_two nd1,
    a_Horn := aHn, e_Horn := ⟨PySem.W.mg_of X G hA, hRd, hGa, hIn⟩,
    a_Bad := aeD, i_Bad := ieD, d_Bad := _,
    e_Bad := ⟨PySem.W.mg_of X G eDA, ⟨⟨_, _, _, _, _, _, _, _, _, _, _, _, _, _, _, eDX, (show PySem.HandSPX.refsVE [.type "ValueError", .type "Exception", .type "BaseException", .type "object"] = true by decide +kernel)⟩, eDSa, eDEx, eDTy, eDK⟩, ⟨eDGa, eDGg, eDEx, eDHd⟩, eDNo, eDI, eDTi, exm_own eDEx eDIs eDTy eDSu⟩,
    F_Bad := FeD, b_Bad := beD, x_Bad := ⟨eDIs, eDGa, eDGg, eDEx, eDCa, bOg, bOt, eDMr⟩, y_Bad := kit_own hIs hTy eDSh,
    a_Bap := aeP, i_Bap := ieP, d_Bap := _,
    e_Bap := ⟨PySem.W.mg_of X G ePA, ⟨⟨_, _, _, _, _, _, _, _, _, _, _, _, _, _, _, ePX, (show PySem.HandSPX.refsVE [.type "ValueError", .type "Exception", .type "BaseException", .type "object"] = true by decide +kernel)⟩, ePSa, ePEx, ePTy, ePK⟩, ⟨ePGa, ePGg, ePEx, ePHd⟩, ePNo, ePI, ePTi, exm_own ePEx ePIs ePTy ePSu⟩,
    F_Bap := FeP, b_Bap := beP, x_Bap := ⟨ePIs, ePGa, ePGg, ePEx, ePCa, bOg, bOt, ePMr⟩, y_Bap := kit_own hIs hTy ePSh,
    q_BB := exm_any ePEx ePIs ePTy eBB,
    b_all := PySem.W.mg_none_of X G z1,
    b_bool := PySem.W.mg_none_of X G z2,
    b_dict := PySem.W.mg_none_of X G z3,
    b_enumerate := PySem.W.mg_none_of X G z4,
    b_int := PySem.W.mg_none_of X G z5,
    b_isinstance := PySem.W.mg_none_of X G z6,
    b_len := PySem.W.mg_none_of X G z7,
    b_list := PySem.W.mg_none_of X G z8,
    b_ord := PySem.W.mg_none_of X G z9,
    b_range := PySem.W.mg_none_of X G z10,
    b_repr := PySem.W.mg_none_of X G z11,
    b_reversed := PySem.W.mg_none_of X G z12,
    b_sorted := PySem.W.mg_none_of X G z13,
    b_str := PySem.W.mg_none_of X G z14,
    b_tuple := PySem.W.mg_none_of X G z15,
    b_zip := PySem.W.mg_none_of X G z16 } : Tx K mg)) TB⟩
theorem at_mk {l : PySem.W.OpenLaw} {w : World} {K : PySem.W.Frag} {mg : Str → Option Value} {fa cc pp : Addr} {h : Heap} (KX : K.In h) (hT : h.get? pp = some { cls := .none, data := .fields #[] })
    (M : ∃ fd : FuncData, (∀ (s : Shared) (v : Value), BindsTo s fd ⟨[v], []⟩ [("_law_script", v)]) ∧ ∀ base : Heap, K.In base → base.Ns mainGlobals mg → LamX.TabB base mg cc pp → RG.FnG l.prog w K mg base CX0 15 fa fd ["_law_script"] (spLaw K pp))
    (nT : K.lookup pp = none) (C : PySem.W.codeHdIn K cc pp = true) : RG.LawAtG l w K CX0 15 63 "_law_script" mg fa h := by
  obtain ⟨fd, hb, F⟩ := M
  exact ⟨fd, cc, pp, spLaw K pp, hT, nT, PySem.W.codeHd_of_K KX C, hb, fun H a ns hn hH hS => ⟨a, ns, rfl, hS, hn, fun p hp => (by rw [List.mem_singleton.mp hp]; exact LamX.TabS.nil hH), fun _ => rfl⟩, F⟩
theorem walk {l : PySem.W.OpenLaw} {q : Program} {loose : List Str} {XP : (Str → Option Value) → Heap → Prop} {YP : World → Heap → Prop} {d : DefRec} {K : Params → PySem.W.Frag} (hn : l.most = some 63) (hdf : d.params.defaults = [])
    (hY : ∀ (w : World) (h : Heap), YP w h → (K w.params).In h)
    (F : ∀ (w : World) (mg : Str → Option Value) (fa : Addr) (h : Heap), YP w h → (K w.params).In h → h.Ns mainGlobals mg → mg d.name = some (.ref fa) → RG.LawAtG l w (K w.params) CX0 15 63 "_law_script" mg fa h) :
    PySem.W.WalkO q loose XP YP l.row.toRowW d [] (fun f vs => PySem.call f vs) :=
  RG.walk_free1 (n := 63) (k := 15) (x := "_law_script") (CC := fun _ => CX0) hn (by decide) hdf ⟨rfl, by decide, by decide⟩ hY F fun _ _ _ _ _ z => z
end Hm

open PySem PySem.W PyProof.Rows
set_option maxRecDepth 100000 in
set_option maxHeartbeats 0 in
theorem PySem.Challenge.cw_hornmill_k44_whole_solutions_grouped_holds : PySem.Challenge.rw_hornmill_k44_whole_solutions_grouped.Holds := by
  w_on; o_law; k_head; (case hw => w_witness2)
  k_fill
  refine Hm.walk (l := PySem.Challenge.rw_hornmill_k44_whole_solutions_grouped) rfl rfl (fun w h Y => PySem.W.km_in_of Y) ?F
  case F =>
    intro w mg fa h Y KX G hmg
    refine' Hm.at_mk KX (PySem.W.km_tabs_of Y _ List.mem_cons_self) (Hm.all_mk KX G hmg ?a1 ?l1 ?c1 ?k1 ?a2 ?l2 ?c2 ?k2 ?a3 ?l3 ?c3 ?k3 ?a4 ?l4 ?c4 ?k4 ?a5 ?l5 ?c5 ?k5 ?a6 ?l6 ?c6 ?k6 ?a7 ?l7 ?c7 ?k7 ?a8 ?l8 ?c8 ?k8 ?a9 ?l9 ?c9 ?k9 ?a10 ?l10 ?c10 ?k10 ?a11 ?l11 ?c11 ?k11 ?a12 ?l12 ?c12 ?k12 ?a13 ?l13 ?c13 ?k13 ?a14 ?l14 ?c14 ?k14 ?a15 ?l15 ?c15 ?k15 ?a16 ?l16 ?c16 ?k16 ?a17 ?l17 ?c17 ?k17 ?a18 ?l18 ?c18 ?k18 ?a19 ?l19 ?c19 ?k19 ?a20 ?l20 ?c20 ?k20 ?a21 ?l21 ?c21 ?k21 ?a22 ?l22 ?c22 ?k22 ?a23 ?l23 ?c23 ?k23 ?a24 ?l24 ?c24 ?k24 ?a25 ?l25 ?c25 ?k25 ?a26 ?l26 ?c26 ?k26 ?a27 ?l27 ?c27 ?k27 ?a28 ?l28 ?c28 ?k28 ?a29 ?l29 ?c29 ?k29 ?a30 ?l30 ?c30 ?k30 ?a31 ?l31 ?c31 ?k31 ?a32 ?l32 ?c32 ?k32 ?a33 ?l33 ?c33 ?k33 ?a34 ?l34 ?c34 ?k34 ?a35 ?l35 ?c35 ?k35 ?a36 ?l36 ?c36 ?k36 ?a37 ?l37 ?c37 ?k37 ?aC ?a38 ?i38 ?l38 ?c38 ?k38 ?a39 ?i39 ?l39 ?c39 ?k39 ?a40 ?i40 ?l40 ?c40 ?k40 ?pg ?hd ?po ?sa ?mk ?kc ?nf0 ?nf1 ?y1 ?y2 ?y3 ?y4 ?y5 ?y6 ?y7 ?y8 ?nd ?nd1 ?hA ?hRd ?hGa ?hIn ?hIs ?hTy ?bOg ?bOt ?eDA ?eDX ?eDSa ?eDEx ?eDTy ?eDK ?eDGa ?eDGg ?eDHd ?eDNo ?eDI ?eDTi ?eDIs ?eDSu ?eDSh ?eDL ?eDC ?eDKi ?eDCa ?eDMr ?ePA ?ePX ?ePSa ?ePEx ?ePTy ?ePK ?ePGa ?ePGg ?ePHd ?ePNo ?ePI ?ePTi ?ePIs ?ePSu ?ePSh ?ePL ?ePC ?ePKi ?ePCa ?ePMr ?eBB ?z1 ?z2 ?z3 ?z4 ?z5 ?z6 ?z7 ?z8 ?z9 ?z10 ?z11 ?z12 ?z13 ?z14 ?z15 ?z16) ?nT ?C
    (case a1 => k_is)
    (case l1 => k_is)
    (case c1 => k_is)
    (case k1 => k_is)
    (case a2 => k_is)
    (case l2 => k_is)
    (case c2 => k_is)
    (case k2 => k_is)
    (case a3 => k_is)
    (case l3 => k_is)
    (case c3 => k_is)
    (case k3 => k_is)
    (case a4 => k_is)
    (case l4 => k_is)
    (case c4 => k_is)
    (case k4 => k_is)
    (case a5 => k_is)
    (case l5 => k_is)
    (case c5 => k_is)
    (case k5 => k_is)
    (case a6 => k_is)
    (case l6 => k_is)
    (case c6 => k_is)
    (case k6 => k_is)
    (case a7 => k_is)
    (case l7 => k_is)
    (case c7 => k_is)
    (case k7 => k_is)
    (case a8 => k_is)
    (case l8 => k_is)
    (case c8 => k_is)
    (case k8 => k_is)
    (case a9 => k_is)
    (case l9 => k_is)
    (case c9 => k_is)
    (case k9 => k_is)
    (case a10 => k_is)
    (case l10 => k_is)
    (case c10 => k_is)
    (case k10 => k_is)
    (case a11 => k_is)
    (case l11 => k_is)
    (case c11 => k_is)
    (case k11 => k_is)
    (case a12 => k_is)
    (case l12 => k_is)
    (case c12 => k_is)
    (case k12 => k_is)
    (case a13 => k_is)
    (case l13 => k_is)
    (case c13 => k_is)
    (case k13 => k_is)
    (case a14 => k_is)
    (case l14 => k_is)
    (case c14 => k_is)
    (case k14 => k_is)
    (case a15 => k_is)
    (case l15 => k_is)
    (case c15 => k_is)
    (case k15 => k_is)
    (case a16 => k_is)
    (case l16 => k_is)
    (case c16 => k_is)
    (case k16 => k_is)
    (case a17 => k_is)
    (case l17 => k_is)
    (case c17 => k_is)
    (case k17 => k_is)
    (case a18 => k_is)
    (case l18 => k_is)
    (case c18 => k_is)
    (case k18 => k_is)
    (case a19 => k_is)
    (case l19 => k_is)
    (case c19 => k_is)
    (case k19 => k_is)
    (case a20 => k_is)
    (case l20 => k_is)
    (case c20 => k_is)
    (case k20 => k_is)
    (case a21 => k_is)
    (case l21 => k_is)
    (case c21 => k_is)
    (case k21 => k_is)
    (case a22 => k_is)
    (case l22 => k_is)
    (case c22 => k_is)
    (case k22 => k_is)
    (case a23 => k_is)
    (case l23 => k_is)
    (case c23 => k_is)
    (case k23 => k_is)
    (case a24 => k_is)
    (case l24 => k_is)
    (case c24 => k_is)
    (case k24 => k_is)
    (case a25 => k_is)
    (case l25 => k_is)
    (case c25 => k_is)
    (case k25 => k_is)
    (case a26 => k_is)
    (case l26 => k_is)
    (case c26 => k_is)
    (case k26 => k_is)
    (case a27 => k_is)
    (case l27 => k_is)
    (case c27 => k_is)
    (case k27 => k_is)
    (case a28 => k_is)
    (case l28 => k_is)
    (case c28 => k_is)
    (case k28 => k_is)
    (case a29 => k_is)
    (case l29 => k_is)
    (case c29 => k_is)
    (case k29 => k_is)
    (case a30 => k_is)
    (case l30 => k_is)
    (case c30 => k_is)
    (case k30 => k_is)
    (case a31 => k_is)
    (case l31 => k_is)
    (case c31 => k_is)
    (case k31 => k_is)
    (case a32 => k_is)
    (case l32 => k_is)
    (case c32 => k_is)
    (case k32 => k_is)
    (case a33 => k_is)
    (case l33 => k_is)
    (case c33 => k_is)
    (case k33 => k_is)
    (case a34 => k_is)
    (case l34 => k_is)
    (case c34 => k_is)
    (case k34 => k_is)
    (case a35 => k_is)
    (case l35 => k_is)
    (case c35 => k_is)
    (case k35 => k_is)
    (case a36 => k_is)
    (case l36 => k_is)
    (case c36 => k_is)
    (case k36 => k_is)
    (case a37 => k_is)
    (case l37 => k_is)
    (case c37 => k_is)
    (case k37 => k_is)
    (case aC => k_is)
    (case a38 => k_is)
    (case i38 => k_is)
    (case l38 => k_is)
    (case c38 => k_is)
    (case k38 => k_is)
    (case a39 => k_is)
    (case i39 => k_is)
    (case l39 => k_is)
    (case c39 => k_is)
    (case k39 => k_is)
    (case a40 => k_is)
    (case i40 => k_is)
    (case l40 => k_is)
    (case c40 => k_is)
    (case k40 => k_is)
    (case pg => k_is)
    (case hd => k_is)
    (case po => k_is)
    (case sa => k_is)
    (case mk => k_is)
    (case kc => k_is)
    (case nf0 => k_is)
    (case nf1 => k_is)
    (case y1 => k_is)
    (case y2 => k_is)
    (case y3 => k_is)
    (case y4 => k_is)
    (case y5 => k_is)
    (case y6 => k_is)
    (case y7 => k_is)
    (case y8 => k_is)
    (case nd => k_is)
    (case nd1 => k_is)
    (case hA => k_is)
    (case hRd => k_is)
    (case hGa => k_is)
    (case hIn => k_is)
    (case hIs => k_is)
    (case hTy => k_is)
    (case bOg => k_is)
    (case bOt => k_is)
    (case eDA => k_is)
    (case eDX => k_is)
    (case eDSa => k_is)
    (case eDEx => k_is)
    (case eDTy => k_is)
    (case eDK => k_is)
    (case eDGa => k_is)
    (case eDGg => k_is)
    (case eDHd => k_is)
    (case eDNo => k_is)
    (case eDI => k_is)
    (case eDTi => k_is)
    (case eDIs => k_is)
    (case eDSu => first | rfl | k_is)
    (case eDSh => k_is)
    (case eDL => k_is)
    (case eDC => k_is)
    (case eDKi => k_is)
    (case eDCa => k_is)
    (case eDMr => k_is)
    (case ePA => k_is)
    (case ePX => k_is)
    (case ePSa => k_is)
    (case ePEx => k_is)
    (case ePTy => k_is)
    (case ePK => k_is)
    (case ePGa => k_is)
    (case ePGg => k_is)
    (case ePHd => k_is)
    (case ePNo => k_is)
    (case ePI => k_is)
    (case ePTi => k_is)
    (case ePIs => k_is)
    (case ePSu => first | rfl | k_is)
    (case ePSh => k_is)
    (case ePL => k_is)
    (case ePC => k_is)
    (case ePKi => k_is)
    (case ePCa => k_is)
    (case ePMr => k_is)
    (case eBB => k_is)
    (case z1 => k_is)
    (case z2 => k_is)
    (case z3 => k_is)
    (case z4 => k_is)
    (case z5 => k_is)
    (case z6 => k_is)
    (case z7 => k_is)
    (case z8 => k_is)
    (case z9 => k_is)
    (case z10 => k_is)
    (case z11 => k_is)
    (case z12 => k_is)
    (case z13 => k_is)
    (case z14 => k_is)
    (case z15 => k_is)
    (case z16 => k_is)
    (case nT => kernel_rfl)
    (case C => kernel_rfl)

