import PyProof.Rows.All
import Wide.All
import OpenK.AllK
import Wide.FinOn
import KE.KStateDown
import HandS.Head0
import HandS.Head1
import HandS.Head2
import HandS.Head3
import HandS.HeadHook2
import PySem.Challenge.RW_hornmill_k21_bodies_and_clauses
import HandS.ForMost
import HandS.Style
import HandS.TupAny
import HandS.Flow
import HandS.Star
import HandS.IsInst
import HandS.Rev
import HandS.Evl
import HandS.Exc
import HandS.WordsExc
import HandS.ExcInit
import HandS.ExcField
import HandS.ExcIs
import HandS.ForExc
import KE.KExcIs
import HandS.Dict
import PyProof.TupleKey
import PyProof.P3Eq
import HandS.HeadHook1
import HandS.More
import HandS.DictComp
import HandS.Wide
import HandS.Walk
import KE.LtSeq
import KE.LtData
import HandS.SortKw
import KE.KSortKey
import KE.SortCalls
import PyProof.ReprRoads
import PyProof.CallFns
import HandS.Ends
import PyProof.AutoSeq1
import HandS.WideBits
import HandS.CallLocal
import HandS.TryMany
import HandS.FStr
import HandS.Defaults
import HandS.ExcOwn
import HandS.TryOnly
import PyProof.ReprReads
import PyProof.StrLawsRepr
import PyProof.Rows.RegStrFacts
import HandS.TupMul
set_option Elab.async false
set_option linter.all false
set_option maxRecDepth 100000
set_option maxHeartbeats 1000000
/-! a part of the top's run, told by what it makes: for the parts where the kernel cannot run (hashes that are the world's) -/
namespace Go
open PySem PySem.W PySem.Calls PyProof.Rows
section
variable {tb : String → Option Builtin} {P : Program} {w : World} {n0 : Nat} {ann : Option Value} {c : Code} {B : List Frame}
/-- x, begun in s at p, makes a and leaves s' at p' -/
def Does (tb : String → Option Builtin) (P : Program) (w : World) (n0 : Nat) (ann : Option Value) (c : Code) (B : List Frame) {α : Type} (gd : Bool → Bool) (lv : List Value → List Value) (m : Nat) (x : Sem α) (s : Shared) (p : Pos) (a : α) (s' : Shared) (p' : Pos) : Prop :=
  ∀ (K : α → Sem Fin) (H : Value → Sem Fin), ∃ n, n ≤ m ∧ ∀ N r, topRun tb P w n0 ann N s' ⟨K a, c, p', B⟩ = some r → topRun tb P w n0 ann (n + N) s ⟨x.wrap K H gd lv, c, p, B⟩ = some r
variable {α β : Type} {gd : Bool → Bool} {lv : List Value → List Value} {s s1 s2 : Shared} {p p1 p2 : Pos} {m m1 m2 : Nat}
theorem pure {a : α} : Does tb P w n0 ann c B gd lv 0 (Sem.pure a) s p a s p := fun K H => ⟨0, Nat.le_refl 0, fun N r h => by rw [Nat.zero_add]; exact h⟩
theorem pure' {a : α} : Does tb P w n0 ann c B gd lv 0 (Pure.pure a : Sem α) s p a s p := pure
theorem le {x : Sem α} {a : α} (h : Does tb P w n0 ann c B gd lv m1 x s p a s1 p1) (hm : m1 ≤ m2 := by decide) : Does tb P w n0 ann c B gd lv m2 x s p a s1 p1 := fun K H => by
  obtain ⟨n, hn, k⟩ := h K H
  exact ⟨n, Nat.le_trans hn hm, k⟩
theorem bind {x : Sem α} {f : α → Sem β} {a : α} {b : β} (h1 : Does tb P w n0 ann c B gd lv m1 x s p a s1 p1) (h2 : Does tb P w n0 ann c B gd lv m2 (f a) s1 p1 b s2 p2) : Does tb P w n0 ann c B gd lv (m1 + m2) (x >>= f) s p b s2 p2 := fun K H => by
  obtain ⟨n2, b2, k2⟩ := h2 K H
  obtain ⟨n1, b1, k1⟩ := h1 (fun a => (f a).wrap K H gd lv) H
  refine ⟨n1 + n2, Nat.add_le_add b1 b2, fun N r h => ?_⟩
  rw [Sem.bind_eq_wrap', Sem.wrap_wrap, Nat.add_assoc]
  exact k1 _ r (k2 N r h)
theorem keep {x : Sem α} {a : α} {vs : List Value} (h : Does tb P w n0 ann c B gd (fun l => lv (vs ++ l)) m x s p a s1 p1) : Does tb P w n0 ann c B gd lv m (x.keep vs) s p a s1 p1 := fun K H => by
  obtain ⟨n1, b1, k1⟩ := h K H
  refine ⟨n1, b1, fun N r q => ?_⟩
  rw [Sem.keep_eq_wrap, Sem.wrap_wrap]
  exact k1 N r q
/-- those that are held: the objects among them -/
theorem hold {x : Sem α} {a : α} {vs refs : List Value} (e : holding vs x = x.keep refs) (h : Does tb P w n0 ann c B gd (fun l => lv (refs ++ l)) m x s p a s1 p1) : Does tb P w n0 ann c B gd lv m (holding vs x) s p a s1 p1 := by
  rw [e]
  exact keep h
theorem run_step {t : Thread} {n N : Nat} {r s' : Shared} {t' : Thread} (ht : through t = false) (hk : stepOk n0 ann t = true) (hs : step (denote tb) P w s t = .go s' t') (h : topRun tb P w n0 ann N s' t' = some r) : topRun tb P w n0 ann (1 + N) s t = some r := by
  rw [Nat.add_comm]
  unfold topRun
  rw [ht, hk, hs]
  exact h
theorem rule {tag : String} : Does tb P w n0 ann c B gd lv 1 (PySem.rule tag) s p () s p := fun K H => ⟨1, Nat.le_refl 1, fun N r h => by
  refine run_step (n := 0) (t := ⟨.rule tag fun x => K x, c, p, B⟩) ?_ rfl ?_ h
  · simp [through]
  · cases s
    rfl⟩
theorem load {a : Addr} {part : Option Value} {o : Obj} (ho : s.heap.get? a = some o) : Does tb P w n0 ann c B gd lv 1 (loadPart a part) s p o s p := fun K H => ⟨1, Nat.le_refl 1, fun N r h => by
  refine run_step (n := 0) (s' := s) (t := ⟨.load a part fun x => K x, c, p, B⟩) ?_ rfl ?_ h
  · simp [through]
  · cases s
    simp only [step, ho]⟩
theorem entries {d : Addr} {part : Option Value} {o : Obj} {es : Array DictEntry} {ep : Nat} (ho : s.heap.get? d = some o) (hd : o.data = .dict es ep) : Does tb P w n0 ann c B gd lv 1 (dictEntries d part) s p es s p := by
  unfold dictEntries
  refine bind (m2 := 0) (load ho) ?_
  rw [hd]
  exact pure'
theorem epoch {d : Addr} {part : Option Value} {o : Obj} {es : Array DictEntry} {ep : Nat} (ho : s.heap.get? d = some o) (hd : o.data = .dict es ep) : Does tb P w n0 ann c B gd lv 1 (dictEpoch d part) s p ep s p := by
  unfold dictEpoch
  refine bind (m2 := 0) (load ho) ?_
  rw [hd]
  exact pure'
theorem each {f : α → β → Sem (ForInStep β)} {b : β} : ∀ {l : List α} {k : Nat}, l.length ≤ k → (∀ x ∈ l, Does tb P w n0 ann c B gd lv m (f x b) s p (.yield b) s p) → Does tb P w n0 ann c B gd lv (k * m) (forIn l b f) s p b s p
  | [], _, _, _ => by
    rw [List.forIn_nil]
    exact le pure' (Nat.zero_le _)
  | x :: l, 0, hl, _ => absurd hl (by simp)
  | x :: l, k + 1, hl, h => by
    rw [List.forIn_cons]
    exact le (bind (h x List.mem_cons_self) (each (k := k) (Nat.le_of_succ_le_succ hl) fun y hy => h y (List.mem_cons_of_mem _ hy))) (by rw [Nat.succ_mul, Nat.add_comm]; exact Nat.le_refl _)
/-- the kernel's run of a part -/
theorem seg {x : Sem α} {res : α → Flow} {n : Nat} {f : Flow} {a : α} (hB : splitAtGen B = none) (inj : ∀ b, res b = f → b = a) (h : segRun tb P w n0 ann B.length n s ⟨x.wrap (fun a => .pure (.done (res a))) deadEnd gd lv, c, p, B⟩ = some (f, s1, c, p1)) : Does tb P w n0 ann c B gd lv n x s p a s1 p1 := fun K' H' => by
  obtain ⟨b, hb, k⟩ := seg_top (res := res) (K' := K') (H' := H') hB n s ⟨x.wrap (fun a => .pure (.done (res a))) deadEnd gd lv, c, p, B⟩ ⟨x.wrap K' H' gd lv, c, p, B⟩ f s1 c p1 ⟨rfl, rfl, .inl ⟨rfl, rfl, x, rfl, rfl⟩⟩ h
  rw [inj b hb] at k
  exact ⟨n, Nat.le_refl n, k⟩
/-- what is asked of the keys of a dict, each another object than the key that is sought -/
def Apart (tb : String → Option Builtin) (P : Program) (w : World) (n0 : Nat) (ann : Option Value) (c : Code) (B : List Frame) (gd : Bool → Bool) (lv : List Value → List Value) (s : Shared) (p : Pos) (a : Addr) (v : Value) : Prop :=
  ∃ b, v = .ref b ∧ b ≠ a ∧ Does tb P w n0 ann c B gd lv 3000 (eqIsQuiet 8 (.ref b)) s p true s p ∧ Does tb P w n0 ann c B gd lv 3000 (eqBool (.ref b) (.ref a)) s p false s p
theorem quiet {a : Addr} {stored : List Value} (hq : Does tb P w n0 ann c B gd lv 3000 (eqIsQuiet 8 (.ref a)) s p true s p) (hl : stored.length ≤ 100) (hs : ∀ v ∈ stored, Does tb P w n0 ann c B gd lv 3000 (eqIsQuiet 8 v) s p true s p) : Does tb P w n0 ann c B gd lv 303000 (tableMayTell (.ref a) stored) s p false s p := by
  unfold tableMayTell
  split
  · exact le pure' (by decide)
  · refine le (bind (m2 := 100 * 3000 + 0) hq ?_) (by decide)
    simp only [Bool.not_true, Bool.false_eq_true, if_false]
    refine bind (each (k := 100) hl fun v hv => le (bind (m2 := 0) (hs v hv) ?_) (by decide)) ?_
    · simp only [Bool.not_true, Bool.false_eq_true, if_false]
      exact pure'
    · exact pure'
theorem find {d a : Addr} {h : Int} {o : Obj} {es : Array DictEntry} {ep : Nat} (hz : es.size ≤ 100) (ho : s.heap.get? d = some o) (hd : o.data = .dict es ep) (hk : ∀ e ∈ es, Apart tb P w n0 ann c B gd (fun l => lv ([.ref a] ++ l)) s p a e.key)
    (hq : Does tb P w n0 ann c B gd (fun l => lv ([.ref a] ++ l)) 3000 (eqIsQuiet 8 (.ref a)) s p true s p) : Does tb P w n0 ann c B gd lv 700000 (dictFind d (.ref a) h) s p none s p := by
  have hany : ¬ (es.any fun e => e.key == Value.ref a && e.hash != h) = true := by
    rw [← Array.any_toList, List.any_eq_true]
    rintro ⟨e, hin, hc⟩
    obtain ⟨b, hb, hne, _⟩ := hk e (Array.mem_toList_iff.mp hin)
    rw [hb] at hc
    simp only [Bool.and_eq_true, beq_iff_eq, Value.ref.injEq] at hc
    exact hne hc.1
  have hst : ∀ v ∈ (placesWithHash es.size (fun i => es[i]?.map (·.hash)) h).filterMap (fun i => es[i]?.map (·.key)), ∃ e ∈ es, v = e.key := by
    intro v hv
    obtain ⟨i, _, hi⟩ := List.mem_filterMap.mp hv
    cases hei : es[i]? with
    | none => rw [hei] at hi; cases hi
    | some e =>
      rw [hei] at hi
      exact ⟨e, Array.mem_of_getElem? hei, by simpa using hi.symm⟩
  have hpl : (placesWithHash es.size (fun i => es[i]?.map (·.hash)) h).length ≤ 100 := by
    unfold placesWithHash
    exact Nat.le_trans (List.length_filter_le _ _) (by rw [List.length_range]; exact hz)
  unfold dictFind
  refine hold (refs := [.ref a]) rfl ?_
  refine le (m1 := 1 + (303000 + (100 * 3004 + 0))) (bind (entries ho hd) ?_) (by decide)
  dsimp only
  rw [if_neg (show ¬ ((Value.ref a :: (placesWithHash es.size (fun i => es[i]?.map (·.hash)) h).filterMap (fun i => es[i]?.map (·.key))).all carriedByValue) = true by simp [carriedByValue])]
  rw [if_neg hany]
  have hone : ¬ (((placesWithHash es.size (fun i => es[i]?.map (·.hash)) h).filterMap (fun i => es[i]?.map (·.key))) == [Value.ref a]) = true := fun z => by
    have e := eq_of_beq z
    obtain ⟨x, hx, q⟩ := hst (.ref a) (by rw [e]; exact List.mem_cons_self)
    obtain ⟨b, hb, hne, _⟩ := hk x hx
    rw [hb] at q
    exact hne (by injection q with q; exact q.symm)
  rw [if_neg hone]
  refine bind (quiet hq (Nat.le_trans (List.length_filterMap_le _ _) hpl) fun v hv => ?_) ?_
  · obtain ⟨x, hx, rfl⟩ := hst v hv
    obtain ⟨b, hb, _, q, _⟩ := hk x hx
    rw [hb]
    exact q
  rw [if_neg (by simp)]
  refine bind (a := (none, none)) (each (k := 100) (m := 3004) hpl fun i hi => ?_) ?_
  · cases hei : es[i]? with
    | none => exact le pure'
    | some e =>
      obtain ⟨b, hb, _, _, q⟩ := hk e (Array.mem_of_getElem? hei)
      dsimp only
      by_cases hh : (e.hash == h) = true
      · rw [if_pos hh, hb]
        refine le (bind (epoch ho hd) (bind q (bind (m2 := 1) (epoch ho hd) ?_))) (by decide)
        rw [if_neg (by simp)]
        simp only [Bool.false_eq_true, if_false]
        refine le (bind (m2 := 0) rule ?_) (by decide)
        first
          | exact pure'
          | (rw [if_neg (by simp)]; exact pure')
      · rw [if_neg hh]
        exact le pure'
  · exact pure'
end
end Go

set_option Elab.async false
set_option linter.all false
set_option maxRecDepth 100000
set_option maxHeartbeats 0
noncomputable section
namespace K21H
open PySem PySem.W PySem.Calls PyProof.Rows HandSHeadRun
abbrev P : Program := PySem.Challenge.pw_hornmill_k21_bodies_and_clauses
abbrev body : List Stmt := behindTheImports P
abbrev env : Env := { scope := P.main.scope, locals := mainNs, globals := mainNs, cells := [], code := .ref 13, frame := some 14 }
abbrev cE : Code := .body body env
abbrev p0 : Pos := ⟨0, 0, 0, 0⟩
abbrev B : List Frame := [topFrame p0]
/-- so many steps, none of them the end -/
def goK (st : SharedT → Thread → Option (SharedT × Thread)) (n0 : Nat) (ann : Option Value) : Nat → SharedT → Thread → Option (SharedT × Thread)
  | 0, s, t => some (s, t)
  | m + 1, s, t => match through t with
    | true => none
    | false => match stepOk n0 ann t with
      | false => none
      | true => match st s t with
        | some (s', t') => frS s' fun s' => goK st n0 ann m s' t'
        | none => none
/-- to the end of a part -/
def sgK (st : SharedT → Thread → Option (SharedT × Thread)) (n0 : Nat) (ann : Option Value) : Nat → SharedT → Thread → Option (Flow × SharedT × Code × Pos)
  | 0, _, _ => none
  | m + 1, s, t => match endAt 1 t with
    | some f => some (f, s, t.code, t.pos)
    | none => match stepOk n0 ann t with
      | false => none
      | true => match st s t with
        | some (s', t') => frS s' fun s' => sgK st n0 ann m s' t'
        | none => none
def execsQ : List Stmt → Env → Sem Flow := PySem.W.Fast.tw12563942051412417395
theorem execsQ_eq : @PySem.execs = execsQ := PySem.W.Fast.te12563942051412417395
def startK (w : World) (os : OsState) : Option SharedT := match putAll (boot_heap w.params).objs.toList .nil 0 with
  | some (t, n) => frNat n fun n => some (bootT w os (t, n))
  | none => none
def r1 (w : World) (os : OsState) : Option (SharedT × Thread) := (startK w os).bind fun s => goK (stepQ (denQ tabQ) P w) 11 (bootAnn w) 12 s (topStub P)
theorem r1_th (w : World) (os : OsState) : (r1 w os).map (fun r => r.2) = some ⟨denQ tabQ cE, cE, p0, B⟩ := by kernel_rfl
def r2 (w : World) (os : OsState) : Option (Flow × SharedT × Code × Pos) := (r1 w os).bind fun r => sgK (stepQ (denQ tabQ) P w) 11 (bootAnn w) 3000 r.1 ⟨(execsQ (body.take 26) env).wrap doneF deadEnd id id, cE, p0, B⟩
abbrev row := "special-get-raises"
theorem r2_f (w : World) (os : OsState) : (r2 (w.withFollow row false) os).map (fun r => (r.1, r.2.2.1, r.2.2.2, r.2.1.n, r.2.1.toks)) = some (.next, cE, ⟨88, 0, 88, 8⟩, 167, 392) := by kernel_rfl
end K21H

end
set_option Elab.async false
set_option linter.all false
set_option maxRecDepth 100000
set_option maxHeartbeats 0
noncomputable section
namespace K21H
open PySem PySem.W PySem.Calls PyProof.Rows HandSHeadRun
def tgts : List PySem.Expr := match body[26]? with | some (Stmt.Assign t _ _) => t | _ => []
def dKeys : List (Option PySem.Expr) := match body[26]? with | some (Stmt.Assign _ (Expr.Dict k _ _) _) => k | _ => []
def dVals : List PySem.Expr := match body[26]? with | some (Stmt.Assign _ (Expr.Dict _ v _) _) => v | _ => []
def posA : Pos := match body[26]? with | some (Stmt.Assign _ _ p) => p | _ => p0
def posD : Pos := match body[26]? with | some (Stmt.Assign _ (Expr.Dict _ _ p) _) => p | _ => p0
theorem body_26 : body = body.take 26 ++ Stmt.Assign tgts (Expr.Dict dKeys dVals posD) posA :: body.drop 27 := by kernel_rfl
theorem lens : (dKeys.length, dVals.length, tgts.length) = (8, 8, 1) := by kernel_rfl
abbrev dE : PySem.Expr := Expr.Dict dKeys dVals posD
def keyE (i : Nat) : PySem.Expr := match dKeys[i]? with | some (some e) => e | _ => Expr.Constant .none 0 p0
def valE (i : Nat) : PySem.Expr := dVals.getD i (Expr.Constant .none 0 p0)
theorem dKeys_eq : dKeys = [some (keyE 0), some (keyE 1), some (keyE 2), some (keyE 3), some (keyE 4), some (keyE 5), some (keyE 6), some (keyE 7)] := by kernel_rfl
theorem dVals_eq : dVals = [valE 0, valE 1, valE 2, valE 3, valE 4, valE 5, valE 6, valE 7] := by kernel_rfl
def evalQ : PySem.Expr → Env → Sem Value := PySem.W.Fast.tw14044960220447912780
theorem evalQ_eq : @PySem.eval = evalQ := PySem.W.Fast.te14044960220447912780
def hashQ := PySem.W.Fast.tw10540108854288196387
theorem hashQ_eq : @PySem.pyHash = hashQ := PySem.W.Fast.te10540108854288196387
def eqQ := PySem.W.Fast.tw13926502685295537346
theorem eqQ_eq : @PySem.eqBool = eqQ := PySem.W.Fast.te13926502685295537346
def quQ := PySem.W.Fast.tw13066428366354244818
theorem quQ_eq : @PySem.eqIsQuiet = quQ := PySem.W.Fast.te13066428366354244818
def roomQ := @PySem.W.Fast.tw13383273872528276517
theorem roomQ_eq : @PySem.cRoomFor = roomQ := PySem.W.Fast.te13383273872528276517
def spQ := @PySem.W.Fast.tw4214721358667687652
theorem spQ_eq : @PySem.specialOf = spQ := PySem.W.Fast.te4214721358667687652
def bsQ := @PySem.W.Fast.tw4429936409751238260
theorem bsQ_eq : @PySem.bindSpecialIfBound? = bsQ := PySem.W.Fast.te4429936409751238260
def callQ : Value → List Value → List (Str × Value) → Sem Value := @PySem.W.Fast.tw11478286150595567475
theorem callQ_eq : @PySem.call = callQ := PySem.W.Fast.te11478286150595567475
def udQ : Addr → (Array DictEntry → Array DictEntry) → Option Value → Sem Unit := @PySem.W.Fast.tw11826078720135083572
theorem udQ_eq : @PySem.updateDictKeys = udQ := PySem.W.Fast.te11826078720135083572
/-- the pairs of the display -/
def pairs : List (Sem Value × Sem Value) := [(evalQ (keyE 0) env, evalQ (valE 0) env >>= fun x => standAt posD >>= fun _ => Pure.pure x), (evalQ (keyE 1) env, evalQ (valE 1) env >>= fun x => standAt posD >>= fun _ => Pure.pure x), (evalQ (keyE 2) env, evalQ (valE 2) env >>= fun x => standAt posD >>= fun _ => Pure.pure x), (evalQ (keyE 3) env, evalQ (valE 3) env >>= fun x => standAt posD >>= fun _ => Pure.pure x), (evalQ (keyE 4) env, evalQ (valE 4) env >>= fun x => standAt posD >>= fun _ => Pure.pure x), (evalQ (keyE 5) env, evalQ (valE 5) env >>= fun x => standAt posD >>= fun _ => Pure.pure x), (evalQ (keyE 6) env, evalQ (valE 6) env >>= fun x => standAt posD >>= fun _ => Pure.pure x), (evalQ (keyE 7) env, evalQ (valE 7) env >>= fun x => standAt posD >>= fun _ => Pure.pure x)]
def told : List (Value × Value) := [(.ref 168, .bool true), (.ref 169, .bool true), (.ref 170, .bool true), (.ref 171, .bool true), (.ref 172, .bool true), (.ref 173, .bool true), (.ref 174, .bool true), (.ref 175, .bool true)]
def lvA : List Value → List Value := fun l => id ([.ref 167] ++ l)
def lvB : List Value → List Value := fun l => lvA ([.ref 168, .ref 169, .ref 170, .ref 171, .ref 172, .ref 173, .ref 174, .ref 175] ++ l)
def lvC (a : Addr) : List Value → List Value := fun l => lvB ([.ref a] ++ l)
def lvD (a : Addr) : List Value → List Value := fun l => lvC a ([.ref a] ++ l)
def lvE (a : Addr) : List Value → List Value := fun l => lvD a ([.ref a] ++ l)
abbrev R : Type := Flow × SharedT × Code × Pos
def sg (w : World) {α : Type} (lv : List Value → List Value) (x : Sem α) (res : α → Flow) (s : SharedT) (p : Pos) : Option R := sgK (stepQ (denQ tabQ) P w) 11 (bootAnn w) 3000 s ⟨x.wrap (fun a => .pure (.done (res a))) deadEnd id lv, cE, p, B⟩
def rU : Unit → Flow := fun _ => .next
def rB : Bool → Flow := fun b => match b with | true => .brk | false => .next
def rV : Value → Flow := .ret
def rA : Addr → Flow := fun a => .ret (.ref a)
def rI : Int → Flow := fun i => .ret (.int i 0)
def rO {α : Type} : Option α → Flow := fun o => match o with | none => .next | some _ => .brk
def rP : List (Value × Value) → Flow := fun l => match l == told with | true => .next | false => .brk
def rS : Option Value → Flow := fun o => match o with | none => .next | some v => .ret v
def rT (a : Addr) : Option (Value × List Value) → Flow := fun o => match o == some (.builtin "tuple.__hash__", [.ref a]) with | true => .next | false => .brk
def hashOf : Flow → Int
  | .ret (.int i _) => i
  | _ => 0
abbrev tupW : List Int → Int := PySem.W.Fast.tw7081002000614191205
theorem tupW_eq (l : List Int) : tupW l = Builtin.Tuple.tupleHashOf l := (congrFun PySem.W.Fast.te7081002000614191205 l).symm
def tokOf : Flow → Tok
  | .ret (.int _ t) => t
  | _ => 0
def isInt : Flow → Bool
  | .ret (.int _ _) => true
  | _ => false
def keysAt (s : SharedT) : Option (List Value) := match getT s 167 with
  | some ⟨_, _, .dict es _, _⟩ => some (es.toList.map (·.key))
  | _ => none
def tailQ (d a : Addr) (h : Int) : Sem Unit := PySem.rule "dict.set.new-key-at-the-end" >>= fun _ => udQ d (fun es => es.push ⟨h, .ref a, .bool true⟩) (keyPart (.ref a))

abbrev Obs : Type := List R × List (Option (List Value)) × List Bool
def all (w : World) (os : OsState) : Option (R × List Int × Obs × Obs) := (r2 w os).bind fun r =>
  (sg w id (standAt posA) rU r.2.1 r.2.2.2).bind fun a =>
  (sg w id (swapsWithSole tgts dE posA.line env) rB a.2.1 a.2.2.2).bind fun b =>
  (sg w id (standAt posD) rU a.2.1 a.2.2.2).bind fun c =>
  (sg w id (alloc { cls := .type "dict", data := .dict #[] }) rA c.2.1 c.2.2.2).bind fun d =>
  (sg w lvA (evalPairs pairs) rP d.2.1 d.2.2.2).bind fun e =>
  (sg w (lvC 168) (roomQ "hash" [.ref 168]) rU e.2.1 e.2.2.2).bind fun k0 =>
  (sg w (lvC 168) (spQ (.ref 168) "__hash__") rS k0.2.1 k0.2.2.2).bind fun l0 =>
  (sg w (lvD 168) (bsQ (.ref 168) "__hash__") (rT 168) k0.2.1 k0.2.2.2).bind fun m0 =>
  (sg w (lvD 168) (callQ (.builtin "tuple.__hash__") [.ref 168] []) rV m0.2.1 m0.2.2.2).bind fun h0 =>
  (sg w (lvE 168) (quQ 8 (.ref 168)) rB h0.2.1 h0.2.2.2).bind fun q0_0 =>
  (sg w (lvD 168) (tailQ 167 168 (reduceHash (hashOf h0.1))) rU h0.2.1 h0.2.2.2).bind fun t0 =>
  (sg w (lvC 169) (roomQ "hash" [.ref 169]) rU t0.2.1 t0.2.2.2).bind fun k1 =>
  (sg w (lvC 169) (spQ (.ref 169) "__hash__") rS k1.2.1 k1.2.2.2).bind fun l1 =>
  (sg w (lvD 169) (bsQ (.ref 169) "__hash__") (rT 169) k1.2.1 k1.2.2.2).bind fun m1 =>
  (sg w (lvD 169) (callQ (.builtin "tuple.__hash__") [.ref 169] []) rV m1.2.1 m1.2.2.2).bind fun h1 =>
  (sg w (lvE 169) (quQ 8 (.ref 168)) rB h1.2.1 h1.2.2.2).bind fun q1_0 =>
  (sg w (lvE 169) (quQ 8 (.ref 169)) rB h1.2.1 h1.2.2.2).bind fun q1_1 =>
  (sg w (lvE 169) (eqQ (.ref 168) (.ref 169)) rB h1.2.1 h1.2.2.2).bind fun x1_0 =>
  (sg w (lvD 169) (tailQ 167 169 (reduceHash (hashOf h1.1))) rU h1.2.1 h1.2.2.2).bind fun t1 =>
  (sg w (lvC 170) (roomQ "hash" [.ref 170]) rU t1.2.1 t1.2.2.2).bind fun k2 =>
  (sg w (lvC 170) (spQ (.ref 170) "__hash__") rS k2.2.1 k2.2.2.2).bind fun l2 =>
  (sg w (lvD 170) (bsQ (.ref 170) "__hash__") (rT 170) k2.2.1 k2.2.2.2).bind fun m2 =>
  (sg w (lvD 170) (callQ (.builtin "tuple.__hash__") [.ref 170] []) rV m2.2.1 m2.2.2.2).bind fun h2 =>
  (sg w (lvE 170) (quQ 8 (.ref 168)) rB h2.2.1 h2.2.2.2).bind fun q2_0 =>
  (sg w (lvE 170) (quQ 8 (.ref 169)) rB h2.2.1 h2.2.2.2).bind fun q2_1 =>
  (sg w (lvE 170) (quQ 8 (.ref 170)) rB h2.2.1 h2.2.2.2).bind fun q2_2 =>
  (sg w (lvE 170) (eqQ (.ref 168) (.ref 170)) rB h2.2.1 h2.2.2.2).bind fun x2_0 =>
  (sg w (lvE 170) (eqQ (.ref 169) (.ref 170)) rB h2.2.1 h2.2.2.2).bind fun x2_1 =>
  (sg w (lvD 170) (tailQ 167 170 (reduceHash (hashOf h2.1))) rU h2.2.1 h2.2.2.2).bind fun t2 =>
  (sg w (lvC 171) (roomQ "hash" [.ref 171]) rU t2.2.1 t2.2.2.2).bind fun k3 =>
  (sg w (lvC 171) (spQ (.ref 171) "__hash__") rS k3.2.1 k3.2.2.2).bind fun l3 =>
  (sg w (lvD 171) (bsQ (.ref 171) "__hash__") (rT 171) k3.2.1 k3.2.2.2).bind fun m3 =>
  (sg w (lvD 171) (callQ (.builtin "tuple.__hash__") [.ref 171] []) rV m3.2.1 m3.2.2.2).bind fun h3 =>
  (sg w (lvE 171) (quQ 8 (.ref 168)) rB h3.2.1 h3.2.2.2).bind fun q3_0 =>
  (sg w (lvE 171) (quQ 8 (.ref 169)) rB h3.2.1 h3.2.2.2).bind fun q3_1 =>
  (sg w (lvE 171) (quQ 8 (.ref 170)) rB h3.2.1 h3.2.2.2).bind fun q3_2 =>
  (sg w (lvE 171) (quQ 8 (.ref 171)) rB h3.2.1 h3.2.2.2).bind fun q3_3 =>
  (sg w (lvE 171) (eqQ (.ref 168) (.ref 171)) rB h3.2.1 h3.2.2.2).bind fun x3_0 =>
  (sg w (lvE 171) (eqQ (.ref 169) (.ref 171)) rB h3.2.1 h3.2.2.2).bind fun x3_1 =>
  (sg w (lvE 171) (eqQ (.ref 170) (.ref 171)) rB h3.2.1 h3.2.2.2).bind fun x3_2 =>
  (sg w (lvD 171) (tailQ 167 171 (reduceHash (hashOf h3.1))) rU h3.2.1 h3.2.2.2).bind fun t3 =>
  (sg w (lvC 172) (roomQ "hash" [.ref 172]) rU t3.2.1 t3.2.2.2).bind fun k4 =>
  (sg w (lvC 172) (spQ (.ref 172) "__hash__") rS k4.2.1 k4.2.2.2).bind fun l4 =>
  (sg w (lvD 172) (bsQ (.ref 172) "__hash__") (rT 172) k4.2.1 k4.2.2.2).bind fun m4 =>
  (sg w (lvD 172) (callQ (.builtin "tuple.__hash__") [.ref 172] []) rV m4.2.1 m4.2.2.2).bind fun h4 =>
  (sg w (lvE 172) (quQ 8 (.ref 168)) rB h4.2.1 h4.2.2.2).bind fun q4_0 =>
  (sg w (lvE 172) (quQ 8 (.ref 169)) rB h4.2.1 h4.2.2.2).bind fun q4_1 =>
  (sg w (lvE 172) (quQ 8 (.ref 170)) rB h4.2.1 h4.2.2.2).bind fun q4_2 =>
  (sg w (lvE 172) (quQ 8 (.ref 171)) rB h4.2.1 h4.2.2.2).bind fun q4_3 =>
  (sg w (lvE 172) (quQ 8 (.ref 172)) rB h4.2.1 h4.2.2.2).bind fun q4_4 =>
  (sg w (lvE 172) (eqQ (.ref 168) (.ref 172)) rB h4.2.1 h4.2.2.2).bind fun x4_0 =>
  (sg w (lvE 172) (eqQ (.ref 169) (.ref 172)) rB h4.2.1 h4.2.2.2).bind fun x4_1 =>
  (sg w (lvE 172) (eqQ (.ref 170) (.ref 172)) rB h4.2.1 h4.2.2.2).bind fun x4_2 =>
  (sg w (lvE 172) (eqQ (.ref 171) (.ref 172)) rB h4.2.1 h4.2.2.2).bind fun x4_3 =>
  (sg w (lvD 172) (tailQ 167 172 (reduceHash (hashOf h4.1))) rU h4.2.1 h4.2.2.2).bind fun t4 =>
  (sg w (lvC 173) (roomQ "hash" [.ref 173]) rU t4.2.1 t4.2.2.2).bind fun k5 =>
  (sg w (lvC 173) (spQ (.ref 173) "__hash__") rS k5.2.1 k5.2.2.2).bind fun l5 =>
  (sg w (lvD 173) (bsQ (.ref 173) "__hash__") (rT 173) k5.2.1 k5.2.2.2).bind fun m5 =>
  (sg w (lvD 173) (callQ (.builtin "tuple.__hash__") [.ref 173] []) rV m5.2.1 m5.2.2.2).bind fun h5 =>
  (sg w (lvE 173) (quQ 8 (.ref 168)) rB h5.2.1 h5.2.2.2).bind fun q5_0 =>
  (sg w (lvE 173) (quQ 8 (.ref 169)) rB h5.2.1 h5.2.2.2).bind fun q5_1 =>
  (sg w (lvE 173) (quQ 8 (.ref 170)) rB h5.2.1 h5.2.2.2).bind fun q5_2 =>
  (sg w (lvE 173) (quQ 8 (.ref 171)) rB h5.2.1 h5.2.2.2).bind fun q5_3 =>
  (sg w (lvE 173) (quQ 8 (.ref 172)) rB h5.2.1 h5.2.2.2).bind fun q5_4 =>
  (sg w (lvE 173) (quQ 8 (.ref 173)) rB h5.2.1 h5.2.2.2).bind fun q5_5 =>
  (sg w (lvE 173) (eqQ (.ref 168) (.ref 173)) rB h5.2.1 h5.2.2.2).bind fun x5_0 =>
  (sg w (lvE 173) (eqQ (.ref 169) (.ref 173)) rB h5.2.1 h5.2.2.2).bind fun x5_1 =>
  (sg w (lvE 173) (eqQ (.ref 170) (.ref 173)) rB h5.2.1 h5.2.2.2).bind fun x5_2 =>
  (sg w (lvE 173) (eqQ (.ref 171) (.ref 173)) rB h5.2.1 h5.2.2.2).bind fun x5_3 =>
  (sg w (lvE 173) (eqQ (.ref 172) (.ref 173)) rB h5.2.1 h5.2.2.2).bind fun x5_4 =>
  (sg w (lvD 173) (tailQ 167 173 (reduceHash (hashOf h5.1))) rU h5.2.1 h5.2.2.2).bind fun t5 =>
  (sg w (lvC 174) (roomQ "hash" [.ref 174]) rU t5.2.1 t5.2.2.2).bind fun k6 =>
  (sg w (lvC 174) (spQ (.ref 174) "__hash__") rS k6.2.1 k6.2.2.2).bind fun l6 =>
  (sg w (lvD 174) (bsQ (.ref 174) "__hash__") (rT 174) k6.2.1 k6.2.2.2).bind fun m6 =>
  (sg w (lvD 174) (callQ (.builtin "tuple.__hash__") [.ref 174] []) rV m6.2.1 m6.2.2.2).bind fun h6 =>
  (sg w (lvE 174) (quQ 8 (.ref 168)) rB h6.2.1 h6.2.2.2).bind fun q6_0 =>
  (sg w (lvE 174) (quQ 8 (.ref 169)) rB h6.2.1 h6.2.2.2).bind fun q6_1 =>
  (sg w (lvE 174) (quQ 8 (.ref 170)) rB h6.2.1 h6.2.2.2).bind fun q6_2 =>
  (sg w (lvE 174) (quQ 8 (.ref 171)) rB h6.2.1 h6.2.2.2).bind fun q6_3 =>
  (sg w (lvE 174) (quQ 8 (.ref 172)) rB h6.2.1 h6.2.2.2).bind fun q6_4 =>
  (sg w (lvE 174) (quQ 8 (.ref 173)) rB h6.2.1 h6.2.2.2).bind fun q6_5 =>
  (sg w (lvE 174) (quQ 8 (.ref 174)) rB h6.2.1 h6.2.2.2).bind fun q6_6 =>
  (sg w (lvE 174) (eqQ (.ref 168) (.ref 174)) rB h6.2.1 h6.2.2.2).bind fun x6_0 =>
  (sg w (lvE 174) (eqQ (.ref 169) (.ref 174)) rB h6.2.1 h6.2.2.2).bind fun x6_1 =>
  (sg w (lvE 174) (eqQ (.ref 170) (.ref 174)) rB h6.2.1 h6.2.2.2).bind fun x6_2 =>
  (sg w (lvE 174) (eqQ (.ref 171) (.ref 174)) rB h6.2.1 h6.2.2.2).bind fun x6_3 =>
  (sg w (lvE 174) (eqQ (.ref 172) (.ref 174)) rB h6.2.1 h6.2.2.2).bind fun x6_4 =>
  (sg w (lvE 174) (eqQ (.ref 173) (.ref 174)) rB h6.2.1 h6.2.2.2).bind fun x6_5 =>
  (sg w (lvD 174) (tailQ 167 174 (reduceHash (hashOf h6.1))) rU h6.2.1 h6.2.2.2).bind fun t6 =>
  (sg w (lvC 175) (roomQ "hash" [.ref 175]) rU t6.2.1 t6.2.2.2).bind fun k7 =>
  (sg w (lvC 175) (spQ (.ref 175) "__hash__") rS k7.2.1 k7.2.2.2).bind fun l7 =>
  (sg w (lvD 175) (bsQ (.ref 175) "__hash__") (rT 175) k7.2.1 k7.2.2.2).bind fun m7 =>
  (sg w (lvD 175) (callQ (.builtin "tuple.__hash__") [.ref 175] []) rV m7.2.1 m7.2.2.2).bind fun h7 =>
  (sg w (lvE 175) (quQ 8 (.ref 168)) rB h7.2.1 h7.2.2.2).bind fun q7_0 =>
  (sg w (lvE 175) (quQ 8 (.ref 169)) rB h7.2.1 h7.2.2.2).bind fun q7_1 =>
  (sg w (lvE 175) (quQ 8 (.ref 170)) rB h7.2.1 h7.2.2.2).bind fun q7_2 =>
  (sg w (lvE 175) (quQ 8 (.ref 171)) rB h7.2.1 h7.2.2.2).bind fun q7_3 =>
  (sg w (lvE 175) (quQ 8 (.ref 172)) rB h7.2.1 h7.2.2.2).bind fun q7_4 =>
  (sg w (lvE 175) (quQ 8 (.ref 173)) rB h7.2.1 h7.2.2.2).bind fun q7_5 =>
  (sg w (lvE 175) (quQ 8 (.ref 174)) rB h7.2.1 h7.2.2.2).bind fun q7_6 =>
  (sg w (lvE 175) (quQ 8 (.ref 175)) rB h7.2.1 h7.2.2.2).bind fun q7_7 =>
  (sg w (lvE 175) (eqQ (.ref 168) (.ref 175)) rB h7.2.1 h7.2.2.2).bind fun x7_0 =>
  (sg w (lvE 175) (eqQ (.ref 169) (.ref 175)) rB h7.2.1 h7.2.2.2).bind fun x7_1 =>
  (sg w (lvE 175) (eqQ (.ref 170) (.ref 175)) rB h7.2.1 h7.2.2.2).bind fun x7_2 =>
  (sg w (lvE 175) (eqQ (.ref 171) (.ref 175)) rB h7.2.1 h7.2.2.2).bind fun x7_3 =>
  (sg w (lvE 175) (eqQ (.ref 172) (.ref 175)) rB h7.2.1 h7.2.2.2).bind fun x7_4 =>
  (sg w (lvE 175) (eqQ (.ref 173) (.ref 175)) rB h7.2.1 h7.2.2.2).bind fun x7_5 =>
  (sg w (lvE 175) (eqQ (.ref 174) (.ref 175)) rB h7.2.1 h7.2.2.2).bind fun x7_6 =>
  (sg w (lvD 175) (tailQ 167 175 (reduceHash (hashOf h7.1))) rU h7.2.1 h7.2.2.2).bind fun t7 =>
  (sg w id (swappedStores tgts dE env) rO t7.2.1 t7.2.2.2).bind fun f =>
  (sg w id (assignStores env (.ref 167) none ((assignEach tgts env).map (·.2))) id t7.2.1 t7.2.2.2).bind fun g =>
  some (g, [reduceHash (hashOf h0.1), reduceHash (hashOf h1.1), reduceHash (hashOf h2.1), reduceHash (hashOf h3.1), reduceHash (hashOf h4.1), reduceHash (hashOf h5.1), reduceHash (hashOf h6.1), reduceHash (hashOf h7.1)], ([r, a, b, c, d, e, k0, l0, m0, h0, q0_0, t0, k1, l1, m1, h1, q1_0, q1_1, x1_0, t1, k2, l2, m2, h2, q2_0, q2_1, q2_2, x2_0, x2_1, t2, k3, l3, m3, h3, q3_0, q3_1, q3_2, q3_3, x3_0, x3_1, x3_2, t3, k4, l4, m4, h4, q4_0, q4_1, q4_2, q4_3, q4_4, x4_0, x4_1, x4_2, x4_3, t4, k5, l5, m5, h5, q5_0, q5_1, q5_2, q5_3, q5_4, q5_5, x5_0, x5_1, x5_2, x5_3, x5_4, t5, k6, l6, m6, h6, q6_0, q6_1, q6_2, q6_3, q6_4, q6_5, q6_6, x6_0, x6_1, x6_2, x6_3, x6_4, x6_5, t6, k7, l7, m7, h7, q7_0, q7_1, q7_2, q7_3, q7_4, q7_5, q7_6, q7_7, x7_0, x7_1, x7_2, x7_3, x7_4, x7_5, x7_6, t7, f, g], [keysAt h0.2.1, keysAt h1.2.1, keysAt h2.2.1, keysAt h3.2.1, keysAt h4.2.1, keysAt h5.2.1, keysAt h6.2.1, keysAt h7.2.1], [isInt h0.1, isInt h1.1, isInt h2.1, isInt h3.1, isInt h4.1, isInt h5.1, isInt h6.1, isInt h7.1]), ([(Flow.next, r.2.1, cE, r.2.2.2), (Flow.next, a.2.1, cE, a.2.2.2), (Flow.next, a.2.1, cE, a.2.2.2), (Flow.next, c.2.1, cE, c.2.2.2), (Flow.ret (.ref 167), d.2.1, cE, d.2.2.2), (Flow.next, e.2.1, cE, e.2.2.2), (Flow.next, k0.2.1, cE, k0.2.2.2), (Flow.ret (.builtin "tuple.__hash__"), k0.2.1, cE, k0.2.2.2), (Flow.next, m0.2.1, cE, m0.2.2.2), (Flow.ret (.int (tupW [PyData.keyHash w.params ",", 2]) (tokOf h0.1)), h0.2.1, cE, h0.2.2.2), (Flow.brk, h0.2.1, cE, h0.2.2.2), (Flow.next, t0.2.1, cE, t0.2.2.2), (Flow.next, k1.2.1, cE, k1.2.2.2), (Flow.ret (.builtin "tuple.__hash__"), k1.2.1, cE, k1.2.2.2), (Flow.next, m1.2.1, cE, m1.2.2.2), (Flow.ret (.int (tupW [PyData.keyHash w.params ";", 2]) (tokOf h1.1)), h1.2.1, cE, h1.2.2.2), (Flow.brk, h1.2.1, cE, h1.2.2.2), (Flow.brk, h1.2.1, cE, h1.2.2.2), (Flow.next, h1.2.1, cE, h1.2.2.2), (Flow.next, t1.2.1, cE, t1.2.2.2), (Flow.next, k2.2.1, cE, k2.2.2.2), (Flow.ret (.builtin "tuple.__hash__"), k2.2.1, cE, k2.2.2.2), (Flow.next, m2.2.1, cE, m2.2.2.2), (Flow.ret (.int (tupW [PyData.keyHash w.params "->", 2]) (tokOf h2.1)), h2.2.1, cE, h2.2.2.2), (Flow.brk, h2.2.1, cE, h2.2.2.2), (Flow.brk, h2.2.1, cE, h2.2.2.2), (Flow.brk, h2.2.1, cE, h2.2.2.2), (Flow.next, h2.2.1, cE, h2.2.2.2), (Flow.next, h2.2.1, cE, h2.2.2.2), (Flow.next, t2.2.1, cE, t2.2.2.2), (Flow.next, k3.2.1, cE, k3.2.2.2), (Flow.ret (.builtin "tuple.__hash__"), k3.2.1, cE, k3.2.2.2), (Flow.next, m3.2.1, cE, m3.2.2.2), (Flow.ret (.int (tupW [PyData.keyHash w.params "*->", 2]) (tokOf h3.1)), h3.2.1, cE, h3.2.2.2), (Flow.brk, h3.2.1, cE, h3.2.2.2), (Flow.brk, h3.2.1, cE, h3.2.2.2), (Flow.brk, h3.2.1, cE, h3.2.2.2), (Flow.brk, h3.2.1, cE, h3.2.2.2), (Flow.next, h3.2.1, cE, h3.2.2.2), (Flow.next, h3.2.1, cE, h3.2.2.2), (Flow.next, h3.2.1, cE, h3.2.2.2), (Flow.next, t3.2.1, cE, t3.2.2.2), (Flow.next, k4.2.1, cE, k4.2.2.2), (Flow.ret (.builtin "tuple.__hash__"), k4.2.1, cE, k4.2.2.2), (Flow.next, m4.2.1, cE, m4.2.2.2), (Flow.ret (.int (tupW [PyData.keyHash w.params "\\+", 1]) (tokOf h4.1)), h4.2.1, cE, h4.2.2.2), (Flow.brk, h4.2.1, cE, h4.2.2.2), (Flow.brk, h4.2.1, cE, h4.2.2.2), (Flow.brk, h4.2.1, cE, h4.2.2.2), (Flow.brk, h4.2.1, cE, h4.2.2.2), (Flow.brk, h4.2.1, cE, h4.2.2.2), (Flow.next, h4.2.1, cE, h4.2.2.2), (Flow.next, h4.2.1, cE, h4.2.2.2), (Flow.next, h4.2.1, cE, h4.2.2.2), (Flow.next, h4.2.1, cE, h4.2.2.2), (Flow.next, t4.2.1, cE, t4.2.2.2), (Flow.next, k5.2.1, cE, k5.2.2.2), (Flow.ret (.builtin "tuple.__hash__"), k5.2.1, cE, k5.2.2.2), (Flow.next, m5.2.1, cE, m5.2.2.2), (Flow.ret (.int (tupW [PyData.keyHash w.params "once", 1]) (tokOf h5.1)), h5.2.1, cE, h5.2.2.2), (Flow.brk, h5.2.1, cE, h5.2.2.2), (Flow.brk, h5.2.1, cE, h5.2.2.2), (Flow.brk, h5.2.1, cE, h5.2.2.2), (Flow.brk, h5.2.1, cE, h5.2.2.2), (Flow.brk, h5.2.1, cE, h5.2.2.2), (Flow.brk, h5.2.1, cE, h5.2.2.2), (Flow.next, h5.2.1, cE, h5.2.2.2), (Flow.next, h5.2.1, cE, h5.2.2.2), (Flow.next, h5.2.1, cE, h5.2.2.2), (Flow.next, h5.2.1, cE, h5.2.2.2), (Flow.next, h5.2.1, cE, h5.2.2.2), (Flow.next, t5.2.1, cE, t5.2.2.2), (Flow.next, k6.2.1, cE, k6.2.2.2), (Flow.ret (.builtin "tuple.__hash__"), k6.2.1, cE, k6.2.2.2), (Flow.next, m6.2.1, cE, m6.2.2.2), (Flow.ret (.int (tupW [PyData.keyHash w.params "ignore", 1]) (tokOf h6.1)), h6.2.1, cE, h6.2.2.2), (Flow.brk, h6.2.1, cE, h6.2.2.2), (Flow.brk, h6.2.1, cE, h6.2.2.2), (Flow.brk, h6.2.1, cE, h6.2.2.2), (Flow.brk, h6.2.1, cE, h6.2.2.2), (Flow.brk, h6.2.1, cE, h6.2.2.2), (Flow.brk, h6.2.1, cE, h6.2.2.2), (Flow.brk, h6.2.1, cE, h6.2.2.2), (Flow.next, h6.2.1, cE, h6.2.2.2), (Flow.next, h6.2.1, cE, h6.2.2.2), (Flow.next, h6.2.1, cE, h6.2.2.2), (Flow.next, h6.2.1, cE, h6.2.2.2), (Flow.next, h6.2.1, cE, h6.2.2.2), (Flow.next, h6.2.1, cE, h6.2.2.2), (Flow.next, t6.2.1, cE, t6.2.2.2), (Flow.next, k7.2.1, cE, k7.2.2.2), (Flow.ret (.builtin "tuple.__hash__"), k7.2.1, cE, k7.2.2.2), (Flow.next, m7.2.1, cE, m7.2.2.2), (Flow.ret (.int (tupW [PyData.keyHash w.params "forall", 2]) (tokOf h7.1)), h7.2.1, cE, h7.2.2.2), (Flow.brk, h7.2.1, cE, h7.2.2.2), (Flow.brk, h7.2.1, cE, h7.2.2.2), (Flow.brk, h7.2.1, cE, h7.2.2.2), (Flow.brk, h7.2.1, cE, h7.2.2.2), (Flow.brk, h7.2.1, cE, h7.2.2.2), (Flow.brk, h7.2.1, cE, h7.2.2.2), (Flow.brk, h7.2.1, cE, h7.2.2.2), (Flow.brk, h7.2.1, cE, h7.2.2.2), (Flow.next, h7.2.1, cE, h7.2.2.2), (Flow.next, h7.2.1, cE, h7.2.2.2), (Flow.next, h7.2.1, cE, h7.2.2.2), (Flow.next, h7.2.1, cE, h7.2.2.2), (Flow.next, h7.2.1, cE, h7.2.2.2), (Flow.next, h7.2.1, cE, h7.2.2.2), (Flow.next, h7.2.1, cE, h7.2.2.2), (Flow.next, t7.2.1, cE, t7.2.2.2), (Flow.next, t7.2.1, cE, t7.2.2.2), (Flow.next, g.2.1, cE, g.2.2.2)], [some [], some [.ref 168], some [.ref 168, .ref 169], some [.ref 168, .ref 169, .ref 170], some [.ref 168, .ref 169, .ref 170, .ref 171], some [.ref 168, .ref 169, .ref 170, .ref 171, .ref 172], some [.ref 168, .ref 169, .ref 170, .ref 171, .ref 172, .ref 173], some [.ref 168, .ref 169, .ref 170, .ref 171, .ref 172, .ref 173, .ref 174]], [true, true, true, true, true, true, true, true]))
theorem same_f (w : World) (os : OsState) : (all (w.withFollow row false) os).map (fun x => x.2.2.1) = (all (w.withFollow row false) os).map (fun x => x.2.2.2) := by kernel_rfl
theorem same_t (w : World) (os : OsState) : (all (w.withFollow row true) os).map (fun x => x.2.2.1) = (all (w.withFollow row true) os).map (fun x => x.2.2.2) := by kernel_rfl
theorem some_f (w : World) (os : OsState) : (all (w.withFollow row false) os).isSome = true := by kernel_rfl
theorem some_t (w : World) (os : OsState) : (all (w.withFollow row true) os).isSome = true := by kernel_rfl
end K21H

end
set_option Elab.async false
set_option linter.all false
set_option maxRecDepth 100000
set_option maxHeartbeats 1000000
namespace Go
open PySem PySem.W PySem.Calls PyProof.Rows
section
variable {tb : String → Option Builtin} {P : Program} {w : World} {n0 : Nat} {ann : Option Value} {c : Code} {B : List Frame} {α β : Type} {gd : Bool → Bool} {lv : List Value → List Value} {s s1 s2 s3 : Shared} {p p1 p2 p3 : Pos}
theorem hash {a : Addr} {i : Int} {t : Tok} (h1 : Does tb P w n0 ann c B gd lv 3000 (cRoomFor "hash" [.ref a]) s p () s1 p1) (h2 : Does tb P w n0 ann c B gd lv 3000 (specialOf (.ref a) "__hash__") s1 p1 (some (.builtin "tuple.__hash__")) s1 p1)
    (h3 : Does tb P w n0 ann c B gd (fun l => lv ([.ref a] ++ l)) 3000 (bindSpecialIfBound? (.ref a) "__hash__") s1 p1 (some (.builtin "tuple.__hash__", [.ref a])) s2 p2)
    (h4 : Does tb P w n0 ann c B gd (fun l => lv ([.ref a] ++ l)) 3000 (PySem.call (.builtin "tuple.__hash__") [.ref a]) s2 p2 (.int i t) s3 p3) : Does tb P w n0 ann c B gd lv 20000 (pyHash (.ref a)) s p (reduceHash i) s3 p3 := by
  show Does tb P w n0 ann c B gd lv 20000 (pyHashByItsType (.ref a)) s p (reduceHash i) s3 p3
  unfold pyHashByItsType
  refine le (m1 := 3000 + (3000 + (3000 + ((3000 + (3000 + 0)) + 1)))) (bind h1 (bind h2 ?_)) (by decide)
  rw [if_neg (by decide +kernel)]
  refine bind h2 ?_
  simp only [Option.isNone_some, Bool.false_eq_true, if_false]
  refine bind (a := some (.int i t)) (s1 := s3) (p1 := p3) ?_ ?_
  · unfold callSpecialIfBoundUnlessNone?
    refine hold (refs := [.ref a]) rfl ?_
    refine bind h3 ?_
    dsimp only
    rw [if_neg (by decide +kernel)]
    exact bind h4 pure'
  · dsimp only
    unfold pyHashByItsType.reduced
    unfold reduceHash
    by_cases hr : (decide (-(2 : Int) ^ 63 ≤ i) && decide (i < 2 ^ 63)) = true
    · rw [if_pos hr, if_pos hr]
      exact le pure'
    · rw [if_neg hr, if_neg hr]
      exact bind (m2 := 0) rule pure'
theorem set_ {d a : Addr} {b : Bool} {h : Int} {o : Obj} {es : Array DictEntry} {ep : Nat} (hh : Does tb P w n0 ann c B gd (fun l => lv ([.ref a] ++ l)) 20000 (pyHash (.ref a)) s p h s1 p1) (hz : es.size ≤ 100) (ho : s1.heap.get? d = some o) (hd : o.data = .dict es ep)
    (hk : ∀ e ∈ es, Apart tb P w n0 ann c B gd (fun l => (fun l => (fun l => lv ([.ref a] ++ l)) ([.ref a] ++ l)) ([.ref a] ++ l)) s1 p1 a e.key) (hq : Does tb P w n0 ann c B gd (fun l => (fun l => (fun l => lv ([.ref a] ++ l)) ([.ref a] ++ l)) ([.ref a] ++ l)) 3000 (eqIsQuiet 8 (.ref a)) s1 p1 true s1 p1)
    (ht : Does tb P w n0 ann c B gd (fun l => (fun l => lv ([.ref a] ++ l)) ([.ref a] ++ l)) 3000 (PySem.rule "dict.set.new-key-at-the-end" >>= fun _ => updateDictKeys d (fun es => es.push ⟨h, .ref a, .bool b⟩) (keyPart (.ref a))) s1 p1 () s2 p2) :
    Does tb P w n0 ann c B gd lv 800000 (dictSet d (.ref a) (.bool b)) s p () s2 p2 := by
  unfold dictSet
  refine hold (refs := [.ref a]) rfl ?_
  refine le (m1 := 20000 + (700000 + 3000)) (bind hh ?_) (by decide)
  unfold dictSetHashed
  refine hold (refs := [.ref a]) rfl ?_
  refine bind (find hz ho hd hk hq) ?_
  exact ht
end
end Go

set_option Elab.async false
set_option linter.all false
set_option maxRecDepth 100000
set_option maxHeartbeats 4000000
noncomputable section
namespace K21H
open PySem PySem.W PySem.Calls PyProof.Rows HandSHeadRun
theorem sgK_ok {tb : String → Option Builtin} {p : Program} {w : World} {n0 : Nat} {ann : Option Value} : ∀ {m : Nat} {s s' : SharedT} {t : Thread} {f : Flow} {c : Code} {q : Pos}, sgK (stepT (denote tb) p w) n0 ann m s t = some (f, s', c, q) → segRun tb p w n0 ann 1 m s.abs t = some (f, s'.abs, c, q)
  | 0, _, _, _, _, _, _, h => by cases h
  | m + 1, s, s', t, f, c, q, h => by
    unfold sgK at h
    unfold segRun
    cases he : endAt 1 t with
    | some x =>
      rw [he] at h
      cases h
      rfl
    | none =>
      rw [he] at h
      cases hk : stepOk n0 ann t with
      | false =>
        rw [hk] at h
        cases h
      | true =>
        rw [hk] at h
        cases hs : stepT (denote tb) p w s t with
        | none =>
          rw [hs] at h
          cases h
        | some r =>
          obtain ⟨s2, t2⟩ := r
          rw [hs] at h
          have h3 : (frS s2 fun s' => sgK (stepT (denote tb) p w) n0 ann m s' t2) = some (f, s', c, q) := h
          rw [frS_eq] at h3
          rw [stepT_spec hs]
          exact sgK_ok h3
theorem goK_ok {tb : String → Option Builtin} {p : Program} {w : World} {n0 : Nat} {ann : Option Value} : ∀ {m : Nat} {s s' : SharedT} {t t' : Thread}, goK (stepT (denote tb) p w) n0 ann m s t = some (s', t') → topGo tb p w n0 ann m s.abs t = some (s'.abs, t')
  | 0, _, _, _, _, h => by
    cases h
    rfl
  | m + 1, s, s', t, t', h => by
    unfold goK at h
    unfold topGo
    cases ht : through t with
    | true =>
      rw [ht] at h
      cases h
    | false =>
      rw [ht] at h
      cases hk : stepOk n0 ann t with
      | false =>
        rw [hk] at h
        cases h
      | true =>
        rw [hk] at h
        cases hs : stepT (denote tb) p w s t with
        | none =>
          rw [hs] at h
          cases h
        | some r =>
          obtain ⟨s2, t2⟩ := r
          rw [hs] at h
          have h3 : (frS s2 fun s' => goK (stepT (denote tb) p w) n0 ann m s' t2) = some (s', t') := h
          rw [frS_eq] at h3
          rw [stepT_spec hs]
          exact goK_ok h3
abbrev Dz (w : World) {α : Type} (lv : List Value → List Value) (m : Nat) (x : Sem α) (s : SharedT) (p : Pos) (a : α) (s' : SharedT) (p' : Pos) : Prop := Go.Does treeTable P w 11 (bootAnn w) cE B id lv m x s.abs p a s'.abs p'
theorem sg_does {w : World} {α : Type} {lv : List Value → List Value} {x : Sem α} {res : α → Flow} {s s' : SharedT} {p p' : Pos} {f : Flow} {a : α} (h : sg w lv x res s p = some (f, s', cE, p')) (inj : ∀ b, res b = f → b = a) : Dz w lv 3000 x s p a s' p' := by
  unfold sg at h
  rw [← stepQ_eq, ← denQ_eq, ← tabQ_eq] at h
  exact Go.seg (B := B) rfl inj (sgK_ok h)
theorem iU {f : Flow} : ∀ b, rU b = f → b = () := fun _ _ => rfl
theorem iBf : ∀ b, rB b = Flow.next → b = false := fun b h => by
  cases b
  · rfl
  · cases h
theorem iBt : ∀ b, rB b = Flow.brk → b = true := fun b h => by
  cases b
  · cases h
  · rfl
theorem iV {v : Value} : ∀ b, rV b = Flow.ret v → b = v := fun b h => by
  injection h
theorem iA {d : Addr} : ∀ b, rA b = Flow.ret (.ref d) → b = d := fun b h => by
  injection h with h
  injection h
theorem iS {v : Value} : ∀ b, rS b = Flow.ret v → b = some v := fun b h => by
  cases b with
  | none => cases h
  | some u =>
    injection h with h
    rw [h]
theorem iT {a : Addr} : ∀ b, rT a b = Flow.next → b = some (.builtin "tuple.__hash__", [.ref a]) := fun b h => by
  unfold rT at h
  cases e : b == some (Value.builtin "tuple.__hash__", [Value.ref a]) with
  | true => exact eq_of_beq e
  | false =>
    rw [e] at h
    cases h
theorem iP : ∀ b, rP b = Flow.next → b = told := fun b h => by
  unfold rP at h
  cases e : b == told with
  | true => exact eq_of_beq e
  | false =>
    rw [e] at h
    cases h
theorem iO {α : Type} : ∀ b : Option α, rO b = Flow.next → b = none := fun b h => by
  cases b with
  | none => rfl
  | some u => cases h
theorem iI {f : Flow} (h : isInt f = true) : ∃ t, f = .ret (.int (hashOf f) t) := by
  cases f with
  | ret v =>
    cases v with
    | int i t => exact ⟨t, rfl⟩
    | _ => cases h
  | _ => cases h
theorem hashOf_of {z : R} {i : Int} {t : Tok} {s : SharedT} {c : Code} {p : Pos} (e : z = (Flow.ret (.int i t), s, c, p)) : hashOf z.1 = i := by
  subst e
  rfl
theorem keysAt_ok {s : SharedT} {l : List Value} (h : keysAt s = some l) : ∃ (o : Obj) (es : Array DictEntry) (ep : Nat), s.abs.heap.get? 167 = some o ∧ o.data = .dict es ep ∧ es.toList.map (·.key) = l := by
  unfold keysAt at h
  rw [getT_eq] at h
  cases q : s.abs.heap.get? 167 with
  | none =>
    rw [q] at h
    cases h
  | some o =>
    obtain ⟨oc, od, dt, sl⟩ := o
    rw [q] at h
    cases dt with
    | dict es n => exact ⟨_, es, n, rfl, rfl, Option.some.inj h⟩
    | _ => cases h
theorem keys_size {es : Array DictEntry} {l : List Value} (h : es.toList.map (·.key) = l) : es.size = l.length := by
  rw [← h]
  simp
theorem keys_mem {es : Array DictEntry} {l : List Value} (h : es.toList.map (·.key) = l) {e : DictEntry} (he : e ∈ es) : e.key ∈ l := by
  rw [← h]
  exact List.mem_map.mpr ⟨e, Array.mem_toList_iff.mpr he, rfl⟩
theorem pairs_eq : pairs = [(eval (keyE 0) env, eval (valE 0) env >>= fun x => standAt posD >>= fun _ => Pure.pure x), (eval (keyE 1) env, eval (valE 1) env >>= fun x => standAt posD >>= fun _ => Pure.pure x), (eval (keyE 2) env, eval (valE 2) env >>= fun x => standAt posD >>= fun _ => Pure.pure x), (eval (keyE 3) env, eval (valE 3) env >>= fun x => standAt posD >>= fun _ => Pure.pure x), (eval (keyE 4) env, eval (valE 4) env >>= fun x => standAt posD >>= fun _ => Pure.pure x), (eval (keyE 5) env, eval (valE 5) env >>= fun x => standAt posD >>= fun _ => Pure.pure x), (eval (keyE 6) env, eval (valE 6) env >>= fun x => standAt posD >>= fun _ => Pure.pure x), (eval (keyE 7) env, eval (valE 7) env >>= fun x => standAt posD >>= fun _ => Pure.pure x)] := by
  unfold pairs
  rw [← evalQ_eq]
abbrev stD : Stmt := Stmt.Assign tgts dE posA
end K21H

end
set_option Elab.async false
set_option linter.all false
set_option maxRecDepth 100000
set_option maxHeartbeats 400000
noncomputable section
namespace K21H
open PySem PySem.W PySem.Calls PyProof.Rows HandSHeadRun
theorem dd8 (k0 k1 k2 k3 k4 k5 k6 k7 v0 v1 v2 v3 v4 v5 v6 v7 : Sem Value) : dictDisplay [(some k0, v0), (some k1, v1), (some k2, v2), (some k3, v3), (some k4, v4), (some k5, v5), (some k6, v6), (some k7, v7)] = subDict [(k0, v0), (k1, v1), (k2, v2), (k3, v3), (k4, v4), (k5, v5), (k6, v6), (k7, v7)] >>= fun d => Pure.pure (.ref d) := by
  unfold dictDisplay
  simp only [List.forIn_cons, List.forIn_nil, pure_bind, List.nil_append, List.cons_append, List.length_cons, List.length_nil, Nat.zero_add, Nat.reduceAdd, Nat.reduceBEq, Bool.false_eq_true, if_false, List.isEmpty_cons, bind_assoc]
theorem shown : dictDisplay ((evalEachOpt dKeys env).zip ((evalEach dVals env).map fun v => v >>= fun x => standAt posD >>= fun _ => Pure.pure x)) = subDict pairs >>= fun d => Pure.pure (.ref d) := by
  rw [pairs_eq, dKeys_eq, dVals_eq]
  simp only [evalEachOpt, evalEach, evalOpt, List.map_cons, List.map_nil, List.zip_cons_cons, List.zip_nil_right]
  exact dd8 _ _ _ _ _ _ _ _ _ _ _ _ _ _ _ _
end K21H

end
set_option Elab.async false
set_option linter.all false
set_option maxRecDepth 100000
set_option maxHeartbeats 4000000
noncomputable section
namespace K21H
open PySem PySem.W PySem.Calls PyProof.Rows HandSHeadRun
theorem disp {w : World} {os : OsState} {y : R × List Int × Obs × Obs} (h : all w os = some y) (ee : y.2.2.1 = y.2.2.2) : y.2.1 = [reduceHash (tupW [PyData.keyHash w.params ",", 2]), reduceHash (tupW [PyData.keyHash w.params ";", 2]), reduceHash (tupW [PyData.keyHash w.params "->", 2]), reduceHash (tupW [PyData.keyHash w.params "*->", 2]), reduceHash (tupW [PyData.keyHash w.params "\\+", 1]), reduceHash (tupW [PyData.keyHash w.params "once", 1]), reduceHash (tupW [PyData.keyHash w.params "ignore", 1]), reduceHash (tupW [PyData.keyHash w.params "forall", 2])] ∧ ∃ r : R, r2 w os = some r ∧ r.1 = .next ∧ r.2.2.1 = cE ∧ y.1.1 = .next ∧ y.1.2.2.1 = cE ∧ Dz w id 20000000 (exec stD env) r.2.1 r.2.2.2 .next y.1.2.1 y.1.2.2.2 := by
  unfold all at h
  obtain ⟨r, hr, h⟩ := Option.bind_eq_some_iff.mp h
  obtain ⟨a, h_a, h⟩ := Option.bind_eq_some_iff.mp h
  obtain ⟨b, h_b, h⟩ := Option.bind_eq_some_iff.mp h
  obtain ⟨c, h_c, h⟩ := Option.bind_eq_some_iff.mp h
  obtain ⟨d, h_d, h⟩ := Option.bind_eq_some_iff.mp h
  obtain ⟨e, h_e, h⟩ := Option.bind_eq_some_iff.mp h
  obtain ⟨k0, h_k0, h⟩ := Option.bind_eq_some_iff.mp h
  obtain ⟨l0, h_l0, h⟩ := Option.bind_eq_some_iff.mp h
  obtain ⟨m0, h_m0, h⟩ := Option.bind_eq_some_iff.mp h
  obtain ⟨h0, h_h0, h⟩ := Option.bind_eq_some_iff.mp h
  obtain ⟨q0_0, h_q0_0, h⟩ := Option.bind_eq_some_iff.mp h
  obtain ⟨t0, h_t0, h⟩ := Option.bind_eq_some_iff.mp h
  obtain ⟨k1, h_k1, h⟩ := Option.bind_eq_some_iff.mp h
  obtain ⟨l1, h_l1, h⟩ := Option.bind_eq_some_iff.mp h
  obtain ⟨m1, h_m1, h⟩ := Option.bind_eq_some_iff.mp h
  obtain ⟨h1, h_h1, h⟩ := Option.bind_eq_some_iff.mp h
  obtain ⟨q1_0, h_q1_0, h⟩ := Option.bind_eq_some_iff.mp h
  obtain ⟨q1_1, h_q1_1, h⟩ := Option.bind_eq_some_iff.mp h
  obtain ⟨x1_0, h_x1_0, h⟩ := Option.bind_eq_some_iff.mp h
  obtain ⟨t1, h_t1, h⟩ := Option.bind_eq_some_iff.mp h
  obtain ⟨k2, h_k2, h⟩ := Option.bind_eq_some_iff.mp h
  obtain ⟨l2, h_l2, h⟩ := Option.bind_eq_some_iff.mp h
  obtain ⟨m2, h_m2, h⟩ := Option.bind_eq_some_iff.mp h
  obtain ⟨h2, h_h2, h⟩ := Option.bind_eq_some_iff.mp h
  obtain ⟨q2_0, h_q2_0, h⟩ := Option.bind_eq_some_iff.mp h
  obtain ⟨q2_1, h_q2_1, h⟩ := Option.bind_eq_some_iff.mp h
  obtain ⟨q2_2, h_q2_2, h⟩ := Option.bind_eq_some_iff.mp h
  obtain ⟨x2_0, h_x2_0, h⟩ := Option.bind_eq_some_iff.mp h
  obtain ⟨x2_1, h_x2_1, h⟩ := Option.bind_eq_some_iff.mp h
  obtain ⟨t2, h_t2, h⟩ := Option.bind_eq_some_iff.mp h
  obtain ⟨k3, h_k3, h⟩ := Option.bind_eq_some_iff.mp h
  obtain ⟨l3, h_l3, h⟩ := Option.bind_eq_some_iff.mp h
  obtain ⟨m3, h_m3, h⟩ := Option.bind_eq_some_iff.mp h
  obtain ⟨h3, h_h3, h⟩ := Option.bind_eq_some_iff.mp h
  obtain ⟨q3_0, h_q3_0, h⟩ := Option.bind_eq_some_iff.mp h
  obtain ⟨q3_1, h_q3_1, h⟩ := Option.bind_eq_some_iff.mp h
  obtain ⟨q3_2, h_q3_2, h⟩ := Option.bind_eq_some_iff.mp h
  obtain ⟨q3_3, h_q3_3, h⟩ := Option.bind_eq_some_iff.mp h
  obtain ⟨x3_0, h_x3_0, h⟩ := Option.bind_eq_some_iff.mp h
  obtain ⟨x3_1, h_x3_1, h⟩ := Option.bind_eq_some_iff.mp h
  obtain ⟨x3_2, h_x3_2, h⟩ := Option.bind_eq_some_iff.mp h
  obtain ⟨t3, h_t3, h⟩ := Option.bind_eq_some_iff.mp h
  obtain ⟨k4, h_k4, h⟩ := Option.bind_eq_some_iff.mp h
  obtain ⟨l4, h_l4, h⟩ := Option.bind_eq_some_iff.mp h
  obtain ⟨m4, h_m4, h⟩ := Option.bind_eq_some_iff.mp h
  obtain ⟨h4, h_h4, h⟩ := Option.bind_eq_some_iff.mp h
  obtain ⟨q4_0, h_q4_0, h⟩ := Option.bind_eq_some_iff.mp h
  obtain ⟨q4_1, h_q4_1, h⟩ := Option.bind_eq_some_iff.mp h
  obtain ⟨q4_2, h_q4_2, h⟩ := Option.bind_eq_some_iff.mp h
  obtain ⟨q4_3, h_q4_3, h⟩ := Option.bind_eq_some_iff.mp h
  obtain ⟨q4_4, h_q4_4, h⟩ := Option.bind_eq_some_iff.mp h
  obtain ⟨x4_0, h_x4_0, h⟩ := Option.bind_eq_some_iff.mp h
  obtain ⟨x4_1, h_x4_1, h⟩ := Option.bind_eq_some_iff.mp h
  obtain ⟨x4_2, h_x4_2, h⟩ := Option.bind_eq_some_iff.mp h
  obtain ⟨x4_3, h_x4_3, h⟩ := Option.bind_eq_some_iff.mp h
  obtain ⟨t4, h_t4, h⟩ := Option.bind_eq_some_iff.mp h
  obtain ⟨k5, h_k5, h⟩ := Option.bind_eq_some_iff.mp h
  obtain ⟨l5, h_l5, h⟩ := Option.bind_eq_some_iff.mp h
  obtain ⟨m5, h_m5, h⟩ := Option.bind_eq_some_iff.mp h
  obtain ⟨h5, h_h5, h⟩ := Option.bind_eq_some_iff.mp h
  obtain ⟨q5_0, h_q5_0, h⟩ := Option.bind_eq_some_iff.mp h
  obtain ⟨q5_1, h_q5_1, h⟩ := Option.bind_eq_some_iff.mp h
  obtain ⟨q5_2, h_q5_2, h⟩ := Option.bind_eq_some_iff.mp h
  obtain ⟨q5_3, h_q5_3, h⟩ := Option.bind_eq_some_iff.mp h
  obtain ⟨q5_4, h_q5_4, h⟩ := Option.bind_eq_some_iff.mp h
  obtain ⟨q5_5, h_q5_5, h⟩ := Option.bind_eq_some_iff.mp h
  obtain ⟨x5_0, h_x5_0, h⟩ := Option.bind_eq_some_iff.mp h
  obtain ⟨x5_1, h_x5_1, h⟩ := Option.bind_eq_some_iff.mp h
  obtain ⟨x5_2, h_x5_2, h⟩ := Option.bind_eq_some_iff.mp h
  obtain ⟨x5_3, h_x5_3, h⟩ := Option.bind_eq_some_iff.mp h
  obtain ⟨x5_4, h_x5_4, h⟩ := Option.bind_eq_some_iff.mp h
  obtain ⟨t5, h_t5, h⟩ := Option.bind_eq_some_iff.mp h
  obtain ⟨k6, h_k6, h⟩ := Option.bind_eq_some_iff.mp h
  obtain ⟨l6, h_l6, h⟩ := Option.bind_eq_some_iff.mp h
  obtain ⟨m6, h_m6, h⟩ := Option.bind_eq_some_iff.mp h
  obtain ⟨h6, h_h6, h⟩ := Option.bind_eq_some_iff.mp h
  obtain ⟨q6_0, h_q6_0, h⟩ := Option.bind_eq_some_iff.mp h
  obtain ⟨q6_1, h_q6_1, h⟩ := Option.bind_eq_some_iff.mp h
  obtain ⟨q6_2, h_q6_2, h⟩ := Option.bind_eq_some_iff.mp h
  obtain ⟨q6_3, h_q6_3, h⟩ := Option.bind_eq_some_iff.mp h
  obtain ⟨q6_4, h_q6_4, h⟩ := Option.bind_eq_some_iff.mp h
  obtain ⟨q6_5, h_q6_5, h⟩ := Option.bind_eq_some_iff.mp h
  obtain ⟨q6_6, h_q6_6, h⟩ := Option.bind_eq_some_iff.mp h
  obtain ⟨x6_0, h_x6_0, h⟩ := Option.bind_eq_some_iff.mp h
  obtain ⟨x6_1, h_x6_1, h⟩ := Option.bind_eq_some_iff.mp h
  obtain ⟨x6_2, h_x6_2, h⟩ := Option.bind_eq_some_iff.mp h
  obtain ⟨x6_3, h_x6_3, h⟩ := Option.bind_eq_some_iff.mp h
  obtain ⟨x6_4, h_x6_4, h⟩ := Option.bind_eq_some_iff.mp h
  obtain ⟨x6_5, h_x6_5, h⟩ := Option.bind_eq_some_iff.mp h
  obtain ⟨t6, h_t6, h⟩ := Option.bind_eq_some_iff.mp h
  obtain ⟨k7, h_k7, h⟩ := Option.bind_eq_some_iff.mp h
  obtain ⟨l7, h_l7, h⟩ := Option.bind_eq_some_iff.mp h
  obtain ⟨m7, h_m7, h⟩ := Option.bind_eq_some_iff.mp h
  obtain ⟨h7, h_h7, h⟩ := Option.bind_eq_some_iff.mp h
  obtain ⟨q7_0, h_q7_0, h⟩ := Option.bind_eq_some_iff.mp h
  obtain ⟨q7_1, h_q7_1, h⟩ := Option.bind_eq_some_iff.mp h
  obtain ⟨q7_2, h_q7_2, h⟩ := Option.bind_eq_some_iff.mp h
  obtain ⟨q7_3, h_q7_3, h⟩ := Option.bind_eq_some_iff.mp h
  obtain ⟨q7_4, h_q7_4, h⟩ := Option.bind_eq_some_iff.mp h
  obtain ⟨q7_5, h_q7_5, h⟩ := Option.bind_eq_some_iff.mp h
  obtain ⟨q7_6, h_q7_6, h⟩ := Option.bind_eq_some_iff.mp h
  obtain ⟨q7_7, h_q7_7, h⟩ := Option.bind_eq_some_iff.mp h
  obtain ⟨x7_0, h_x7_0, h⟩ := Option.bind_eq_some_iff.mp h
  obtain ⟨x7_1, h_x7_1, h⟩ := Option.bind_eq_some_iff.mp h
  obtain ⟨x7_2, h_x7_2, h⟩ := Option.bind_eq_some_iff.mp h
  obtain ⟨x7_3, h_x7_3, h⟩ := Option.bind_eq_some_iff.mp h
  obtain ⟨x7_4, h_x7_4, h⟩ := Option.bind_eq_some_iff.mp h
  obtain ⟨x7_5, h_x7_5, h⟩ := Option.bind_eq_some_iff.mp h
  obtain ⟨x7_6, h_x7_6, h⟩ := Option.bind_eq_some_iff.mp h
  obtain ⟨t7, h_t7, h⟩ := Option.bind_eq_some_iff.mp h
  obtain ⟨f, h_f, h⟩ := Option.bind_eq_some_iff.mp h
  obtain ⟨g, h_g, h⟩ := Option.bind_eq_some_iff.mp h
  obtain rfl := Option.some.inj h
  clear h
  obtain ⟨ee, ek⟩ := Prod.mk.inj ee
  obtain ⟨ek, eb⟩ := Prod.mk.inj ek
  obtain ⟨e_r, ee⟩ := List.cons.inj ee
  obtain ⟨e_a, ee⟩ := List.cons.inj ee
  obtain ⟨e_b, ee⟩ := List.cons.inj ee
  obtain ⟨e_c, ee⟩ := List.cons.inj ee
  obtain ⟨e_d, ee⟩ := List.cons.inj ee
  obtain ⟨e_e, ee⟩ := List.cons.inj ee
  obtain ⟨e_k0, ee⟩ := List.cons.inj ee
  obtain ⟨e_l0, ee⟩ := List.cons.inj ee
  obtain ⟨e_m0, ee⟩ := List.cons.inj ee
  obtain ⟨e_h0, ee⟩ := List.cons.inj ee
  obtain ⟨e_q0_0, ee⟩ := List.cons.inj ee
  obtain ⟨e_t0, ee⟩ := List.cons.inj ee
  obtain ⟨e_k1, ee⟩ := List.cons.inj ee
  obtain ⟨e_l1, ee⟩ := List.cons.inj ee
  obtain ⟨e_m1, ee⟩ := List.cons.inj ee
  obtain ⟨e_h1, ee⟩ := List.cons.inj ee
  obtain ⟨e_q1_0, ee⟩ := List.cons.inj ee
  obtain ⟨e_q1_1, ee⟩ := List.cons.inj ee
  obtain ⟨e_x1_0, ee⟩ := List.cons.inj ee
  obtain ⟨e_t1, ee⟩ := List.cons.inj ee
  obtain ⟨e_k2, ee⟩ := List.cons.inj ee
  obtain ⟨e_l2, ee⟩ := List.cons.inj ee
  obtain ⟨e_m2, ee⟩ := List.cons.inj ee
  obtain ⟨e_h2, ee⟩ := List.cons.inj ee
  obtain ⟨e_q2_0, ee⟩ := List.cons.inj ee
  obtain ⟨e_q2_1, ee⟩ := List.cons.inj ee
  obtain ⟨e_q2_2, ee⟩ := List.cons.inj ee
  obtain ⟨e_x2_0, ee⟩ := List.cons.inj ee
  obtain ⟨e_x2_1, ee⟩ := List.cons.inj ee
  obtain ⟨e_t2, ee⟩ := List.cons.inj ee
  obtain ⟨e_k3, ee⟩ := List.cons.inj ee
  obtain ⟨e_l3, ee⟩ := List.cons.inj ee
  obtain ⟨e_m3, ee⟩ := List.cons.inj ee
  obtain ⟨e_h3, ee⟩ := List.cons.inj ee
  obtain ⟨e_q3_0, ee⟩ := List.cons.inj ee
  obtain ⟨e_q3_1, ee⟩ := List.cons.inj ee
  obtain ⟨e_q3_2, ee⟩ := List.cons.inj ee
  obtain ⟨e_q3_3, ee⟩ := List.cons.inj ee
  obtain ⟨e_x3_0, ee⟩ := List.cons.inj ee
  obtain ⟨e_x3_1, ee⟩ := List.cons.inj ee
  obtain ⟨e_x3_2, ee⟩ := List.cons.inj ee
  obtain ⟨e_t3, ee⟩ := List.cons.inj ee
  obtain ⟨e_k4, ee⟩ := List.cons.inj ee
  obtain ⟨e_l4, ee⟩ := List.cons.inj ee
  obtain ⟨e_m4, ee⟩ := List.cons.inj ee
  obtain ⟨e_h4, ee⟩ := List.cons.inj ee
  obtain ⟨e_q4_0, ee⟩ := List.cons.inj ee
  obtain ⟨e_q4_1, ee⟩ := List.cons.inj ee
  obtain ⟨e_q4_2, ee⟩ := List.cons.inj ee
  obtain ⟨e_q4_3, ee⟩ := List.cons.inj ee
  obtain ⟨e_q4_4, ee⟩ := List.cons.inj ee
  obtain ⟨e_x4_0, ee⟩ := List.cons.inj ee
  obtain ⟨e_x4_1, ee⟩ := List.cons.inj ee
  obtain ⟨e_x4_2, ee⟩ := List.cons.inj ee
  obtain ⟨e_x4_3, ee⟩ := List.cons.inj ee
  obtain ⟨e_t4, ee⟩ := List.cons.inj ee
  obtain ⟨e_k5, ee⟩ := List.cons.inj ee
  obtain ⟨e_l5, ee⟩ := List.cons.inj ee
  obtain ⟨e_m5, ee⟩ := List.cons.inj ee
  obtain ⟨e_h5, ee⟩ := List.cons.inj ee
  obtain ⟨e_q5_0, ee⟩ := List.cons.inj ee
  obtain ⟨e_q5_1, ee⟩ := List.cons.inj ee
  obtain ⟨e_q5_2, ee⟩ := List.cons.inj ee
  obtain ⟨e_q5_3, ee⟩ := List.cons.inj ee
  obtain ⟨e_q5_4, ee⟩ := List.cons.inj ee
  obtain ⟨e_q5_5, ee⟩ := List.cons.inj ee
  obtain ⟨e_x5_0, ee⟩ := List.cons.inj ee
  obtain ⟨e_x5_1, ee⟩ := List.cons.inj ee
  obtain ⟨e_x5_2, ee⟩ := List.cons.inj ee
  obtain ⟨e_x5_3, ee⟩ := List.cons.inj ee
  obtain ⟨e_x5_4, ee⟩ := List.cons.inj ee
  obtain ⟨e_t5, ee⟩ := List.cons.inj ee
  obtain ⟨e_k6, ee⟩ := List.cons.inj ee
  obtain ⟨e_l6, ee⟩ := List.cons.inj ee
  obtain ⟨e_m6, ee⟩ := List.cons.inj ee
  obtain ⟨e_h6, ee⟩ := List.cons.inj ee
  obtain ⟨e_q6_0, ee⟩ := List.cons.inj ee
  obtain ⟨e_q6_1, ee⟩ := List.cons.inj ee
  obtain ⟨e_q6_2, ee⟩ := List.cons.inj ee
  obtain ⟨e_q6_3, ee⟩ := List.cons.inj ee
  obtain ⟨e_q6_4, ee⟩ := List.cons.inj ee
  obtain ⟨e_q6_5, ee⟩ := List.cons.inj ee
  obtain ⟨e_q6_6, ee⟩ := List.cons.inj ee
  obtain ⟨e_x6_0, ee⟩ := List.cons.inj ee
  obtain ⟨e_x6_1, ee⟩ := List.cons.inj ee
  obtain ⟨e_x6_2, ee⟩ := List.cons.inj ee
  obtain ⟨e_x6_3, ee⟩ := List.cons.inj ee
  obtain ⟨e_x6_4, ee⟩ := List.cons.inj ee
  obtain ⟨e_x6_5, ee⟩ := List.cons.inj ee
  obtain ⟨e_t6, ee⟩ := List.cons.inj ee
  obtain ⟨e_k7, ee⟩ := List.cons.inj ee
  obtain ⟨e_l7, ee⟩ := List.cons.inj ee
  obtain ⟨e_m7, ee⟩ := List.cons.inj ee
  obtain ⟨e_h7, ee⟩ := List.cons.inj ee
  obtain ⟨e_q7_0, ee⟩ := List.cons.inj ee
  obtain ⟨e_q7_1, ee⟩ := List.cons.inj ee
  obtain ⟨e_q7_2, ee⟩ := List.cons.inj ee
  obtain ⟨e_q7_3, ee⟩ := List.cons.inj ee
  obtain ⟨e_q7_4, ee⟩ := List.cons.inj ee
  obtain ⟨e_q7_5, ee⟩ := List.cons.inj ee
  obtain ⟨e_q7_6, ee⟩ := List.cons.inj ee
  obtain ⟨e_q7_7, ee⟩ := List.cons.inj ee
  obtain ⟨e_x7_0, ee⟩ := List.cons.inj ee
  obtain ⟨e_x7_1, ee⟩ := List.cons.inj ee
  obtain ⟨e_x7_2, ee⟩ := List.cons.inj ee
  obtain ⟨e_x7_3, ee⟩ := List.cons.inj ee
  obtain ⟨e_x7_4, ee⟩ := List.cons.inj ee
  obtain ⟨e_x7_5, ee⟩ := List.cons.inj ee
  obtain ⟨e_x7_6, ee⟩ := List.cons.inj ee
  obtain ⟨e_t7, ee⟩ := List.cons.inj ee
  obtain ⟨e_f, ee⟩ := List.cons.inj ee
  obtain ⟨e_g, ee⟩ := List.cons.inj ee
  obtain ⟨ek0, ek⟩ := List.cons.inj ek
  obtain ⟨ek1, ek⟩ := List.cons.inj ek
  obtain ⟨ek2, ek⟩ := List.cons.inj ek
  obtain ⟨ek3, ek⟩ := List.cons.inj ek
  obtain ⟨ek4, ek⟩ := List.cons.inj ek
  obtain ⟨ek5, ek⟩ := List.cons.inj ek
  obtain ⟨ek6, ek⟩ := List.cons.inj ek
  obtain ⟨ek7, ek⟩ := List.cons.inj ek
  obtain ⟨eb0, eb⟩ := List.cons.inj eb
  obtain ⟨eb1, eb⟩ := List.cons.inj eb
  obtain ⟨eb2, eb⟩ := List.cons.inj eb
  obtain ⟨eb3, eb⟩ := List.cons.inj eb
  obtain ⟨eb4, eb⟩ := List.cons.inj eb
  obtain ⟨eb5, eb⟩ := List.cons.inj eb
  obtain ⟨eb6, eb⟩ := List.cons.inj eb
  obtain ⟨eb7, eb⟩ := List.cons.inj eb
  have D_a := sg_does (h_a.trans (congrArg some e_a)) (iU)
  have D_b := sg_does (h_b.trans (congrArg some e_b)) (iBf)
  have D_c := sg_does (h_c.trans (congrArg some e_c)) (iU)
  have D_d := sg_does (h_d.trans (congrArg some e_d)) (iA)
  have D_e := sg_does (h_e.trans (congrArg some e_e)) (iP)
  have D_k0 := sg_does (h_k0.trans (congrArg some e_k0)) (iU)
  have D_l0 := sg_does (h_l0.trans (congrArg some e_l0)) (iS)
  have D_m0 := sg_does (h_m0.trans (congrArg some e_m0)) (iT)
  obtain ⟨t0k, f0k⟩ := iI eb0
  have D_h0 := sg_does (h_h0.trans (congrArg some e_h0)) (fun b q => iV b ((q.trans (congrArg (·.1) e_h0).symm).trans f0k))
  have D_q0_0 := sg_does (h_q0_0.trans (congrArg some e_q0_0)) (iBt)
  have D_t0 := sg_does (h_t0.trans (congrArg some e_t0)) (iU)
  have D_k1 := sg_does (h_k1.trans (congrArg some e_k1)) (iU)
  have D_l1 := sg_does (h_l1.trans (congrArg some e_l1)) (iS)
  have D_m1 := sg_does (h_m1.trans (congrArg some e_m1)) (iT)
  obtain ⟨t1k, f1k⟩ := iI eb1
  have D_h1 := sg_does (h_h1.trans (congrArg some e_h1)) (fun b q => iV b ((q.trans (congrArg (·.1) e_h1).symm).trans f1k))
  have D_q1_0 := sg_does (h_q1_0.trans (congrArg some e_q1_0)) (iBt)
  have D_q1_1 := sg_does (h_q1_1.trans (congrArg some e_q1_1)) (iBt)
  have D_x1_0 := sg_does (h_x1_0.trans (congrArg some e_x1_0)) (iBf)
  have D_t1 := sg_does (h_t1.trans (congrArg some e_t1)) (iU)
  have D_k2 := sg_does (h_k2.trans (congrArg some e_k2)) (iU)
  have D_l2 := sg_does (h_l2.trans (congrArg some e_l2)) (iS)
  have D_m2 := sg_does (h_m2.trans (congrArg some e_m2)) (iT)
  obtain ⟨t2k, f2k⟩ := iI eb2
  have D_h2 := sg_does (h_h2.trans (congrArg some e_h2)) (fun b q => iV b ((q.trans (congrArg (·.1) e_h2).symm).trans f2k))
  have D_q2_0 := sg_does (h_q2_0.trans (congrArg some e_q2_0)) (iBt)
  have D_q2_1 := sg_does (h_q2_1.trans (congrArg some e_q2_1)) (iBt)
  have D_q2_2 := sg_does (h_q2_2.trans (congrArg some e_q2_2)) (iBt)
  have D_x2_0 := sg_does (h_x2_0.trans (congrArg some e_x2_0)) (iBf)
  have D_x2_1 := sg_does (h_x2_1.trans (congrArg some e_x2_1)) (iBf)
  have D_t2 := sg_does (h_t2.trans (congrArg some e_t2)) (iU)
  have D_k3 := sg_does (h_k3.trans (congrArg some e_k3)) (iU)
  have D_l3 := sg_does (h_l3.trans (congrArg some e_l3)) (iS)
  have D_m3 := sg_does (h_m3.trans (congrArg some e_m3)) (iT)
  obtain ⟨t3k, f3k⟩ := iI eb3
  have D_h3 := sg_does (h_h3.trans (congrArg some e_h3)) (fun b q => iV b ((q.trans (congrArg (·.1) e_h3).symm).trans f3k))
  have D_q3_0 := sg_does (h_q3_0.trans (congrArg some e_q3_0)) (iBt)
  have D_q3_1 := sg_does (h_q3_1.trans (congrArg some e_q3_1)) (iBt)
  have D_q3_2 := sg_does (h_q3_2.trans (congrArg some e_q3_2)) (iBt)
  have D_q3_3 := sg_does (h_q3_3.trans (congrArg some e_q3_3)) (iBt)
  have D_x3_0 := sg_does (h_x3_0.trans (congrArg some e_x3_0)) (iBf)
  have D_x3_1 := sg_does (h_x3_1.trans (congrArg some e_x3_1)) (iBf)
  have D_x3_2 := sg_does (h_x3_2.trans (congrArg some e_x3_2)) (iBf)
  have D_t3 := sg_does (h_t3.trans (congrArg some e_t3)) (iU)
  have D_k4 := sg_does (h_k4.trans (congrArg some e_k4)) (iU)
  have D_l4 := sg_does (h_l4.trans (congrArg some e_l4)) (iS)
  have D_m4 := sg_does (h_m4.trans (congrArg some e_m4)) (iT)
  obtain ⟨t4k, f4k⟩ := iI eb4
  have D_h4 := sg_does (h_h4.trans (congrArg some e_h4)) (fun b q => iV b ((q.trans (congrArg (·.1) e_h4).symm).trans f4k))
  have D_q4_0 := sg_does (h_q4_0.trans (congrArg some e_q4_0)) (iBt)
  have D_q4_1 := sg_does (h_q4_1.trans (congrArg some e_q4_1)) (iBt)
  have D_q4_2 := sg_does (h_q4_2.trans (congrArg some e_q4_2)) (iBt)
  have D_q4_3 := sg_does (h_q4_3.trans (congrArg some e_q4_3)) (iBt)
  have D_q4_4 := sg_does (h_q4_4.trans (congrArg some e_q4_4)) (iBt)
  have D_x4_0 := sg_does (h_x4_0.trans (congrArg some e_x4_0)) (iBf)
  have D_x4_1 := sg_does (h_x4_1.trans (congrArg some e_x4_1)) (iBf)
  have D_x4_2 := sg_does (h_x4_2.trans (congrArg some e_x4_2)) (iBf)
  have D_x4_3 := sg_does (h_x4_3.trans (congrArg some e_x4_3)) (iBf)
  have D_t4 := sg_does (h_t4.trans (congrArg some e_t4)) (iU)
  have D_k5 := sg_does (h_k5.trans (congrArg some e_k5)) (iU)
  have D_l5 := sg_does (h_l5.trans (congrArg some e_l5)) (iS)
  have D_m5 := sg_does (h_m5.trans (congrArg some e_m5)) (iT)
  obtain ⟨t5k, f5k⟩ := iI eb5
  have D_h5 := sg_does (h_h5.trans (congrArg some e_h5)) (fun b q => iV b ((q.trans (congrArg (·.1) e_h5).symm).trans f5k))
  have D_q5_0 := sg_does (h_q5_0.trans (congrArg some e_q5_0)) (iBt)
  have D_q5_1 := sg_does (h_q5_1.trans (congrArg some e_q5_1)) (iBt)
  have D_q5_2 := sg_does (h_q5_2.trans (congrArg some e_q5_2)) (iBt)
  have D_q5_3 := sg_does (h_q5_3.trans (congrArg some e_q5_3)) (iBt)
  have D_q5_4 := sg_does (h_q5_4.trans (congrArg some e_q5_4)) (iBt)
  have D_q5_5 := sg_does (h_q5_5.trans (congrArg some e_q5_5)) (iBt)
  have D_x5_0 := sg_does (h_x5_0.trans (congrArg some e_x5_0)) (iBf)
  have D_x5_1 := sg_does (h_x5_1.trans (congrArg some e_x5_1)) (iBf)
  have D_x5_2 := sg_does (h_x5_2.trans (congrArg some e_x5_2)) (iBf)
  have D_x5_3 := sg_does (h_x5_3.trans (congrArg some e_x5_3)) (iBf)
  have D_x5_4 := sg_does (h_x5_4.trans (congrArg some e_x5_4)) (iBf)
  have D_t5 := sg_does (h_t5.trans (congrArg some e_t5)) (iU)
  have D_k6 := sg_does (h_k6.trans (congrArg some e_k6)) (iU)
  have D_l6 := sg_does (h_l6.trans (congrArg some e_l6)) (iS)
  have D_m6 := sg_does (h_m6.trans (congrArg some e_m6)) (iT)
  obtain ⟨t6k, f6k⟩ := iI eb6
  have D_h6 := sg_does (h_h6.trans (congrArg some e_h6)) (fun b q => iV b ((q.trans (congrArg (·.1) e_h6).symm).trans f6k))
  have D_q6_0 := sg_does (h_q6_0.trans (congrArg some e_q6_0)) (iBt)
  have D_q6_1 := sg_does (h_q6_1.trans (congrArg some e_q6_1)) (iBt)
  have D_q6_2 := sg_does (h_q6_2.trans (congrArg some e_q6_2)) (iBt)
  have D_q6_3 := sg_does (h_q6_3.trans (congrArg some e_q6_3)) (iBt)
  have D_q6_4 := sg_does (h_q6_4.trans (congrArg some e_q6_4)) (iBt)
  have D_q6_5 := sg_does (h_q6_5.trans (congrArg some e_q6_5)) (iBt)
  have D_q6_6 := sg_does (h_q6_6.trans (congrArg some e_q6_6)) (iBt)
  have D_x6_0 := sg_does (h_x6_0.trans (congrArg some e_x6_0)) (iBf)
  have D_x6_1 := sg_does (h_x6_1.trans (congrArg some e_x6_1)) (iBf)
  have D_x6_2 := sg_does (h_x6_2.trans (congrArg some e_x6_2)) (iBf)
  have D_x6_3 := sg_does (h_x6_3.trans (congrArg some e_x6_3)) (iBf)
  have D_x6_4 := sg_does (h_x6_4.trans (congrArg some e_x6_4)) (iBf)
  have D_x6_5 := sg_does (h_x6_5.trans (congrArg some e_x6_5)) (iBf)
  have D_t6 := sg_does (h_t6.trans (congrArg some e_t6)) (iU)
  have D_k7 := sg_does (h_k7.trans (congrArg some e_k7)) (iU)
  have D_l7 := sg_does (h_l7.trans (congrArg some e_l7)) (iS)
  have D_m7 := sg_does (h_m7.trans (congrArg some e_m7)) (iT)
  obtain ⟨t7k, f7k⟩ := iI eb7
  have D_h7 := sg_does (h_h7.trans (congrArg some e_h7)) (fun b q => iV b ((q.trans (congrArg (·.1) e_h7).symm).trans f7k))
  have D_q7_0 := sg_does (h_q7_0.trans (congrArg some e_q7_0)) (iBt)
  have D_q7_1 := sg_does (h_q7_1.trans (congrArg some e_q7_1)) (iBt)
  have D_q7_2 := sg_does (h_q7_2.trans (congrArg some e_q7_2)) (iBt)
  have D_q7_3 := sg_does (h_q7_3.trans (congrArg some e_q7_3)) (iBt)
  have D_q7_4 := sg_does (h_q7_4.trans (congrArg some e_q7_4)) (iBt)
  have D_q7_5 := sg_does (h_q7_5.trans (congrArg some e_q7_5)) (iBt)
  have D_q7_6 := sg_does (h_q7_6.trans (congrArg some e_q7_6)) (iBt)
  have D_q7_7 := sg_does (h_q7_7.trans (congrArg some e_q7_7)) (iBt)
  have D_x7_0 := sg_does (h_x7_0.trans (congrArg some e_x7_0)) (iBf)
  have D_x7_1 := sg_does (h_x7_1.trans (congrArg some e_x7_1)) (iBf)
  have D_x7_2 := sg_does (h_x7_2.trans (congrArg some e_x7_2)) (iBf)
  have D_x7_3 := sg_does (h_x7_3.trans (congrArg some e_x7_3)) (iBf)
  have D_x7_4 := sg_does (h_x7_4.trans (congrArg some e_x7_4)) (iBf)
  have D_x7_5 := sg_does (h_x7_5.trans (congrArg some e_x7_5)) (iBf)
  have D_x7_6 := sg_does (h_x7_6.trans (congrArg some e_x7_6)) (iBf)
  have D_t7 := sg_does (h_t7.trans (congrArg some e_t7)) (iU)
  have D_f := sg_does (h_f.trans (congrArg some e_f)) (iO)
  have D_g := sg_does (h_g.trans (congrArg some e_g)) (fun b h => h)
  rw [← roomQ_eq] at D_k0
  rw [← spQ_eq] at D_l0
  rw [← bsQ_eq] at D_m0
  rw [← callQ_eq] at D_h0
  rw [← quQ_eq] at D_q0_0
  unfold tailQ at D_t0; rw [← udQ_eq] at D_t0
  rw [← roomQ_eq] at D_k1
  rw [← spQ_eq] at D_l1
  rw [← bsQ_eq] at D_m1
  rw [← callQ_eq] at D_h1
  rw [← quQ_eq] at D_q1_0
  rw [← quQ_eq] at D_q1_1
  rw [← eqQ_eq] at D_x1_0
  unfold tailQ at D_t1; rw [← udQ_eq] at D_t1
  rw [← roomQ_eq] at D_k2
  rw [← spQ_eq] at D_l2
  rw [← bsQ_eq] at D_m2
  rw [← callQ_eq] at D_h2
  rw [← quQ_eq] at D_q2_0
  rw [← quQ_eq] at D_q2_1
  rw [← quQ_eq] at D_q2_2
  rw [← eqQ_eq] at D_x2_0
  rw [← eqQ_eq] at D_x2_1
  unfold tailQ at D_t2; rw [← udQ_eq] at D_t2
  rw [← roomQ_eq] at D_k3
  rw [← spQ_eq] at D_l3
  rw [← bsQ_eq] at D_m3
  rw [← callQ_eq] at D_h3
  rw [← quQ_eq] at D_q3_0
  rw [← quQ_eq] at D_q3_1
  rw [← quQ_eq] at D_q3_2
  rw [← quQ_eq] at D_q3_3
  rw [← eqQ_eq] at D_x3_0
  rw [← eqQ_eq] at D_x3_1
  rw [← eqQ_eq] at D_x3_2
  unfold tailQ at D_t3; rw [← udQ_eq] at D_t3
  rw [← roomQ_eq] at D_k4
  rw [← spQ_eq] at D_l4
  rw [← bsQ_eq] at D_m4
  rw [← callQ_eq] at D_h4
  rw [← quQ_eq] at D_q4_0
  rw [← quQ_eq] at D_q4_1
  rw [← quQ_eq] at D_q4_2
  rw [← quQ_eq] at D_q4_3
  rw [← quQ_eq] at D_q4_4
  rw [← eqQ_eq] at D_x4_0
  rw [← eqQ_eq] at D_x4_1
  rw [← eqQ_eq] at D_x4_2
  rw [← eqQ_eq] at D_x4_3
  unfold tailQ at D_t4; rw [← udQ_eq] at D_t4
  rw [← roomQ_eq] at D_k5
  rw [← spQ_eq] at D_l5
  rw [← bsQ_eq] at D_m5
  rw [← callQ_eq] at D_h5
  rw [← quQ_eq] at D_q5_0
  rw [← quQ_eq] at D_q5_1
  rw [← quQ_eq] at D_q5_2
  rw [← quQ_eq] at D_q5_3
  rw [← quQ_eq] at D_q5_4
  rw [← quQ_eq] at D_q5_5
  rw [← eqQ_eq] at D_x5_0
  rw [← eqQ_eq] at D_x5_1
  rw [← eqQ_eq] at D_x5_2
  rw [← eqQ_eq] at D_x5_3
  rw [← eqQ_eq] at D_x5_4
  unfold tailQ at D_t5; rw [← udQ_eq] at D_t5
  rw [← roomQ_eq] at D_k6
  rw [← spQ_eq] at D_l6
  rw [← bsQ_eq] at D_m6
  rw [← callQ_eq] at D_h6
  rw [← quQ_eq] at D_q6_0
  rw [← quQ_eq] at D_q6_1
  rw [← quQ_eq] at D_q6_2
  rw [← quQ_eq] at D_q6_3
  rw [← quQ_eq] at D_q6_4
  rw [← quQ_eq] at D_q6_5
  rw [← quQ_eq] at D_q6_6
  rw [← eqQ_eq] at D_x6_0
  rw [← eqQ_eq] at D_x6_1
  rw [← eqQ_eq] at D_x6_2
  rw [← eqQ_eq] at D_x6_3
  rw [← eqQ_eq] at D_x6_4
  rw [← eqQ_eq] at D_x6_5
  unfold tailQ at D_t6; rw [← udQ_eq] at D_t6
  rw [← roomQ_eq] at D_k7
  rw [← spQ_eq] at D_l7
  rw [← bsQ_eq] at D_m7
  rw [← callQ_eq] at D_h7
  rw [← quQ_eq] at D_q7_0
  rw [← quQ_eq] at D_q7_1
  rw [← quQ_eq] at D_q7_2
  rw [← quQ_eq] at D_q7_3
  rw [← quQ_eq] at D_q7_4
  rw [← quQ_eq] at D_q7_5
  rw [← quQ_eq] at D_q7_6
  rw [← quQ_eq] at D_q7_7
  rw [← eqQ_eq] at D_x7_0
  rw [← eqQ_eq] at D_x7_1
  rw [← eqQ_eq] at D_x7_2
  rw [← eqQ_eq] at D_x7_3
  rw [← eqQ_eq] at D_x7_4
  rw [← eqQ_eq] at D_x7_5
  rw [← eqQ_eq] at D_x7_6
  unfold tailQ at D_t7; rw [← udQ_eq] at D_t7
  obtain ⟨o0, es0, ep0, go0, gd0, gl0⟩ := keysAt_ok ek0
  have S_0 : Dz w lvB 800000 (dictSet 167 (.ref 168) (.bool true)) e.2.1 e.2.2.2 () t0.2.1 t0.2.2.2 := by
    refine Go.set_ (Go.hash D_k0 D_l0 D_m0 D_h0) (by rw [keys_size gl0]; decide) go0 gd0 (fun u hu => ?_) D_q0_0 D_t0
    have hm := keys_mem gl0 hu
    exact absurd hm (by simp)
  obtain ⟨o1, es1, ep1, go1, gd1, gl1⟩ := keysAt_ok ek1
  have S_1 : Dz w lvB 800000 (dictSet 167 (.ref 169) (.bool true)) t0.2.1 t0.2.2.2 () t1.2.1 t1.2.2.2 := by
    refine Go.set_ (Go.hash D_k1 D_l1 D_m1 D_h1) (by rw [keys_size gl1]; decide) go1 gd1 (fun u hu => ?_) D_q1_1 D_t1
    have hm := keys_mem gl1 hu
    simp only [List.mem_cons, List.not_mem_nil, or_false] at hm
    have z := hm
    · rw [z]; exact ⟨168, rfl, by decide, D_q1_0, D_x1_0⟩
  obtain ⟨o2, es2, ep2, go2, gd2, gl2⟩ := keysAt_ok ek2
  have S_2 : Dz w lvB 800000 (dictSet 167 (.ref 170) (.bool true)) t1.2.1 t1.2.2.2 () t2.2.1 t2.2.2.2 := by
    refine Go.set_ (Go.hash D_k2 D_l2 D_m2 D_h2) (by rw [keys_size gl2]; decide) go2 gd2 (fun u hu => ?_) D_q2_2 D_t2
    have hm := keys_mem gl2 hu
    simp only [List.mem_cons, List.not_mem_nil, or_false] at hm
    rcases hm with z | z
    · rw [z]; exact ⟨168, rfl, by decide, D_q2_0, D_x2_0⟩
    · rw [z]; exact ⟨169, rfl, by decide, D_q2_1, D_x2_1⟩
  obtain ⟨o3, es3, ep3, go3, gd3, gl3⟩ := keysAt_ok ek3
  have S_3 : Dz w lvB 800000 (dictSet 167 (.ref 171) (.bool true)) t2.2.1 t2.2.2.2 () t3.2.1 t3.2.2.2 := by
    refine Go.set_ (Go.hash D_k3 D_l3 D_m3 D_h3) (by rw [keys_size gl3]; decide) go3 gd3 (fun u hu => ?_) D_q3_3 D_t3
    have hm := keys_mem gl3 hu
    simp only [List.mem_cons, List.not_mem_nil, or_false] at hm
    rcases hm with z | z | z
    · rw [z]; exact ⟨168, rfl, by decide, D_q3_0, D_x3_0⟩
    · rw [z]; exact ⟨169, rfl, by decide, D_q3_1, D_x3_1⟩
    · rw [z]; exact ⟨170, rfl, by decide, D_q3_2, D_x3_2⟩
  obtain ⟨o4, es4, ep4, go4, gd4, gl4⟩ := keysAt_ok ek4
  have S_4 : Dz w lvB 800000 (dictSet 167 (.ref 172) (.bool true)) t3.2.1 t3.2.2.2 () t4.2.1 t4.2.2.2 := by
    refine Go.set_ (Go.hash D_k4 D_l4 D_m4 D_h4) (by rw [keys_size gl4]; decide) go4 gd4 (fun u hu => ?_) D_q4_4 D_t4
    have hm := keys_mem gl4 hu
    simp only [List.mem_cons, List.not_mem_nil, or_false] at hm
    rcases hm with z | z | z | z
    · rw [z]; exact ⟨168, rfl, by decide, D_q4_0, D_x4_0⟩
    · rw [z]; exact ⟨169, rfl, by decide, D_q4_1, D_x4_1⟩
    · rw [z]; exact ⟨170, rfl, by decide, D_q4_2, D_x4_2⟩
    · rw [z]; exact ⟨171, rfl, by decide, D_q4_3, D_x4_3⟩
  obtain ⟨o5, es5, ep5, go5, gd5, gl5⟩ := keysAt_ok ek5
  have S_5 : Dz w lvB 800000 (dictSet 167 (.ref 173) (.bool true)) t4.2.1 t4.2.2.2 () t5.2.1 t5.2.2.2 := by
    refine Go.set_ (Go.hash D_k5 D_l5 D_m5 D_h5) (by rw [keys_size gl5]; decide) go5 gd5 (fun u hu => ?_) D_q5_5 D_t5
    have hm := keys_mem gl5 hu
    simp only [List.mem_cons, List.not_mem_nil, or_false] at hm
    rcases hm with z | z | z | z | z
    · rw [z]; exact ⟨168, rfl, by decide, D_q5_0, D_x5_0⟩
    · rw [z]; exact ⟨169, rfl, by decide, D_q5_1, D_x5_1⟩
    · rw [z]; exact ⟨170, rfl, by decide, D_q5_2, D_x5_2⟩
    · rw [z]; exact ⟨171, rfl, by decide, D_q5_3, D_x5_3⟩
    · rw [z]; exact ⟨172, rfl, by decide, D_q5_4, D_x5_4⟩
  obtain ⟨o6, es6, ep6, go6, gd6, gl6⟩ := keysAt_ok ek6
  have S_6 : Dz w lvB 800000 (dictSet 167 (.ref 174) (.bool true)) t5.2.1 t5.2.2.2 () t6.2.1 t6.2.2.2 := by
    refine Go.set_ (Go.hash D_k6 D_l6 D_m6 D_h6) (by rw [keys_size gl6]; decide) go6 gd6 (fun u hu => ?_) D_q6_6 D_t6
    have hm := keys_mem gl6 hu
    simp only [List.mem_cons, List.not_mem_nil, or_false] at hm
    rcases hm with z | z | z | z | z | z
    · rw [z]; exact ⟨168, rfl, by decide, D_q6_0, D_x6_0⟩
    · rw [z]; exact ⟨169, rfl, by decide, D_q6_1, D_x6_1⟩
    · rw [z]; exact ⟨170, rfl, by decide, D_q6_2, D_x6_2⟩
    · rw [z]; exact ⟨171, rfl, by decide, D_q6_3, D_x6_3⟩
    · rw [z]; exact ⟨172, rfl, by decide, D_q6_4, D_x6_4⟩
    · rw [z]; exact ⟨173, rfl, by decide, D_q6_5, D_x6_5⟩
  obtain ⟨o7, es7, ep7, go7, gd7, gl7⟩ := keysAt_ok ek7
  have S_7 : Dz w lvB 800000 (dictSet 167 (.ref 175) (.bool true)) t6.2.1 t6.2.2.2 () t7.2.1 t7.2.2.2 := by
    refine Go.set_ (Go.hash D_k7 D_l7 D_m7 D_h7) (by rw [keys_size gl7]; decide) go7 gd7 (fun u hu => ?_) D_q7_7 D_t7
    have hm := keys_mem gl7 hu
    simp only [List.mem_cons, List.not_mem_nil, or_false] at hm
    rcases hm with z | z | z | z | z | z | z
    · rw [z]; exact ⟨168, rfl, by decide, D_q7_0, D_x7_0⟩
    · rw [z]; exact ⟨169, rfl, by decide, D_q7_1, D_x7_1⟩
    · rw [z]; exact ⟨170, rfl, by decide, D_q7_2, D_x7_2⟩
    · rw [z]; exact ⟨171, rfl, by decide, D_q7_3, D_x7_3⟩
    · rw [z]; exact ⟨172, rfl, by decide, D_q7_4, D_x7_4⟩
    · rw [z]; exact ⟨173, rfl, by decide, D_q7_5, D_x7_5⟩
    · rw [z]; exact ⟨174, rfl, by decide, D_q7_6, D_x7_6⟩
  refine ⟨?_, ?_⟩
  · rw [hashOf_of e_h0, hashOf_of e_h1, hashOf_of e_h2, hashOf_of e_h3, hashOf_of e_h4, hashOf_of e_h5, hashOf_of e_h6, hashOf_of e_h7]
  refine ⟨r, hr, congrArg (·.1) e_r, congrArg (·.2.2.1) e_r, congrArg (·.1) e_g, congrArg (·.2.2.1) e_g, ?_⟩
  refine Go.le (m1 := 3000 + (3000 + ((3000 + ((3000 + ((3000 + 8 * 900000) + 0)) + 0)) + (3000 + 3000)))) (Go.bind D_a (Go.bind D_b ?_)) (by decide)
  rw [if_neg (by simp)]
  refine Go.bind (a := .ref 167) (s1 := t7.2.1.abs) (p1 := t7.2.2.2) ?_ (Go.bind D_f D_g)
  refine Go.bind D_c ?_
  show Dz w id _ (dictDisplay ((evalEachOpt dKeys env).zip ((evalEach dVals env).map fun v => v >>= fun x => standAt posD >>= fun _ => Pure.pure x))) _ _ _ _ _
  rw [shown]
  refine Go.bind (a := 167) (s1 := t7.2.1.abs) (p1 := t7.2.2.2) ?_ Go.pure'
  unfold subDict
  refine Go.bind D_d ?_
  refine Go.bind (a := ()) (s1 := t7.2.1.abs) (p1 := t7.2.2.2) ?_ Go.pure'
  refine Go.hold (refs := [.ref 167]) rfl ?_
  rw [if_pos (show pairs.length ≤ 15 by decide)]
  refine Go.bind D_e ?_
  refine Go.hold (refs := [.ref 168, .ref 169, .ref 170, .ref 171, .ref 172, .ref 173, .ref 174, .ref 175]) rfl ?_
  refine Go.le (Go.bind (a := PUnit.unit) (s1 := t7.2.1.abs) (p1 := t7.2.2.2) (m1 := 7200000) ?_ Go.pure') (by decide)
  show Dz w lvB _ (forIn told PUnit.unit fun x _ => dictSet 167 x.1 x.2 >>= fun _ => Pure.pure (ForInStep.yield PUnit.unit)) _ _ _ _ _
  unfold told
  rw [List.forIn_cons]
  refine Go.le (m1 := 800000 + 0 + 6300000) (Go.bind (a := ForInStep.yield PUnit.unit) (Go.bind S_0 Go.pure') ?_) (by decide)
  dsimp only
  rw [List.forIn_cons]
  refine Go.le (m1 := 800000 + 0 + 5400000) (Go.bind (a := ForInStep.yield PUnit.unit) (Go.bind S_1 Go.pure') ?_) (by decide)
  dsimp only
  rw [List.forIn_cons]
  refine Go.le (m1 := 800000 + 0 + 4500000) (Go.bind (a := ForInStep.yield PUnit.unit) (Go.bind S_2 Go.pure') ?_) (by decide)
  dsimp only
  rw [List.forIn_cons]
  refine Go.le (m1 := 800000 + 0 + 3600000) (Go.bind (a := ForInStep.yield PUnit.unit) (Go.bind S_3 Go.pure') ?_) (by decide)
  dsimp only
  rw [List.forIn_cons]
  refine Go.le (m1 := 800000 + 0 + 2700000) (Go.bind (a := ForInStep.yield PUnit.unit) (Go.bind S_4 Go.pure') ?_) (by decide)
  dsimp only
  rw [List.forIn_cons]
  refine Go.le (m1 := 800000 + 0 + 1800000) (Go.bind (a := ForInStep.yield PUnit.unit) (Go.bind S_5 Go.pure') ?_) (by decide)
  dsimp only
  rw [List.forIn_cons]
  refine Go.le (m1 := 800000 + 0 + 900000) (Go.bind (a := ForInStep.yield PUnit.unit) (Go.bind S_6 Go.pure') ?_) (by decide)
  dsimp only
  rw [List.forIn_cons]
  refine Go.le (m1 := 800000 + 0 + 0) (Go.bind (a := ForInStep.yield PUnit.unit) (Go.bind S_7 Go.pure') ?_) (by decide)
  dsimp only
  rw [List.forIn_nil]
  exact Go.pure'
end K21H

end
set_option Elab.async false
set_option linter.all false
set_option maxRecDepth 100000
set_option maxHeartbeats 4000000
namespace Hm
open PySem PySem.Spec PyProof.Rows L2 HT

/-! ## rules that the layer lacks -/
section
variable {prog : Program} {w : World} {A : Around} {E : Value → Shared → Prop} {s : Shared}
theorem sliceApplied_back {sl : Addr} {n : Nat} {ti : Tok} {Q : Int × Int × Nat → Shared → Prop} (hs : s.heap.IsSliceOf sl .none .none (.int (-1) ti))
    (h : Q ((n : Int) - 1, -1, n) s) : wpAny (model prog w) A (Builtin.Slice.sliceApplied (.ref sl) (pure (n : Int))) Q E s := by
  obtain ⟨os, hos, hcs, hds⟩ := id hs
  unfold Builtin.Slice.sliceApplied Builtin.Slice.sliceFields
  refine wpAny_bind (wpAny_bind (wpAny_field hos hds (x := .none) rfl (wpAny_bind (wpAny_field hos hds (x := .none) rfl (wpAny_bind (wpAny_field hos hds (x := .int (-1) ti) rfl (wpAny_pure ?_)))))))
  refine wpAny_bind (slicePart_ (.int (-1) ti) ?_)
  show wpAny _ _ (if ((-1 : Int) == 0) = true then _ else _) _ _ s
  rw [if_neg (by decide)]
  refine wpAny_bind (slicePart_ .none (wpAny_bind (slicePart_ .none (wpAny_bind (wpAny_pure ?_)))))
  show wpAny _ _ (pure ((n : Int) - 1, (-1 : Int), Builtin.Slice.slicePlaces ((n : Int) - 1) (-1) (-1))) _ _ s
  have e : Builtin.Slice.slicePlaces ((n : Int) - 1) (-1) (-1) = n := by
    unfold Builtin.Slice.slicePlaces
    rw [if_neg (by decide)]
    by_cases hn : (n : Int) - 1 > -1
    · rw [if_pos hn]
      have : -(-1 : Int) = 1 := by decide
      rw [this, Int.ediv_one]
      omega
    · rw [if_neg hn]
      omega
  rw [e]
  exact wpAny_pure h
theorem fm_congr {α β : Type} {f g : α → Option β} : ∀ l : List α, (∀ x ∈ l, f x = g x) → l.filterMap f = l.filterMap g
  | [], _ => rfl
  | x :: r, h => by
    rw [List.filterMap_cons, List.filterMap_cons, h x List.mem_cons_self, fm_congr r fun y hy => h y (List.mem_cons_of_mem _ hy)]
theorem pick_back (xs : List Value) : ((List.range xs.toArray.size).filterMap fun (k : Nat) => xs.toArray[(((xs.toArray.size : Nat) : Int) - 1 + (k : Int) * -1).toNat]?).toArray = xs.reverse.toArray := by
  apply congrArg List.toArray
  have key : ∀ m : Nat, m ≤ xs.length → ((List.range m).filterMap fun (k : Nat) => xs[xs.length - 1 - k]?) = xs.reverse.take m := by
    intro m
    induction m with
    | zero => intro _; simp
    | succ m ih =>
      intro hm
      rw [List.range_succ, List.filterMap_append, ih (by omega), List.take_add_one]
      congr 1
      have hlt : xs.length - 1 - m < xs.length := by omega
      rw [List.getElem?_reverse (by omega)]
      simp [List.getElem?_eq_getElem hlt]
  have k2 := key xs.length (Nat.le_refl _)
  rw [List.take_of_length_le (by simp)] at k2
  rw [← k2, List.size_toArray]
  refine fm_congr _ fun k hk => ?_
  have hk' : k < xs.length := List.mem_range.mp hk
  have e : (((xs.length : Nat) : Int) - 1 + (k : Int) * -1).toNat = xs.length - 1 - k := by omega
  rw [e]
  simp
theorem getItem_tuple_back {t sl : Addr} {items : List Value} {ti : Tok} {Q : Value → Shared → Prop} (ht : IsTup s.heap t items.toArray) (hs : s.heap.IsSliceOf sl .none .none (.int (-1) ti))
    (h : Q (.ref s.heap.objs.size) { s with heap := s.heap.push { cls := .type "tuple", data := .seq items.reverse.toArray } })
    (hsz : items.length ≤ sizeLine) : wpAny (model prog w) A (getItem (.ref t) (.ref sl)) Q E s := by
  have htake : sizeOk (.seq items.reverse.toArray) := by
    show items.reverse.toArray.size ≤ sizeLine
    rw [List.size_toArray, List.length_reverse]
    exact hsz
  obtain ⟨os, hos, hcs, hds⟩ := id hs
  have hTs : s.TypeIs (.ref sl) "slice" := ⟨os, hos, hcs⟩
  unfold getItem
  try with_reducible refine wpAny_holding ?_
  first | refine wpAny_bind (wpAny_pure ?_) | skip
  refine wpAny_bind (wpAny_sequenceKey ht.typeIs (by decide) ?_)
  refine wpAny_bind (wpAny_callSpecial?_slot (name := Str.ofString "__getitem__") ht.typeIs PyProof.Rows.slot_tuple_getitem
    (wpAny_call_entry PyProof.Rows.slot_tuple_getitem ht.typeIs entry_tuple_getitem ?_ (args_tuple_getitem _ _)))
  show wpAny _ _ (Builtin.Tuple.tupleItemsOf (.ref t) >>= _) _ _ s
  refine wpAny_bind (tupleItemsOf_ ht ?_)
  refine wpAny_bind (wpAny_typeOf hTs ?_)
  rw [if_pos (by decide)]
  refine wpAny_bind (sliceApplied_back hs ?_)
  have hno : ¬ ((((items.toArray.size : Nat) : Int) - 1 == 0 && (-1 : Int) == 1 && items.toArray.size == items.toArray.size) = true) := by
    intro q
    rw [Bool.and_eq_true, Bool.and_eq_true] at q
    exact absurd q.1.2 (by decide)
  show wpAny _ _ (if (((items.toArray.size : Nat) : Int) - 1 == 0 && (-1 : Int) == 1 && items.toArray.size == items.toArray.size) = true then _ else _) _ _ s
  rw [if_neg hno, pick_back]
  first
    | exact wpAny_bind (m := Builtin.Tuple.tupleExact _) (wpAny_newObj_type (wpAny_pure ⟨_, rfl, wpAny_pure h⟩) htake)
    | exact wpAny_bind (m := Builtin.Tuple.tupleExact _) (wpAny_newObj_type (wpAny_bind (wpAny_pure (wpAny_pure ⟨_, rfl, wpAny_pure h⟩))) htake)
    | exact wpAny_bind (wpAny_bind (m := Builtin.Tuple.tupleExact _) (wpAny_newObj_type (wpAny_pure (wpAny_pure ⟨_, rfl, wpAny_pure h⟩)) htake))
    | exact wpAny_bind (wpAny_bind (m := Builtin.Tuple.tupleExact _) (wpAny_newObj_type (wpAny_pure ⟨_, rfl, wpAny_pure h⟩) htake))
end

/-- t[::-1] of a tuple -/
def tRevT (K : PySem.W.Frag) (te : TE) : TE := fun σ H Q => te σ H fun x H1 => ∃ a xs, x = .ref a ∧ SqT K H1 a xs ∧ ∀ p, H1 p = none → Q (.ref p) (upd H1 p (.tup xs.reverse))
section
variable {X : Cx}
theorem pe_revT {e : Expr} {te : TE} {k : Nat} {p1 p2 p3 pos : Pos} (he : PE X e te) : PE X (.Subscript e (.Slice none none (some (.UnaryOp .USub (.Constant (.int 1) k p1) p2)) p3) pos) (tRevT X.K te) := by
  refine ⟨fun pins s σ H Q I h => ?_⟩
  refine Subscript_ (thn (he.run pins s σ H _ I h) fun v s1 ⟨x, H1, I1, r1, q1⟩ => ?_)
  obtain ⟨a, xs, ex, hx, q⟩ := q1
  subst ex
  cases r1
  have hst : PO X (some (.UnaryOp .USub (.Constant (.int 1) k p1) p2)) (tPart (tUn (rU fun i => .int (-i)) (tC (.int 1)))) := po_some (pe_un un_neg pe_int)
  refine wpAny_Slice (thn (po_none.run pins s1 σ H1 (fun o H2 => o = none ∧ H2 = H1) I1 ⟨rfl, rfl⟩) fun vl s2 ⟨l, H2, I2, pl, el, e2⟩ => ?_)
  subst el e2
  refine thn (po_none.run pins s2 σ H2 (fun o H3 => o = none ∧ H3 = H2) I2 ⟨rfl, rfl⟩) fun vu s3 ⟨u, H3, I3, pu, eu, e3⟩ => ?_
  subst eu e3
  refine thn (hst.run pins s3 σ H3 (fun o H4 => o = some (-1) ∧ H4 = H3) I3 ⟨1, rfl, -1, rfl, rfl, rfl⟩) fun vs s4 ⟨o, H4, I4, ps, eo, e4⟩ => ?_
  subst eo e4
  cases pl
  cases pu
  obtain ⟨ti, rfl⟩ : ∃ ti, vs = Value.int (-1) ti := by
    cases ps
    exact ⟨_, rfl⟩
  have I5 : Inv X pins σ H4 { s4 with heap := s4.heap.push { cls := .type "slice", data := .fields #[Value.none, Value.none, Value.int (-1) ti] } } := I4.kept (t' := s4.toks) fun b ob q => Heap.get?_push_of_some _ q
  obtain ⟨its, r, ht, hz⟩ := I5.tuple hx
  have hlen := r.length
  show wpAny (model X.prog X.w) X.A (subscriptTail e (.Slice none none (some (.UnaryOp .USub (.Constant (.int 1) k p1) p2)) p3) (.ref a) (.ref s4.heap.objs.size)) (EP X pins σ Q) X.xe { s4 with heap := s4.heap.push { cls := .type "slice", data := .fields #[Value.none, Value.none, Value.int (-1) ti] } }
  refine tail_any (ops := [.ref a, .ref s4.heap.objs.size]) ht.typeIs (PyProof.Rows.slot_tuple_getitem.lookup) ?_ (by with_unfolding_all rfl)
  refine getItem_tuple_back ht (Heap.IsSliceOf.new _ Value.none Value.none (Value.int (-1) ti)) ?_ (by rw [← hlen]; exact hz)
  refine ⟨.ref _, _, I5.laid (t' := s4.toks) (o := .tup xs.reverse) (fun b ob q => Heap.get?_push_of_some _ q) (Nat.le_refl _) ?_, rfl, q _ (I5.hok.fresh (Nat.le_refl _))⟩
  exact ⟨by rw [List.length_reverse]; exact hz, _, r.reverse, IsTup.new _ _⟩
end

/-! ### xs[:-m-1:-1] of a list: the last m, the last one first -/
def tBackL (K : PySem.W.Frag) (te tu : TE) : TE := fun σ H Q => te σ H fun x H1 => tPart tu σ H1 fun o H2 => ∃ (a : Addr) (xs : List V) (m : Nat), x = .ref a ∧ o = some (-(m : Int) - 1) ∧ SqL K H2 a xs ∧ m ≤ xs.length ∧ ∀ p, H2 p = none → Q (.ref p) (upd H2 p (.lst (xs.drop (xs.length - m)).reverse))
theorem back_bounds (n m : Nat) (h : m ≤ n) : sliceBounds none (some (-(m : Int) - 1)) (some (-1)) n = ((n : Int) - 1, (n : Int) - m - 1, -1) := by
  have h1 : -(m : Int) - 1 < 0 := by omega
  have h2 : ¬ ((-1 : Int) > 0) := by decide
  simp only [sliceBounds, Option.getD_some, h1, h2, if_true, if_false]
  have e : max (-1) (min (-(m : Int) - 1 + n) ((n : Int) - 1)) = (n : Int) - m - 1 := by omega
  rw [e]
theorem back_range (n m : Nat) (h : m ≤ n) : sliceRange ((n : Int) - 1) ((n : Int) - m - 1) (-1) = (List.range m).map fun k => n - 1 - k := by
  unfold sliceRange
  have h1 : ¬ ((-1 : Int) > 0) := by decide
  by_cases hm : (n : Int) - 1 > (n : Int) - m - 1
  · have e : ((n : Int) - 1 - ((n : Int) - m - 1) - -1 - 1) / (- -1) = (m : Int) := by
      rw [show (- -1 : Int) = 1 by decide, Int.ediv_one]
      omega
    simp only [h1, if_false, hm, if_true, e, Int.toNat_natCast]
    apply List.map_congr_left
    intro k hk
    have := List.mem_range.mp hk
    omega
  · have e : m = 0 := by omega
    subst e
    simp
theorem back_pick (xs : List Value) (m : Nat) (h : m ≤ xs.length) : slicePick xs.toArray none (some (-(m : Int) - 1)) (some (-1)) = ((xs.drop (xs.length - m)).reverse).toArray := by
  unfold slicePick
  rw [List.size_toArray, back_bounds _ _ h]
  show ((sliceRange ((xs.length : Int) - 1) ((xs.length : Int) - m - 1) (-1)).filterMap (xs.toArray[·]?)).toArray = _
  rw [back_range _ _ h]
  apply congrArg List.toArray
  rw [List.filterMap_map]
  have key : ∀ j : Nat, j ≤ xs.length → ((List.range j).filterMap fun (k : Nat) => xs[xs.length - 1 - k]?) = xs.reverse.take j := by
    intro j
    induction j with
    | zero => intro _; simp
    | succ j ih =>
      intro hm
      rw [List.range_succ, List.filterMap_append, ih (by omega), List.take_add_one]
      congr 1
      have hlt : xs.length - 1 - j < xs.length := by omega
      rw [List.getElem?_reverse (by omega)]
      simp [List.getElem?_eq_getElem hlt]
  have e : ((fun x : Nat => xs.toArray[x]?) ∘ fun k => xs.length - 1 - k) = fun k => xs[xs.length - 1 - k]? := by
    funext k
    simp
  rw [e, key m h, List.take_reverse]
section
variable {X : Cx}
theorem pe_backL {e u : Expr} {te tu : TE} {k : Nat} {p1 p2 p3 pos : Pos} (he : PE X e te) (hu : PE X u tu) : PE X (.Subscript e (.Slice none (some u) (some (.UnaryOp .USub (.Constant (.int 1) k p1) p2)) p3) pos) (tBackL X.K te tu) := by
  refine ⟨fun pins s σ H Q I h => ?_⟩
  refine Subscript_ (thn (he.run pins s σ H _ I h) fun v s1 ⟨x, H1, I1, r1, q1⟩ => ?_)
  have hup : PO X (some u) (tPart tu) := po_some hu
  have hst : PO X (some (.UnaryOp .USub (.Constant (.int 1) k p1) p2)) (tPart (tUn (rU fun i => .int (-i)) (tC (.int 1)))) := po_some (pe_un un_neg pe_int)
  refine wpAny_Slice (thn (po_none.run pins s1 σ H1 (fun o H2 => o = none ∧ H2 = H1) I1 ⟨rfl, rfl⟩) fun vl s2 ⟨l, H2, I2, pl, el, e2⟩ => ?_)
  subst el e2
  refine thn (hup.run pins s2 σ H2 (fun o H3 => ∃ (a : Addr) (xs : List V) (m : Nat), x = .ref a ∧ o = some (-(m : Int) - 1) ∧ SqL X.K H3 a xs ∧ m ≤ xs.length ∧ ∀ p, H3 p = none → Q (.ref p) (upd H3 p (.lst (xs.drop (xs.length - m)).reverse))) I2 q1) fun vu s3 ⟨u', H3, I3, pu, qu⟩ => ?_
  obtain ⟨a, xs, m, ex, eu, hx, hm, q⟩ := qu
  subst ex eu
  refine thn (hst.run pins s3 σ H3 (fun o H4 => o = some (-1) ∧ H4 = H3) I3 ⟨1, rfl, -1, rfl, rfl, rfl⟩) fun vs s4 ⟨o, H4, I4, ps, eo, e4⟩ => ?_
  subst eo e4
  cases r1
  have I5 : Inv X pins σ H4 { s4 with heap := s4.heap.push { cls := .type "slice", data := .fields #[vl, vu, vs] } } := I4.kept (t' := s4.toks) fun b ob q => Heap.get?_push_of_some _ q
  obtain ⟨its, r, ht, hz⟩ := I5.list hx
  have hlen := r.length
  show wpAny (model X.prog X.w) X.A (subscriptTail e (.Slice none (some u) (some (.UnaryOp .USub (.Constant (.int 1) k p1) p2)) p3) (.ref a) (.ref s4.heap.objs.size)) (EP X pins σ Q) X.xe { s4 with heap := s4.heap.push { cls := .type "slice", data := .fields #[vl, vu, vs] } }
  refine tail_any (ops := [.ref a, .ref s4.heap.objs.size]) ht.isList.typeIs (PySem.slot_list_getitem.lookup) ?_ (by with_unfolding_all rfl)
  refine wpAny_getItem_list_slice ht.isList (Heap.IsSliceOf.new _ vl vu vs) pl pu ps (by decide) ?_ (by rw [List.size_toArray]; omega)
  rw [back_pick its m (by omega)]
  refine ⟨.ref _, _, I5.laid (t' := s4.toks) (o := .lst (xs.drop (xs.length - m)).reverse) (fun b ob q => Heap.get?_push_of_some _ q) (Nat.le_refl _) ?_, rfl, q _ (I5.hok.fresh (Nat.le_refl _))⟩
  refine ⟨by rw [List.length_reverse, List.length_drop]; omega, _, 0, ?_, Heap.get?_push_size _ rfl⟩
  rw [hlen]
  exact (r.drop _).reverse
end

/-! ### del xs[-m:] of a list, 1 ≤ m -/
def sel (start stop step : Int) (i : Nat) : Bool :=
  if step > 0 then start ≤ i && i < stop && (i - start) % step == 0
  else stop < i && i ≤ start && (start - i) % (-step) == 0
theorem del_bounds (n m : Nat) (h : m ≤ n) (h1 : 1 ≤ m) : sliceBounds (some (-(m : Int))) none none n = ((n : Int) - m, (n : Int), 1) := by
  have h2 : -(m : Int) < 0 := by omega
  have h3 : (1 : Int) > 0 := by decide
  simp only [sliceBounds, Option.getD_none, h2, h3, if_true]
  have e : max 0 (min (-(m : Int) + n) (n : Int)) = (n : Int) - m := by omega
  rw [e]
theorem del_keep (n m : Nat) (h : m ≤ n) (xs : List Value) : ∀ k : Nat, k + xs.length = n →
    ((xs.zipIdx k).filterMap fun (p : Value × Nat) => if sel ((n : Int) - m) (n : Int) 1 p.2 then none else some p.1) = xs.take (n - m - k) := by
  induction xs with
  | nil => intro k _; simp
  | cons x r ih =>
    intro k hk
    rw [List.length_cons] at hk
    rw [List.zipIdx_cons, List.filterMap_cons]
    have hs : sel ((n : Int) - m) (n : Int) 1 k = decide (n - m ≤ k) := by
      unfold sel
      rw [if_pos (by decide), Int.emod_one]
      by_cases q : n - m ≤ k
      · have q1 : (n : Int) - m ≤ (k : Int) := by omega
        have q2 : (k : Int) < (n : Int) := by omega
        simp [q, q1, q2]
      · have q1 : ¬ (n : Int) - m ≤ (k : Int) := by omega
        simp [q, q1]
    have i2 := ih (k + 1) (by omega)
    rw [i2]
    dsimp only
    rw [hs]
    by_cases q : n - m ≤ k
    · rw [if_pos (by simpa using q)]
      have e1 : n - m - (k + 1) = 0 := by omega
      have e2 : n - m - k = 0 := by omega
      rw [e1, e2]
      simp
    · rw [if_neg (by simpa using q)]
      have e1 : n - m - k = (n - m - (k + 1)) + 1 := by omega
      rw [e1, List.take_succ_cons]
section
variable {prog : Program} {w : World} {A : Around} {E : Value → Shared → Prop} {s : Shared}
theorem delItem_tail {l sl : Addr} {its : List Value} {n m : Nat} {ti : Tok} {Q : Unit → Shared → Prop}
    (e : s.heap.get? l = some { cls := .type "list", data := .seq its.toArray n }) (hs : s.heap.IsSliceOf sl (.int (-(m : Int)) ti) .none .none) (h1 : 1 ≤ m) (hm : m ≤ its.length) (hsz : its.length ≤ sizeLine)
    (h : ∀ f : Array Value → Array Value, f its.toArray = (its.take (its.length - m)).toArray → Q () { s with heap := s.heap.update l (Obj.mapSeq f) }) :
    wpAny (model prog w) A (delItem (.ref l) (.ref sl)) Q E s := by
  have hl : s.heap.IsList l its.toArray := PySem.IsL.isList e
  obtain ⟨os, hos, hcs, hds⟩ := id hs
  have hTs : s.TypeIs (.ref sl) "slice" := ⟨os, hos, hcs⟩
  have hstep : ¬ ((rawPart none == rawInt 0) = true) := Bool.false_ne_true
  refine wpAny_delItem_slot hl.typeIs (by decide) PySem.F.slot_list_delitem
    (wpAny_call_entry PySem.F.slot_list_delitem hl.typeIs PySem.F.entry_list_delitem ?_ (PySem.F.args_list_delitem_2 _ _))
  show wpAny _ _ (Builtin.List.listSubscript? (.ref sl) >>= _) _ _ s
  refine wpAny_bind ?_
  unfold Builtin.List.listSubscript?
  refine wpAny_bind (wpAny_specialOf hTs slice_no_index ?_)
  simp only [Option.isNone_none, if_true]
  refine wpAny_pure ?_
  show wpAny _ _ (typeOf (.ref sl) >>= _) _ _ s
  refine wpAny_bind (wpAny_typeOf hTs ?_)
  first
    | rw [if_neg (by decide)]
    | refine PySem.W.KFB.if_not (by decide) ?_
  rw [listSliceParts_eq]
  refine wpAny_bind (wpAny_bind (wpAny_field hos hds (x := .none) rfl (wpAny_bind (wpAny_listPart .none ?_))))
  rw [if_neg hstep]
  refine wpAny_bind (wpAny_field hos hds (x := .int (-(m : Int)) ti) rfl (wpAny_bind (wpAny_listPart (.int (-(m : Int)) ti) ?_)))
  refine wpAny_bind (wpAny_field hos hds (x := .none) rfl (wpAny_bind (wpAny_listPart .none (wpAny_pure ?_))))
  unfold Builtin.List.listItems
  refine wpAny_bind (wpAny_bind (wpAny_seqItems e rfl (wpAny_pure ?_)))
  refine wpAny_bind (wpAny_of_eq ((sliceIndices_raw (some (-(m : Int))) none none its.toArray.size (by simp)).trans (congrArg (pure : Int × Int × Int → Sem (Int × Int × Int)) (show sliceBounds (some (-(m : Int))) none none its.toArray.size = ((its.length : Int) - m, (its.length : Int), 1) from del_bounds its.length m hm h1))) ?_)
  refine wpAny_bind (wpAny_rule ?_)
  have hf := congrArg List.toArray (del_keep its.length m hm its 0 (Nat.zero_add _))
  rw [Nat.sub_zero] at hf
  show wpAny _ _ (updateSeq l (fun xs : Array Value => (xs.toList.zipIdx.filterMap fun (p : Value × Nat) => if sel ((its.length : Int) - m) (its.length : Int) 1 p.2 then none else some p.1).toArray) >>= _) _ _ s
  have hf' : (fun xs : Array Value => (xs.toList.zipIdx.filterMap fun (p : Value × Nat) => if sel ((its.length : Int) - m) (its.length : Int) 1 p.2 then none else some p.1).toArray) its.toArray = (its.take (its.length - m)).toArray := hf
  have hz2 : ((fun xs : Array Value => (xs.toList.zipIdx.filterMap fun (p : Value × Nat) => if sel ((its.length : Int) - m) (its.length : Int) 1 p.2 then none else some p.1).toArray) its.toArray).size ≤ sizeLine + 1 := by
    rw [hf', List.size_toArray, List.length_take]
    omega
  refine wpAny_bind (wpAny_updateSeq (hz := by rw [List.size_toArray]; exact hsz) (_hz' := hz2) e rfl ?_)
  refine wpAny_bind (wpAny_letGo ?_)
  have k := h (fun xs : Array Value => (xs.toList.zipIdx.filterMap fun (p : Value × Nat) => if sel ((its.length : Int) - m) (its.length : Int) 1 p.2 then none else some p.1).toArray) hf'
  first
    | exact wpAny_bind (wpAny_pure (wpAny_pure ⟨.none, rfl, k⟩))
    | exact wpAny_pure ⟨.none, rfl, k⟩
end
def tDelTail (te tu : TE) : TS := fun D σ H => te σ H fun x H1 => tPart tu σ H1 fun o H2 => ∃ (l : Addr) (xs : List V) (m : Nat), x = .ref l ∧ o = some (-(m : Int)) ∧ H2 l = some (.lst xs) ∧ 1 ≤ m ∧ m ≤ xs.length ∧ D.nx σ (upd H2 l (.lst (xs.take (xs.length - m))))
section
variable {X : Cx}
theorem ps_delTail {e u : Expr} {te tu : TE} {p3 tpos pos : Pos} (he : PE X e te) (hu : PE X u tu) : PS X (.Delete [.Subscript e (.Slice (some u) none none p3) tpos] pos) (tDelTail te tu) := by
  refine ⟨fun pins s σ H D I h => ?_⟩
  refine wpAny_Delete (wpAny_deleteEach_cons (wpAny_delete_Subscript (thn (he.run pins s σ H _ I h) fun v s1 ⟨x, H1, I1, r1, q1⟩ => ?_)))
  have hup : PO X (some u) (tPart tu) := po_some hu
  refine wpAny_Slice (thn (hup.run pins s1 σ H1 (fun o H2 => ∃ (l : Addr) (xs : List V) (m : Nat), x = .ref l ∧ o = some (-(m : Int)) ∧ H2 l = some (.lst xs) ∧ 1 ≤ m ∧ m ≤ xs.length ∧ D.nx σ (upd H2 l (.lst (xs.take (xs.length - m))))) I1 q1) fun vl s2 ⟨o, H2, I2, pl, q2⟩ => ?_)
  obtain ⟨l, xs, m, ex, eo, hH, h1, hm, q⟩ := q2
  subst ex eo
  cases r1
  rw [evalPart_none]
  refine wpAny_pure ?_
  refine wpAny_pure ?_
  obtain ⟨i, ti, rfl, ei⟩ : ∃ i ti, vl = Value.int i ti ∧ i = -(m : Int) := by
    cases pl
    exact ⟨_, _, rfl, rfl⟩
  subst ei
  have I5 : Inv X pins σ H2 { s2 with heap := s2.heap.push { cls := .type "slice", data := .fields #[.int (-(m : Int)) ti, Value.none, Value.none] } } := I2.kept (t' := s2.toks) fun b ob q => Heap.get?_push_of_some _ q
  obtain ⟨z, its, n, r, hl, e5⟩ := I5.lstM hH
  refine delItem_tail e5 (Heap.IsSliceOf.new _ (.int (-(m : Int)) ti) Value.none Value.none) h1 (by omega) (by omega) fun f hf => wpAny_deleteEach_nil ⟨σ, _, ?_, q⟩
  refine I5.lset (its' := its.take (its.length - m)) (t' := s2.toks) hH e5 hf ?_ (by rw [List.length_take]; omega)
  rw [hl]
  exact r.take _
end

/-! ### xs.extend(a tuple) -/
section
open AutoSeq1
theorem list_extend_tupW (l : Addr) (items : Array Value) (n : Nat) (b : Addr) (items2 : Array Value) (n2 : Nat) (dd : Option Addr) (sl : Array (Option Value)) (hs0 : ¬(!items.isEmpty && Builtin.List.listTooLong (items.size + items2.size)) = true) (hs1 : items.size ≤ sizeLine) (hs2 : items.size + items2.size ≤ sizeLine + 1) :
    Meets (Builtin.«list.extend» ⟨[.ref l, .ref b], []⟩) (fun _ R s => s.heap.get? l = some { cls := .type "list", dict := none, data := .seq items n, slots := #[] } ∧ s.heap.get? b = some { cls := .type "tuple", dict := dd, data := .seq items2 n2, slots := sl } ∧ R (.ok (.ret Value.none)) { s with heap := s.heap.update l (Obj.mapSeq fun x => x ++ items2), toks := s.toks }) :=
  .of_wp fun prog w A R s h => by
    obtain ⟨hp, g, d, tk, os⟩ := s; obtain ⟨hl, hb, h⟩ := h; have f1 := AutoSeq1.idx_int; have f2 := AutoSeq1.sub_tuple_tuple; have f3 := AutoSeq1.sub_list_list; have f4 := AutoSeq1.sub_tuple_list; have f5 := AutoSeq1.sub_list_tuple;
    have hz' : (items ++ items2).size ≤ sizeLine + 1 := by rw [Array.size_append]; exact hs2
    wp_walk using (wpAny_updateSeq hl rfl (hz := hs1) (_hz' := hz')), wpAny_loadPart' hl, wpAny_loadPart' hb; exact ⟨_, rfl, h⟩
end
def rExtT (K : PySem.W.Frag) : V → List V → Hp → VK → Prop := fun x vs H Q => ∃ l b xs zs, x = .ref l ∧ vs = [.ref b] ∧ H l = some (.lst xs) ∧ SqT K H b zs ∧ xs.length + zs.length ≤ sizeLine ∧ Q .non (upd H l (.lst (xs ++ zs)))
section
variable {X : Cx}
theorem mt_extT : MtR X "list.extend" (rExtT X.K) := by
  intro pins s σ H x vs v us Q I rx rv h
  obtain ⟨l, b, xs, zs, rfl, rfl, hH, hB, hz, q⟩ := h
  cases rx
  obtain ⟨u, rfl, ru⟩ := rv.one
  cases ru
  obtain ⟨z, its, n, r, hl, e⟩ := I.lstM hH
  obtain ⟨its2, r2, ⟨⟨oc, od, dt, sl⟩, e2, c2, n2, d2⟩, z2⟩ := I.tuple hB
  simp only at c2 d2
  subst c2 d2
  have hl2 := r2.length
  have hsz : its.toArray.size + its2.toArray.size ≤ sizeLine := by rw [List.size_toArray, List.size_toArray]; omega
  have hlong : ¬ (!its.toArray.isEmpty && Builtin.List.listTooLong (its.toArray.size + its2.toArray.size)) = true := by
    rw [notLongL hsz, Bool.and_false]
    exact Bool.false_ne_true
  refine call_meets PySem.F.slot_list_extend ⟨_, e, rfl⟩ PySem.F.entry_list_extend (PySem.F.args_list_extend_2 _ _)
    (list_extend_tupW l its.toArray n b its2.toArray n2 od sl hlong (by rw [List.size_toArray]; omega) (by omega)) ⟨e, e2, ?_⟩
  refine ⟨.non, _, I.lset (its' := its ++ its2) (t' := s.toks) hH e (by simp) (r.append r2) ?_, rfl, q⟩
  rw [List.length_append]
  omega
end
end Hm

set_option Elab.async false
set_option linter.all false
set_option maxRecDepth 100000
set_option maxHeartbeats 2000000
/-! defs that are called where no repr is under way: what they promise may speak of repr of data -/
namespace RG
open PySem PySem.Spec PyProof.Rows L2
/-- no object is being shown -/
abbrev Free (A : Around) : Prop := A.guards = some []
/-- a promise that holds where no object is being shown -/
structure FnG (P : Program) (w : World) (K : PySem.W.Frag) (mg : Str → Option Value) (base : Heap) (CC : CXT) (k : Nat) (f : Addr) (fd : FuncData) (ps : List Str) (sp : Sp) : Prop where
  arity : ∀ us H Q E, sp us H Q E → us.length = ps.length
  go : ∀ (B : Around) (es : List Env) (st : Shared) (H : Hp) (as : Args) (xs : List Value) (us : List V) (Q : VK) (E : XK), Free B → Room k B → Env0 P w K mg base B es st H → BindsTo st fd as (ps.zip xs) → Vals us xs → sp us H Q E →
    codeAny (model P w) B (.call (.ref f) as) (CR CC es P w H st Q E) st
section
variable {P : Program} {w : World} {K : PySem.W.Frag} {mg : Str → Option Value} {base : Heap}
theorem free_deeper {A : Around} {e : Env} (h : Free A) : Free (A.deeper e) := h
theorem fn_free {CC : CXT} {k : Nat} {f : Addr} {nm qual : Str} {pars : Arguments} {body : List Stmt} {sc : Scope} {dV kV doc pm cdv ct oc : Value} {an od : Option Addr} {osl : Array (Option Value)} {N ps : List Str} {sp : Sp}
    (lk : K.lookup f = some ⟨oc, od, .func (PySem.W.fnOf nm qual pars body sc dV kV doc pm an cdv ct), osl⟩) (hcd : PySem.W.codeIn K cdv qual = true) (S : FnScope N ps sc) (len : ∀ us H Q E, sp us H Q E → us.length = ps.length)
    (hb : ∀ (B : Around) (es : List Env) (st : Shared) (H : Hp) (us : List V) (Q : VK) (E : XK), Free B → Room k (B.deeper (envOfC qual sc st.heap.objs.size f cdv)) → sp us H Q E →
      ∃ t, PSs (cxOf CC P w K mg base N qual sc f cdv B es st H E) body t ∧ t { nx := fun _ G => Q .non G, rt := Q } (start N us) H) :
    FnG P w K mg base CC (k + 1) f (PySem.W.fnOf nm qual pars body sc dV kV doc pm an cdv ct) ps sp where
  arity := len
  go := by
    intro B es st H as xs us Q E hF hR he hB hV hs
    have n1 := len us H Q E hs
    have inK : K.In st.heap := he.mod.kin.keeps fun b o z => (he.bs b o z).1
    have noL : st.heap.NoLimit := he.mod.nolimit.keeps fun b o z => (he.bs b o z).1
    have kinds : ∀ y ∈ ps.zip xs, sc.names.lookup y.1 = some .local ∨ (sc.names.lookup y.1 = some .cell ∧ ((cellsFrom (st.heap.objs.size + 1) sc.names []).lookup y.1).isSome = true) := by
      rintro ⟨z, u⟩ hz
      cases S.par z (List.of_mem_zip hz).1 with
      | inl c => exact .inl c
      | inr c => exact .inr ⟨c, PySem.W.cellsFrom_some _ _ _ (.inl c)⟩
    apply codeAny_call_function hR.depth (inK _ _ lk) rfl S.co S.gen rfl (PySem.W.codeRec_of inK hcd)
    apply hB
    apply wpAny_newFunctionEnv_cells S.kind kinds
    intro env hE s1 hx
    subst hE
    refine ⟨noL.keeps hx.toInCall.keep, codeAny_func ?_⟩
    obtain ⟨t, hT, hQ⟩ := hb B es st H us Q E hF (hR.deeper _) hs
    have J := inv_start (CX := CC) (E := E) S hR.hd he n1 hV hx
    refine wpAny_mono (hT.run [] s1 (start N us) H _ J hQ) ?_ (fun _ _ z => z)
    rintro (_ | _ | _ | u) s2 h2
    · obtain ⟨σ, G, I2, q⟩ := h2
      exact ⟨.non, G, I2.os, I2.bare, I2.base, I2.hok, rfl, q⟩
    · exact h2.elim fun _ z => z.elim fun _ z => z.2.elim
    · exact h2.elim fun _ z => z.elim fun _ z => z.2.elim
    · obtain ⟨v, σ, G, I2, r, q⟩ := h2
      exact ⟨v, G, I2.os, I2.bare, I2.base, I2.hok, r, q⟩
theorem Fun.free {x qual : Str} {st : Stmt} {f : Addr} {fd : FuncData} {N ps : List Str} {k : Nat} {sp : Sp} (F : Fun K x qual st f fd) (S : FnScope N ps (defScope st)) (len : ∀ us H Q E, sp us H Q E → us.length = ps.length)
    (hb : ∀ (cdv : Value) (B : Around) (es : List Env) (s0 : Shared) (H : Hp) (us : List V) (Q : VK) (E : XK), Free (B.deeper (envOfC qual (defScope st) s0.heap.objs.size f cdv)) → Room k (B.deeper (envOfC qual (defScope st) s0.heap.objs.size f cdv)) → sp us H Q E →
      ∃ t, PSs (cxOf CX0 P w K mg base N qual (defScope st) f cdv B es s0 H E).nox (defBody st) t ∧ t { nx := fun _ G => Q .non G, rt := Q } (start N us) H) : FnG P w K mg base CX0 (k + 1) f fd ps sp := by
  obtain ⟨_, _, _, _, _, _, cdv, _, _, rfl, lk, hcd⟩ := F.ex
  exact fn_free lk hcd S len fun B es s0 H us Q E h1 h2 h3 => (hb cdv B es s0 H us Q E h1 h2 h3).elim fun t z => ⟨t, z.1.nox, z.2⟩
theorem FnG.of {CC : CXT} {k : Nat} {f : Addr} {fd : FuncData} {ps : List Str} {sp : Sp} (F : FnOk P w K mg base CC k f fd ps sp) : FnG P w K mg base CC k f fd ps sp := ⟨F.len, fun B es st H as xs us Q E _ h1 h2 h3 h4 h5 => F.run B es st H as xs us Q E h1 h2 h3 h4 h5⟩
end
/-- f(..), where nothing is being shown -/
theorem pe_callG {X : Cx} {CC : CXT} {k : Nat} {f : Addr} {fd : FuncData} {ps : List Str} {sp : Sp} {ws : List V} {ds : List Value} {E : XK} {x : Str} {p pos : Pos} {e : Expr} {es : List Expr} {t : TA}
    (F : FnG X.prog X.w X.K X.mg X.base CC k f fd ps sp) (free : Free X.A) (room : Room k X.A) (gl : Gl X x) (at_ : X.mg x = some (.ref f)) (kp : PySem.W.keepIn X.K (.ref f) = true) (bi : Binds X.K fd ps ds) (dv : Vals ws ds) (out : Passes CC X E) (ar : PA X (e :: es) t)
    (nd : (x == ("__debug__" : Str)) = false := by decide) (se : starEach (e :: es) X.env = (false, eval e X.env) :: starEach es X.env := by rfl) (pl : (backTo pos (starEach es X.env)).any (·.1) = false := by rfl) : PE X (.Call (.Name x p) (e :: es) [] pos) (tCall sp ws E t) where
  run := by
    intro pins s σ H Q I h
    apply wpAny_Call_Name_kw
    apply ld_glob I gl at_ _ nd
    apply PySem.W.callWith_K (h₀ := X.base) I.ok.mod.kin kp _ se pl
    refine thn (ar.run pos pins s σ H _ I h) fun us s1 ⟨vs, H1, J, r, q⟩ => ⟨J.kIn, ?_⟩
    have rr := r.append dv
    have n1 := (rr.length).symm.trans (F.arity _ _ _ _ q)
    apply wpAny_call
    refine codeAny_mono (F.go X.A X.stack s1 H1 ⟨us, []⟩ (us ++ ds) (vs ++ ws) Q E free room J.env0 (bi s1 us J.kIn n1) rr q) ?_
    rintro (er | (_ | _ | _ | u)) s2 h2
    · exact out pins σ H1 s1 er s2 J h2
    · exact h2.elim
    · exact h2.elim
    · exact h2.elim
    · exact J.after h2
end RG

set_option Elab.async false
set_option linter.all false
set_option maxRecDepth 100000
set_option maxHeartbeats 2000000
/-! an error of the program's own, whose __init__ calls that of its base by the base's name, and that has one field -/
namespace RG
open PySem PySem.Spec PyProof.Rows L2
/-- the base class: its __init__ is ValueError's -/
structure BaseE (K : PySem.W.Frag) (mg : Str → Option Value) (x : Str) (B : Addr) : Prop where
  at_ : mg x = some (.ref B)
  rd : PySem.W.readsIn K B (.type "type") = true
  ga : PySem.W.specialIn K (.ref B) "__getattribute__" = some (some (.builtin "type.__getattribute__"))
  ini : PySem.W.findCls K (.ref B) (.type "type") "__init__" = some (.val (.builtin "ValueError.__init__"))
/-- Base.__init__(self, ..) -/
theorem pe_hinit {X : Cx} {x : Str} {B : Addr} {e : Expr} {es : List Expr} {ta : TA} {p1 p2 pos : Pos} {pl : Sem Bool} (T : BaseE X.K X.mg x B) (gl : Gl X x) (ar : PA X (e :: es) ta) (nd : (x == ("__debug__" : Str)) = false := by decide)
    (ev : eval (.Call (.Attribute (.Name x p1) "__init__" p2) (e :: es) [] pos) X.env = (do
      let cv ← eval (.Name x p1) X.env
      standAt p2.atName
      let (g, fst) ← holding [cv] (getMethod cv "__init__" pl)
      callWith pos g fst (backTo pos (starEach (e :: es) X.env)) (backToKw pos (keywordEach [] X.env))) := by rfl)
    (se : starEach (e :: es) X.env = (false, eval e X.env) :: starEach es X.env := by rfl) (pn : (backTo pos (starEach es X.env)).any (·.1) = false := by rfl) :
    PE X (.Call (.Attribute (.Name x p1) "__init__" p2) (e :: es) [] pos) (tVeI X.K ta) where
  run := by
    intro pins s σ H Q I h
    refine PySem.W.methodCall_KW (ld_glob I gl T.at_ ?_ nd) ev
    refine PySem.W.method_cls I.kIn T.ga (PySem.W.cls_value I.kIn T.rd T.ini (by decide +kernel) ?_)
    show wpAny _ _ (callWith pos (Value.builtin "ValueError.__init__") [] (backTo pos (starEach (e :: es) X.env)) []) _ _ _
    refine PyProof.Rows.callWith_method1 (thn (ar.run pos pins _ σ H _ (I.tok _) h) fun us s1 z => ?_) se pn
    obtain ⟨vs, H1, J, rv, a, C, ws, rfl, few, oe, ha, q⟩ := z
    cases rv with
    | @cons _ u _ ur ra rr =>
      cases (ra : u = Value.ref a)
      have n1 : ur.length ≤ sizeLine := Nat.le_trans (Nat.le_of_eq (Paired.length rr).symm) (Nat.le_trans few (by decide))
      exact oinit_ok oe J ha n1 fun s2 J2 => ⟨.non, H1, J2, rfl, q⟩
/-- what the text says of an error class with one field -/
structure ErrE (K : PySem.W.Frag) (mg : Str → Option Value) (x f : Str) (C fI : Addr) : Prop where
  at_ : mg x = some (.ref C)
  oex : OexC K C
  xf : XfC K C
  noF : PySem.W.findIn K (.ref C) f = some none
  iC : PySem.W.findIn K (.ref C) "__init__" = some (some (.ref fI))
  tI : PySem.W.typeIn K (.ref fI) = some (.type "function")
  ex : PySem.W.exmOne K (.ref C) (.ref C) = some true
/-- what __init__(self, v) does -/
def spIni (C : Addr) (f : Str) : Sp := fun vs H Q _ => ∃ (a : Addr) (v : V), vs = [.ref a, v] ∧ H a = some (exo a C none) ∧ ∀ d, H d = none → d ≠ a → Q .non (upd (upd H d (exd d [(f, v)])) a (exo a C (some d)))
/-- how such an error comes: its dict is new and holds the field, all that was stands -/
def Comes (C : Addr) (f : Str) (v : V) (H : Hp) (E : XK) : Prop := ∀ d H', H d = none → Evl.Ex H H' → H' d = some (.xd [(f, v)]) → E (.ref C) (some d) H'
theorem made_err {C : Addr} {f : Str} {v : V} {H : Hp} {Q : XK} (q : ∀ d H', H d = none → Evl.Ex H H' → H' d = some (.xd [(f, v)]) → Q (.ref C) (some d) H') : ([v].length ≤ 1000 ∧ ∀ a, H a = none → spIni C f (.ref a :: ([v] ++ [])) (upd H a (exo a C none))
    (fun u H2 => u = .non ∧ ∃ (d : Addr) (fs : List (Str × V)), H2 a = some (exo a C (some d)) ∧ H2 d = some (exd d fs) ∧ H d = none ∧ Q (.ref C) (some d) (upd (del H2 a) d (.xd fs))) (fun _ _ _ => False)) := by
  refine ⟨by simp, fun a ha => ⟨a, v, rfl, upd_same, fun d hd ne => ⟨rfl, d, _, upd_same, ?_, ?_, q d _ ?_ ?_ upd_same⟩⟩⟩
  · rw [upd_ne ne, upd_same]
  · rw [upd_ne ne] at hd
    exact hd
  · rw [upd_ne ne] at hd
    exact hd
  · intro b o hb
    rw [upd_ne ne] at hd
    have n1 : b ≠ d := fun z => by subst z; rw [hd] at hb; cases hb
    have n2 : b ≠ a := fun z => by subst z; rw [ha] at hb; cases hb
    rw [upd_ne n1, del_ne n2, upd_ne n2, upd_ne n1, upd_ne n2]
    exact hb
/-- isinstance(e, c), e the error with a dict that the suite holds -/
structure IsE (K : PySem.W.Frag) (D : Addr) : Prop where
  cl : (PySem.W.clsIn K D).isSome = true
  hg : PySem.W.findIn K (.ref D) "__getattribute__" = some (some (.builtin "BaseException.__getattribute__"))
  hk : PySem.W.findIn K (.ref D) "__getattr__" = some none
  hs : PySem.W.subIn K (.ref D) (.type "BaseException") = some true
  ha : PySem.W.findIn K (.ref D) "__class__" = some (some (.builtin "object.__class__"))
  hn : PySem.W.specialIn K (.builtin "object.__class__") "__get__" = some (some (.builtin "getset_descriptor.__get__"))
  ht : PySem.W.takesIn K (.builtin "object.__class__") = some true
  hm : PySem.W.mroIn K D (.type "object") = some true
def rIsD (K : PySem.W.Frag) (D a : Addr) (cls : Value) (d : Option Addr) : List V → Hp → VK → Prop := fun xs H Q => ∃ (c : V) (cv : Value) (b : Bool) (dd : Addr) (fs : List (Str × V)), xs = [.ref a, c] ∧ (∀ u, RelV c u → u = cv) ∧ cls = .ref D ∧ d = some dd ∧ H dd = some (.xd fs) ∧ PySem.W.kitOne K (.ref D) cv = some b ∧ Q (.bl b) H
theorem call_isD {X : Cx} {a D : Addr} {cls : Value} {d : Option Addr} {oe : Obj} {pn : List (Addr × Obj)} (C : IsE X.K D) (hz : Zc cls d oe) (hf : ∃ vs, oe.data = .fields vs) : CallR (X.suite a ((a, oe) :: pn)) (.builtin "isinstance") (rIsD X.K D a cls d) := by
  intro pins s σ H xs us Q I r h
  obtain ⟨c, cv, b, dd, fs, rfl, hcv, rfl, rfl, hd, e, q⟩ := h
  obtain ⟨u1, u2, rfl, r1, r2⟩ := vals2 r
  cases (r1 : u1 = Value.ref a)
  cases hcv _ r2
  obtain ⟨at_, _⟩ := I.pin (a, oe) (List.mem_append_left _ List.mem_cons_self)
  obtain ⟨vs, hv⟩ := hf
  have hx : ObjOk X.prog X.w H s.heap dd (.xd fs) := I.hok dd _ hd
  obtain ⟨mA, hns, _⟩ := hx
  obtain ⟨od, ho, _⟩ := lookIn_ns hns
  have J : PySem.W.InstAt s.heap a oe D (some od) := ⟨at_, hz.1, by unfold PySem.W.notCls; rw [hv] <;> rfl, by rw [hz.2]; exact ho⟩
  exact PySem.W.kia_one (PySem.W.kitx_exc C.cl C.hg C.hk C.hs C.ha C.hn C.ht C.hm) I.kIn J e (fun z => nomatch z) fun tk => ⟨.bl b, H, I.kept (t' := tk) fun _ _ z => z, rfl, q⟩
end RG

set_option Elab.async false
set_option linter.all false
set_option maxRecDepth 100000
set_option maxHeartbeats 1000000
/-! keys of dicts: whole numbers, texts, and tuples of keys at any depth -/
namespace Hm
open PySem PySem.Spec L2
inductive DK where
  | leaf (k : Key) : DK
  | tup (ks : List DK) : DK
mutual
def DK.beq : DK → DK → Bool
  | .leaf a, .leaf b => decide (a = b)
  | .tup xs, .tup ys => DK.beqs xs ys
  | .leaf _, .tup _ => false
  | .tup _, .leaf _ => false
def DK.beqs : List DK → List DK → Bool
  | [], [] => true
  | x :: xs, y :: ys => DK.beq x y && DK.beqs xs ys
  | [], _ :: _ => false
  | _ :: _, [] => false
end
mutual
theorem DK.beq_iff : ∀ a b, DK.beq a b = true ↔ a = b
  | .leaf a, .leaf b => by
    unfold DK.beq
    simp
  | .tup xs, .tup ys => by
    unfold DK.beq
    rw [DK.beqs_iff xs ys]
    simp
  | .leaf _, .tup _ => by simp [DK.beq]
  | .tup _, .leaf _ => by simp [DK.beq]
theorem DK.beqs_iff : ∀ xs ys, DK.beqs xs ys = true ↔ xs = ys
  | [], [] => by simp [DK.beqs]
  | x :: xs, y :: ys => by
    unfold DK.beqs
    rw [Bool.and_eq_true, DK.beq_iff x y, DK.beqs_iff xs ys]
    simp
  | [], _ :: _ => by simp [DK.beqs]
  | _ :: _, [] => by simp [DK.beqs]
end
instance : DecidableEq DK := fun a b => decidable_of_iff _ (DK.beq_iff a b)
mutual
def DK.pd : DK → PyData
  | .leaf (.inl i) => .int i
  | .leaf (.inr s) => .str s
  | .tup ks => .tuple (DK.pds ks)
def DK.pds : List DK → List PyData
  | [] => []
  | k :: ks => DK.pd k :: DK.pds ks
end
mutual
def DK.dep : DK → Nat
  | .leaf _ => 0
  | .tup ks => DK.deps ks + 1
def DK.deps : List DK → Nat
  | [] => 0
  | k :: ks => max (DK.dep k) (DK.deps ks)
end
mutual
theorem pd_dep : ∀ k : DK, (DK.pd k).depth = DK.dep k
  | .leaf (.inl _) => rfl
  | .leaf (.inr _) => rfl
  | .tup ks => by
    unfold DK.pd DK.dep
    show PyData.depthAll (DK.pds ks) + 1 = _
    rw [pds_dep ks]
theorem pds_dep : ∀ ks : List DK, PyData.depthAll (DK.pds ks) = DK.deps ks
  | [] => rfl
  | k :: ks => by
    unfold DK.pds DK.deps
    show max (DK.pd k).depth (PyData.depthAll (DK.pds ks)) = _
    rw [pd_dep k, pds_dep ks]
end
mutual
theorem pd_eqv : ∀ x y : DK, PyData.eqv (DK.pd x) (DK.pd y) = DK.beq x y
  | .leaf (.inl a), .leaf (.inl b) => by
    show (a == b) = decide ((Sum.inl a : Key) = Sum.inl b)
    by_cases h : a = b
    · subst h; simp
    · rw [decide_eq_false (by intro z; injection z with z; exact h z)]
      simpa using h
  | .leaf (.inr a), .leaf (.inr b) => by
    show (a == b) = decide ((Sum.inr a : Key) = Sum.inr b)
    by_cases h : a = b
    · subst h; simp
    · rw [decide_eq_false (by intro z; injection z with z; exact h z)]
      exact beq_eq_false_iff_ne.mpr h
  | .leaf (.inl a), .leaf (.inr b) => by
    show false = decide ((Sum.inl a : Key) = Sum.inr b)
    rw [decide_eq_false (by intro z; cases z)]
  | .leaf (.inr a), .leaf (.inl b) => by
    show false = decide ((Sum.inr a : Key) = Sum.inl b)
    rw [decide_eq_false (by intro z; cases z)]
  | .tup xs, .tup ys => by
    unfold DK.pd DK.beq
    exact pds_eqv xs ys
  | .leaf (.inl _), .tup _ => by
    unfold DK.pd DK.beq
    rfl
  | .leaf (.inr _), .tup _ => by
    unfold DK.pd DK.beq
    rfl
  | .tup _, .leaf (.inl _) => by
    unfold DK.pd DK.beq
    rfl
  | .tup _, .leaf (.inr _) => by
    unfold DK.pd DK.beq
    rfl
theorem pds_eqv : ∀ xs ys : List DK, PyData.eqvAll (DK.pds xs) (DK.pds ys) = DK.beqs xs ys
  | [], [] => rfl
  | x :: xs, y :: ys => by
    unfold DK.pds DK.beqs
    show (PyData.eqv (DK.pd x) (DK.pd y) && PyData.eqvAll (DK.pds xs) (DK.pds ys)) = _
    rw [pd_eqv x y, pds_eqv xs ys]
  | [], _ :: _ => rfl
  | _ :: _, [] => rfl
end
theorem beq_dec (x y : DK) : DK.beq x y = decide (x = y) := by
  by_cases h : x = y
  · rw [decide_eq_true h]
    exact (DK.beq_iff x y).mpr h
  · rw [decide_eq_false h]
    cases e : DK.beq x y with
    | false => rfl
    | true => exact absurd ((DK.beq_iff x y).mp e) h
section
variable {P : Program} {w : World}
mutual
inductive KIs (P : Program) (w : World) (h : Heap) : DK → Value → Prop
  | leaf {k : Key} {v : Value} : (mixKind P w).is k v = true → KIs P w h (.leaf k) v
  | tup {ks : List DK} {a : Addr} {o : Obj} {items : Array Value} {n : Nat} : h.get? a = some o → o.cls = .type "tuple" → o.data = .seq items n → KAll P w h ks items.toList → KIs P w h (.tup ks) (.ref a)
inductive KAll (P : Program) (w : World) (h : Heap) : List DK → List Value → Prop
  | nil : KAll P w h [] []
  | cons {k : DK} {v : Value} {ks : List DK} {vs : List Value} : KIs P w h k v → KAll P w h ks vs → KAll P w h (k :: ks) (v :: vs)
end
theorem leaf_ref {k : Key} {a : Addr} (h : (mixKind P w).is k (.ref a) = true) : False := by
  have := (mixKind P w).byValue _ _ h
  simp [carriedByValue] at this
mutual
theorem kis_inj {h : Heap} : ∀ {x y : DK} {v : Value}, KIs P w h x v → KIs P w h y v → x = y
  | .leaf a, .leaf b, v, .leaf ha, .leaf hb => by rw [(mixKind P w).inj _ _ _ ha hb]
  | .leaf a, .tup ks, _, .leaf ha, .tup _ _ _ _ => (leaf_ref ha).elim
  | .tup ks, .leaf b, _, .tup _ _ _ _, .leaf hb => (leaf_ref hb).elim
  | .tup xs, .tup ys, _, .tup h1 _ h3 h4, .tup g1 _ g3 g4 => by
    rw [h1] at g1
    cases g1
    rw [h3] at g3
    injection g3 with g3 _
    subst g3
    rw [kall_inj h4 g4]
theorem kall_inj {h : Heap} : ∀ {xs ys : List DK} {vs : List Value}, KAll P w h xs vs → KAll P w h ys vs → xs = ys
  | [], [], _, _, _ => rfl
  | x :: xs, y :: ys, _, .cons h1 h2, .cons g1 g2 => by rw [kis_inj h1 g1, kall_inj h2 g2]
  | [], _ :: _, [], _, g => nomatch g
  | [], _ :: _, _ :: _, h, _ => nomatch h
  | _ :: _, [], [], h, _ => nomatch h
  | _ :: _, [], _ :: _, _, g => nomatch g
end
mutual
theorem kis_reads {h : Heap} : ∀ {x : DK} {v : Value}, KIs P w h x v → ∃ as, Reads h v (DK.pd x) as
  | .leaf (.inl i), v, .leaf hv => by
    rcases keyIs_shape (show keyIs (Sum.inl i) v = true from hv) with ⟨j, t, e, rfl⟩ | ⟨y, t, e, rfl⟩
    · injection e with e
      subst e
      exact ⟨_, Reads.int _ _⟩
    · exact nomatch e
  | .leaf (.inr z), v, .leaf hv => by
    rcases keyIs_shape (show keyIs (Sum.inr z) v = true from hv) with ⟨j, t, e, rfl⟩ | ⟨y, t, e, rfl⟩
    · exact nomatch e
    · injection e with e
      subst e
      exact ⟨_, Reads.str _ _⟩
  | .tup ks, _, .tup h1 h2 h3 h4 => by
    obtain ⟨as, r⟩ := kall_reads h4
    unfold DK.pd
    exact ⟨as, Reads.tuple h1 h2 h3 r⟩
theorem kall_reads {h : Heap} : ∀ {xs : List DK} {vs : List Value}, KAll P w h xs vs → ∃ as, ReadsAll h vs (DK.pds xs) as
  | [], _, .nil => ⟨_, ReadsAll.nil⟩
  | x :: xs, _, .cons h1 h2 => by
    obtain ⟨as, r⟩ := kis_reads h1
    obtain ⟨bs, r2⟩ := kall_reads h2
    exact ⟨_, ReadsAll.cons r r2⟩
end
mutual
theorem kis_keeps {h h' : Heap} {d : Addr} {o : Obj} {es ep} (ho : h.get? d = some o) (hd : o.data = .dict es ep) (hs : Heap.SameBut d h h') : ∀ {x : DK} {v : Value}, KIs P w h x v → KIs P w h' x v
  | .leaf _, _, .leaf hv => .leaf hv
  | .tup ks, _, .tup (a := a) h1 h2 h3 h4 => by
    refine .tup ?_ h2 h3 (kall_keeps ho hd hs h4)
    have hne : a ≠ d := by
      rintro rfl
      rw [h1] at ho
      cases ho
      rw [h3] at hd
      exact nomatch hd
    exact (hs.2 a hne).trans h1
theorem kall_keeps {h h' : Heap} {d : Addr} {o : Obj} {es ep} (ho : h.get? d = some o) (hd : o.data = .dict es ep) (hs : Heap.SameBut d h h') : ∀ {xs : List DK} {vs : List Value}, KAll P w h xs vs → KAll P w h' xs vs
  | [], _, .nil => .nil
  | x :: xs, _, .cons h1 h2 => .cons (kis_keeps ho hd hs h1) (kall_keeps ho hd hs h2)
end
mutual
def kh (P : Program) (w : World) : DK → Int
  | .leaf k => (mixKind P w).hash k
  | .tup ks => reduceHash (Builtin.Tuple.tupleHashOf (khs P w ks))
def khs (P : Program) (w : World) : List DK → List Int
  | [] => []
  | k :: ks => kh P w k :: khs P w ks
end
mutual
def kdr : DK → Nat
  | .leaf _ => 1
  | .tup ks => kdrs ks + 1
def kdrs : List DK → Nat
  | [] => 0
  | k :: ks => kdr k + kdrs ks
end
theorem khs_app (a b : List DK) : khs P w (a ++ b) = khs P w a ++ khs P w b := by
  induction a with
  | nil => rfl
  | cons k a ih =>
    show kh P w k :: khs P w (a ++ b) = kh P w k :: (khs P w a ++ khs P w b)
    rw [ih]
theorem kdrs_app (a b : List DK) : kdrs (a ++ b) = kdrs a + kdrs b := by
  induction a with
  | nil => show kdrs b = 0 + kdrs b; omega
  | cons k a ih =>
    show kdr k + kdrs (a ++ b) = (kdr k + kdrs a) + kdrs b
    rw [ih]
    omega
theorem kis_hash : ∀ (n : Nat) {A : Around} {E : Value → Shared → Prop} {s : Shared} {k : DK} {v : Value} {Q : Int → Shared → Prop}, k.dep ≤ n → A.units + n < cLine → KIs P w s.heap k v → Q (kh P w k) { s with toks := s.toks + kdr k } → wpAny (model P w) A (PySem.pyHash v) Q E s := by
  intro n
  induction n with
  | zero =>
    intro A E s k v Q hn hu hk h
    cases hk with
    | leaf hv => exact (mixKind P w).pyHash hv h
    | tup _ _ _ _ =>
      unfold DK.dep at hn
      omega
  | succ n ih =>
    intro A E s k v Q hn hu hk h
    cases hk with
    | leaf hv => exact (mixKind P w).pyHash hv h
    | @tup ks a o items m ho hc hd hi =>
      have hT : s.TypeIs (.ref a) "tuple" := ⟨o, ho, hc⟩
      unfold DK.dep at hn
      unfold kh kdr at h
      unfold pyHash
      first | unfold pyHashByItsType | skip
      first | refine wpAny_bind (wpAny_cRoomFor_or (.inr (by omega)) ?_) | skip
      refine wpAny_bind (wpAny_specialOf hT F.slot_tuple_hash.lookup ?_)
      show wpAny _ _ (if (some (Value.builtin "tuple.__hash__") == some Value.none) = true then _ else _) Q E s
      rw [if_neg (by rw [beq_builtin_none]; exact Bool.false_ne_true)]
      refine wpAny_bind (wpAny_specialOf hT F.slot_tuple_hash.lookup ?_)
      show wpAny _ _ (callSpecialIfBoundUnlessNone? (.ref a) "__hash__" _ >>= _) Q E s
      refine wpAny_bind (wpAny_callSpecialIfBoundUnlessNone?_slot hT F.slot_tuple_hash (wpAny_call_entry F.slot_tuple_hash hT F.entry_tuple_hash ?_ (F.args_tuple_hash_1 _)))
      show wpAny _ _ (Builtin.Tuple.tupleItemsOf (.ref a) >>= _) _ _ s
      refine wpAny_bind (wpAny_tupleItemsOf ho hd ?_)
      refine wpAny_bind ?_
      rw [← Array.forIn_toList]
      refine wpAny_forIn_list _
        (fun rest (b : Array Int) s' => ∃ done left, ks = done ++ left ∧ KAll P w s.heap left rest ∧ b.toList = khs P w done ∧ s' = { s with toks := s.toks + kdrs done })
        _ ?_ ?_ _ _ ⟨[], ks, rfl, hi, rfl, rfl⟩
      · rintro x rest b s' ⟨done, left, rfl, hl, hb, rfl⟩
        cases hl with
        | @cons k _ ks' _ h1 hl' =>
          have hdk : k.dep ≤ n := by
            have : ∀ xs : List DK, DK.deps (xs ++ k :: ks') ≥ k.dep := fun xs => by
              induction xs with
              | nil => show max _ _ ≥ _; omega
              | cons y xs ih2 =>
                show max _ (DK.deps (xs ++ k :: ks')) ≥ _
                omega
            have := this done
            omega
          refine wpAny_bind (ih (A := A.in1) hdk (by show A.units + 1 + n < cLine; omega) h1 ?_)
          have fin : ∃ done' left', done ++ k :: ks' = done' ++ left' ∧ KAll P w s.heap left' rest ∧ (b.push (kh P w k)).toList = khs P w done' ∧ ({ s with toks := s.toks + kdrs done + kdr k } : Shared) = { s with toks := s.toks + kdrs done' } :=
            ⟨done ++ [k], ks', by simp, hl', by rw [khs_app, Array.toList_push, hb]; rfl, by rw [kdrs_app]; show _ = ({ s with toks := s.toks + (kdrs done + (kdr k + 0)) } : Shared); rw [Nat.add_zero, Nat.add_assoc]⟩
          first
            | exact wpAny_pure fin
            | exact wpAny_bind (wpAny_pure (wpAny_pure fin))
      · rintro b s' ⟨done, left, rfl, hl, hb, rfl⟩
        cases hl
        rw [List.append_nil] at h
        show wpAny _ _ (retInt (Builtin.Tuple.tupleHashOf b.toList)) _ _ _
        rw [hb]
        refine wpAny_ret_mkInt ?_
        show wpAny _ _ (if (decide (-(2 : Int) ^ 63 ≤ Builtin.Tuple.tupleHashOf (khs P w done)) && decide (Builtin.Tuple.tupleHashOf (khs P w done) < 2 ^ 63)) = true then _ else _) Q E _
        unfold reduceHash at h
        by_cases hr : (decide (-(2 : Int) ^ 63 ≤ Builtin.Tuple.tupleHashOf (khs P w done)) && decide (Builtin.Tuple.tupleHashOf (khs P w done) < 2 ^ 63)) = true
        · rw [if_pos hr]
          rw [if_pos hr] at h
          exact wpAny_pure (by simpa [Nat.add_assoc] using h)
        · rw [if_neg hr]
          rw [if_neg hr] at h
          exact wpAny_bind (wpAny_rule (wpAny_pure (by simpa [Nat.add_assoc] using h)))
theorem dep_mid {k : DK} {ks' : List DK} : ∀ xs : List DK, k.dep ≤ DK.deps (xs ++ k :: ks')
  | [] => by show _ ≤ max _ _; omega
  | y :: xs => by
    have := dep_mid (k := k) (ks' := ks') xs
    show _ ≤ max _ (DK.deps (xs ++ k :: ks'))
    omega
theorem kis_quiet : ∀ (n : Nat) {A : Around} {E : Value → Shared → Prop} {s : Shared} {k : DK} {v : Value} {Q : Bool → Shared → Prop}, k.dep ≤ n → KIs P w s.heap k v → Q true s → wpAny (model P w) A (eqIsQuiet n v) Q E s := by
  intro n
  induction n with
  | zero =>
    intro A E s k v Q hn hk h
    cases hk with
    | leaf hv =>
      rw [eqIsQuiet_byValue _ ((mixKind P w).byValue _ _ hv)]
      exact wpAny_pure h
    | tup _ _ _ _ =>
      unfold DK.dep at hn
      omega
  | succ n ih =>
    intro A E s k v Q hn hk h
    cases hk with
    | leaf hv =>
      rw [eqIsQuiet_byValue _ ((mixKind P w).byValue _ _ hv)]
      exact wpAny_pure h
    | @tup ks a o items m ho hc hd hi =>
      have hT : s.TypeIs (.ref a) "tuple" := ⟨o, ho, hc⟩
      unfold DK.dep at hn
      unfold eqIsQuiet
      refine wpAny_bind (wpAny_specialOf hT F.slot_tuple_eq.lookup ?_)
      show wpAny _ _ (isInstance (.ref a) (.type "tuple") >>= _) _ _ s
      refine wpAny_bind (wpAny_isInstance hT isSubtype_tuple_tuple ?_)
      simp only [Bool.not_true, Bool.false_eq_true, if_false]
      refine wpAny_bind (wpAny_seqItems ho hd ?_)
      refine wpAny_bind ?_
      show wpAny _ _ (forIn items _ _) _ _ s
      rw [← Array.forIn_toList]
      refine wpAny_forIn_list _ (fun rest r s' => r.1 = none ∧ s' = s ∧ ∃ done left, ks = done ++ left ∧ KAll P w s.heap left rest) _ ?_ ?_ _ _ ⟨rfl, rfl, [], ks, rfl, hi⟩
      · rintro v rest r s' ⟨hr, rfl, done, left, rfl, hl⟩
        cases hl with
        | @cons k _ ks' _ h1 hl' =>
          have hdk := dep_mid (k := k) (ks' := ks') done
          refine wpAny_bind (ih (show k.dep ≤ n by omega) h1 ?_)
          simp only [Bool.not_true, Bool.false_eq_true, if_false]
          exact wpAny_pure ⟨rfl, rfl, done ++ [k], ks', by simp, hl'⟩
      · rintro ⟨r1, r2⟩ s' ⟨hr, rfl, _⟩
        simp only at hr
        subst hr
        exact wpAny_pure h
/-- the keys a dict may have: tuples in tuples, six deep at most -/
def KOk (k : DK) : Prop := k.dep ≤ 6 ∧ (DK.pd k).canLay0 = true
def nestKind (P : Program) (w : World) : HeapKind P w DK where
  is := fun h k a => KIs P w h k (.ref a) ∧ KOk k
  hash := kh P w
  draws := kdr
  room := fun A => A.units + 8 < cLine
  inj := fun hx hy => kis_inj hx.1 hy.1
  keeps := fun x ho hd hs => ⟨kis_keeps ho hd hs x.1, x.2⟩
  pyHash := fun hu hk h => kis_hash 6 hk.2.1 (by omega) hk.1 h
  eqBool := fun {A E s x y a b Q} hu hx hy h => by
    obtain ⟨as, r1⟩ := kis_reads hx.1
    obtain ⟨bs, r2⟩ := kis_reads hy.1
    have hd := hx.2.1
    have hp := pd_dep x
    have e := SeqAt.eqAt_reads (DK.pd x) (DK.pd y) A s _ _ as bs r1 r2 hx.2.2 hy.2.2 (by omega)
    rw [pd_eqv, beq_dec] at e
    exact e _ _ _ _ h
  quiet := fun hk h => kis_quiet 8 (Nat.le_trans hk.2.1 (by decide)) hk.1 h
end
end Hm

set_option Elab.async false
set_option linter.all false
set_option maxRecDepth 100000
set_option maxHeartbeats 1000000
/-! dicts whose keys are tuples in tuples: the layer's rules -/
namespace Hm
open PySem PySem.Spec PyProof.Rows L2
mutual
/-- a key as it lies in the heap -/
def KRep (K : PySem.W.Frag) (H : Hp) : DK → V → Prop
  | .leaf (.inl i), v => v = .int i
  | .leaf (.inr s), v => v = .str s
  | .tup ks, v => ∃ a vs, v = .ref a ∧ SqT K H a vs ∧ KReps K H ks vs
def KReps (K : PySem.W.Frag) (H : Hp) : List DK → List V → Prop
  | [], vs => vs = []
  | k :: ks, vs => ∃ v ws, vs = v :: ws ∧ KRep K H k v ∧ KReps K H ks ws
end
section
variable {X : Cx} {pins : List (Addr × Obj)} {σ : L2.St} {H : Hp} {s : Shared}
mutual
theorem kis_of (I : Inv X pins σ H s) : ∀ {k : DK} {v : V} {u : Value}, KRep X.K H k v → RelV v u → KIs X.prog X.w s.heap k u
  | .leaf (.inl i), v, u, h, r => by
    unfold KRep at h
    subst h
    exact .leaf (kV_is (k := Sum.inl i) r)
  | .leaf (.inr z), v, u, h, r => by
    unfold KRep at h
    subst h
    exact .leaf (kV_is (k := Sum.inr z) r)
  | .tup ks, v, u, h, r => by
    unfold KRep at h
    obtain ⟨a, vs, rfl, hT, hk⟩ := h
    obtain rfl : u = Value.ref a := r
    obtain ⟨its, rv, ⟨o, ho, hc, n, hd⟩, _⟩ := I.tuple hT
    exact .tup ho hc hd (by rw [List.toList_toArray]; exact kall_of I hk rv)
theorem kall_of (I : Inv X pins σ H s) : ∀ {ks : List DK} {vs : List V} {us : List Value}, KReps X.K H ks vs → Vals vs us → KAll X.prog X.w s.heap ks us
  | [], vs, us, h, r => by
    unfold KReps at h
    subst h
    cases r
    exact .nil
  | k :: ks, vs, us, h, r => by
    unfold KReps at h
    obtain ⟨v, ws, rfl, h1, h2⟩ := h
    cases r with
    | cons r1 r2 => exact .cons (kis_of I h1 r1) (kall_of I h2 r2)
end
end
abbrev NKV := DK × Addr × V
def NT : List NKV → List (DK × Addr × Value) → Prop := PySem.Paired (fun (p : NKV) (q : DK × Addr × Value) => p.1 = q.1 ∧ p.2.1 = q.2.1 ∧ RelV p.2.2 q.2.2)
/-- the dict at d, its entries told: key, the key's tuple, value -/
def DN (P : Program) (w : World) (d : Addr) (kvs : List NKV) : HO := .ext fun h => kvs.length ≤ sizeLine ∧ (d == sysModules) = false ∧ ∃ xs, NT kvs xs ∧
  ∃ o es ep, h.get? d = some o ∧ o.ExactDict ∧ o.data = .dict es ep ∧ es.toList = xs.map (entryOfKey (nestKind P w)) ∧ (xs.map (·.1)).Nodup
def valN (kvs : List NKV) (k : DK) : Option V := (kvs.find? fun e => decide (e.1 = k)).map (·.2.2)
def putN (kvs : List NKV) (k : DK) (a : Addr) (v : V) : List NKV := if (valN kvs k).isSome = true then kvs.map (fun e => if e.1 = k then (e.1, e.2.1, v) else e) else kvs ++ [(k, a, v)]
def KeysOk (K : PySem.W.Frag) (H : Hp) (kvs : List NKV) : Prop := ∀ e ∈ kvs, KRep K H e.1 (.ref e.2.1) ∧ KOk e.1
theorem NT.val {kvs : List NKV} {xs : List (DK × Addr × Value)} (r : NT kvs xs) (k : DK) : RelO (valN kvs k) ((atKey xs k).map (·.2)) := by
  unfold NT at r
  induction r with
  | nil => exact True.intro
  | @cons p q ps qs h t ih =>
    obtain ⟨h1, _, h2⟩ := h
    by_cases e : p.1 = k
    · have e' : q.1 = k := h1.symm.trans e
      have b : atKey (q :: qs) k = some q.2 := by simp [atKey, List.find?_cons, e']
      have c : valN (p :: ps) k = some p.2.2 := by simp [valN, List.find?_cons, e]
      rw [b, c]; exact h2
    · have e' : ¬ q.1 = k := fun z => e (h1.trans z)
      have b : atKey (q :: qs) k = atKey qs k := by simp [atKey, List.find?_cons, e']
      have c : valN (p :: ps) k = valN ps k := by simp [valN, List.find?_cons, e]
      rw [b, c]; exact ih
theorem NT.some_eq {kvs : List NKV} {xs : List (DK × Addr × Value)} (r : NT kvs xs) (k : DK) : (valN kvs k).isSome = (atKey xs k).isSome := by
  have q := (r.val k).isSome_eq
  rw [Option.isSome_map] at q
  exact q
theorem NT.put {kvs : List NKV} {xs : List (DK × Addr × Value)} (r : NT kvs xs) (k : DK) {a : Addr} {v : V} {u : Value} (rv : RelV v u) : NT (putN kvs k a v) (storedH xs k a u) := by
  unfold putN storedH
  rw [r.some_eq k]
  by_cases q : (atKey xs k).isSome = true
  · rw [if_pos q, if_pos q]
    clear q
    unfold NT at r ⊢
    induction r with
    | nil => exact .nil
    | @cons p q ps qs h t ih =>
      rw [List.map_cons, List.map_cons]
      refine .cons ?_ ih
      obtain ⟨h1, h2, h3⟩ := h
      unfold putAt
      by_cases e : p.1 = k
      · rw [if_pos e, if_pos (h1.symm.trans e)]; exact ⟨h1, h2, rv⟩
      · rw [if_neg e, if_neg (fun z => e (h1.trans z))]; exact ⟨h1, h2, h3⟩
  · rw [if_neg q, if_neg q]
    exact Paired.snoc r ⟨rfl, rfl, rv⟩
theorem putN_len (kvs : List NKV) (k : DK) (a : Addr) (v : V) : (putN kvs k a v).length ≤ kvs.length + 1 := by
  unfold putN
  split
  · rw [List.length_map]; omega
  · rw [List.length_append]; exact Nat.le_refl _
section
variable {X : Cx} {pins : List (Addr × Obj)} {σ : L2.St} {H : Hp} {s : Shared} {A : Around} {E : Value → Shared → Prop} {d a : Addr} {kvs : List NKV} {k : DK}
theorem dn_of (I : Inv X pins σ H s) (e : H d = some (DN X.prog X.w d kvs)) (ok : KeysOk X.K H kvs) : kvs.length ≤ sizeLine ∧ (d == sysModules) = false ∧ ∃ xs, NT kvs xs ∧ s.heap.DictOfH (nestKind X.prog X.w) d xs := by
  obtain ⟨⟨z, y, xs, r, o, es, ep, h1, h2, h3, h4, h5⟩, _, _⟩ := I.hok d _ e
  refine ⟨z, y, xs, r, o, es, ep, h1, h2, h3, h4, fun x hx => ?_, h5⟩
  have all : ∀ {l : List NKV} {m : List (DK × Addr × Value)}, NT l m → (∀ e ∈ l, KRep X.K H e.1 (.ref e.2.1) ∧ KOk e.1) → ∀ x ∈ m, (nestKind X.prog X.w).is s.heap x.1 x.2.1 := by
    intro l m q
    unfold NT at q
    induction q with
    | nil => intro _ x hx; exact nomatch hx
    | @cons p q ps qs hq t ih =>
      intro hl x hx
      rcases List.mem_cons.mp hx with e | hx
      · subst e
        have := hl p List.mem_cons_self
        rw [hq.1, hq.2.1] at this
        exact ⟨kis_of I this.1 rfl, this.2⟩
      · exact ih (fun e he => hl e (List.mem_cons_of_mem _ he)) x hx
  exact all r ok x hx
theorem dn_in {Q : Value → Shared → Prop} (hu : A.units + 16 < cLine) (I : Inv X pins σ H s) (e : H d = some (DN X.prog X.w d kvs)) (ok : KeysOk X.K H kvs) (hk : KRep X.K H k (.ref a)) (ho : KOk k) (h : ∀ s', Inv X pins σ H s' → Q (.bool (valN kvs k).isSome) s') :
    wpAny (model X.prog X.w) A (compareOp .In (.ref a) (.ref d)) Q E s := by
  obtain ⟨z, hd, xs, rel, dd⟩ := dn_of I e ok
  refine wpAny_in_heap (knd := nestKind X.prog X.w) (show A.units + 1 + 8 < cLine by omega) ⟨kis_of I hk rfl, ho⟩ hd dd ?_
  rw [← rel.some_eq k]
  exact h _ (I.tok _)
theorem dn_notIn {Q : Value → Shared → Prop} (hu : A.units + 16 < cLine) (I : Inv X pins σ H s) (e : H d = some (DN X.prog X.w d kvs)) (ok : KeysOk X.K H kvs) (hk : KRep X.K H k (.ref a)) (ho : KOk k) (h : ∀ s', Inv X pins σ H s' → Q (.bool (!(valN kvs k).isSome)) s') :
    wpAny (model X.prog X.w) A (compareOp .NotIn (.ref a) (.ref d)) Q E s := by
  obtain ⟨z, hd, xs, rel, dd⟩ := dn_of I e ok
  refine wpAny_notIn_heap (knd := nestKind X.prog X.w) (show A.units + 1 + 8 < cLine by omega) ⟨kis_of I hk rfl, ho⟩ hd dd ?_
  rw [← rel.some_eq k]
  exact h _ (I.tok _)
theorem dn_get {v : V} {Q : Value → Shared → Prop} (hu : A.units + 16 < cLine) (I : Inv X pins σ H s) (e : H d = some (DN X.prog X.w d kvs)) (ok : KeysOk X.K H kvs) (hk : KRep X.K H k (.ref a)) (ho : KOk k) (hv : valN kvs k = some v) (h : ∀ w' s', Inv X pins σ H s' → RelV v w' → Q w' s') :
    wpAny (model X.prog X.w) A (getItem (.ref d) (.ref a)) Q E s := by
  obtain ⟨z, hd, xs, rel, dd⟩ := dn_of I e ok
  obtain ⟨w', hw, rw'⟩ := RelO.some_of (v := v) (o := (atKey xs k).map (·.2)) (by rw [← hv]; exact rel.val k)
  obtain ⟨p, hp, hp2⟩ := Option.map_eq_some_iff.mp hw
  refine wpAny_getItem_heap (knd := nestKind X.prog X.w) (show A.units + 1 + 8 < cLine by omega) ⟨kis_of I hk rfl, ho⟩ dd hp ?_
  rw [hp2]
  exact h w' _ (I.tok _) rw'
theorem dn_set {v : V} {r : Value} {Q : Unit → Shared → Prop} (hu : A.units + 16 < cLine) (I : Inv X pins σ H s) (e : H d = some (DN X.prog X.w d kvs)) (ok : KeysOk X.K H kvs) (hk : KRep X.K H k (.ref a)) (ho : KOk k) (hl : kvs.length < sizeLine) (rv : RelV v r)
    (h : ∀ s', Inv X pins σ (upd H d (DN X.prog X.w d (putN kvs k a v))) s' → Q () s') : wpAny (model X.prog X.w) A (setItem (.ref d) (.ref a) r) Q E s := by
  obtain ⟨z, hd, xs, rel, dd⟩ := dn_of I e ok
  have hz : xs.length ≤ sizeLine := by rw [← Paired.length rel]; exact z
  refine wpAny_setItem_heap (knd := nestKind X.prog X.w) (hsz := hz) (show A.units + 1 + 8 < cLine by omega) ⟨kis_of I hk rfl, ho⟩ dd fun h' dd' hs => h _ ?_
  obtain ⟨q, es, ep, hq, h2, h3, h4, _, h5⟩ := dd'
  have hl2 := putN_len kvs k a v
  refine d_write I (by rw [e]; exact True.intro) hs ⟨q, hq⟩ ⟨⟨by omega, hd, _, rel.put k rv, q, es, ep, hq, h2, h3, h4, h5⟩, ⟨q, hq⟩, fun h1 h2 ⟨g1, g2, ys, g3, o, es, ep, g4, g5⟩ st => ⟨g1, g2, ys, g3, o, es, ep, st _ g4, g5⟩⟩
end
/-! ### the rules, by expression -/
def tNNew (P : Program) (w : World) : TE := fun _ H Q => ∀ p, H p = none → Q (.ref p) (upd H p (DN P w p []))
/-- what is asked of a dict d and a key's tuple -/
def NAsk (P : Program) (w : World) (K : PySem.W.Frag) (H : Hp) (x y : V) (d a : Addr) (kvs : List NKV) (k : DK) : Prop := x = .ref d ∧ y = .ref a ∧ H d = some (DN P w d kvs) ∧ KeysOk K H kvs ∧ KRep K H k (.ref a) ∧ KOk k
def tNIn (P : Program) (w : World) (K : PySem.W.Frag) (ty td : TE) : TE := fun σ H Q => ty σ H fun y H1 => td σ H1 fun x H2 => ∃ d a kvs k, NAsk P w K H2 x y d a kvs k ∧ Q (.bl (valN kvs k).isSome) H2
def tNNotIn (P : Program) (w : World) (K : PySem.W.Frag) (ty td : TE) : TE := fun σ H Q => ty σ H fun y H1 => td σ H1 fun x H2 => ∃ d a kvs k, NAsk P w K H2 x y d a kvs k ∧ Q (.bl (!(valN kvs k).isSome)) H2
def tNGet (P : Program) (w : World) (K : PySem.W.Frag) (td ty : TE) : TE := fun σ H Q => td σ H fun x H1 => ty σ H1 fun y H2 => ∃ d a kvs k v, NAsk P w K H2 x y d a kvs k ∧ valN kvs k = some v ∧ Q v H2
def sNPut (P : Program) (w : World) (K : PySem.W.Frag) (td ty tv : TE) : TS := fun D σ H => tv σ H fun v H1 => td σ H1 fun x H2 => ty σ H2 fun y H3 => ∃ d a kvs k, NAsk P w K H3 x y d a kvs k ∧ kvs.length < sizeLine ∧ D.nx σ (upd H3 d (DN P w d (putN kvs k a v)))
section
variable {X : Cx} {o i value : Expr} {td ty tv : TE} {pos pos' : Pos}
theorem dn_empty {P : Program} {w : World} {H : Hp} (h : Heap) (hb : sysModules < h.objs.size) : ObjOk P w H (h.push { cls := .type "dict", data := .dict #[] }) h.objs.size (DN P w h.objs.size []) :=
  ⟨⟨Nat.zero_le _, beq_eq_false_iff_ne.mpr (Ne.symm (Nat.ne_of_lt hb)), [], .nil, _, #[], 0, Heap.get?_push_size _ rfl, ⟨rfl, rfl, rfl⟩, rfl, rfl, List.nodup_nil⟩, ⟨_, Heap.get?_push_size _ rfl⟩,
    fun h1 h2 ⟨g1, g2, ys, g3, o, es, ep, g4, g5⟩ st => ⟨g1, g2, ys, g3, o, es, ep, st _ g4, g5⟩⟩
theorem pe_nnew : PE X (.Dict [] [] pos) (tNNew X.prog X.w) := ⟨fun pins s σ H Q I h =>
  wpAny_Dict_empty ⟨.ref s.heap.objs.size, _, I.laid (a := s.heap.objs.size) (o := DN X.prog X.w s.heap.objs.size []) (t' := s.toks) (fun _ _ q => Heap.get?_push_of_some _ q) (Nat.le_refl _) (dn_empty s.heap I.big), rfl, h _ (I.hok.fresh (Nat.le_refl _))⟩⟩
theorem pc_nin (hu : X.A.units + 16 < cLine) (hi : PE X i ty) (ho : PE X o td) : PC X .In i o (tNIn X.prog X.w X.K ty td) := by
  refine ⟨fun pins s σ H Q I h => ?_⟩
  refine thn (hi.run pins s σ H _ I h) fun iv s1 ⟨y, H1, I1, ry, q1⟩ => thn (ho.run pins s1 σ H1 _ I1 q1) fun u s2 ⟨x, H2, I2, rx, d, a, kvs, k, ⟨ex, ey, e, ok, hk, hko⟩, q2⟩ => ?_
  subst ex ey
  obtain rfl : u = Value.ref d := rx
  obtain rfl : iv = Value.ref a := ry
  exact dn_in hu I2 e ok hk hko fun s3 I3 => ⟨.bl (valN kvs k).isSome, H2, I3, rfl, q2⟩
theorem pc_nnotin (hu : X.A.units + 16 < cLine) (hi : PE X i ty) (ho : PE X o td) : PC X .NotIn i o (tNNotIn X.prog X.w X.K ty td) := by
  refine ⟨fun pins s σ H Q I h => ?_⟩
  refine thn (hi.run pins s σ H _ I h) fun iv s1 ⟨y, H1, I1, ry, q1⟩ => thn (ho.run pins s1 σ H1 _ I1 q1) fun u s2 ⟨x, H2, I2, rx, d, a, kvs, k, ⟨ex, ey, e, ok, hk, hko⟩, q2⟩ => ?_
  subst ex ey
  obtain rfl : u = Value.ref d := rx
  obtain rfl : iv = Value.ref a := ry
  exact dn_notIn hu I2 e ok hk hko fun s3 I3 => ⟨.bl (!(valN kvs k).isSome), H2, I3, rfl, q2⟩
theorem pe_nget (hu : X.A.units + 16 < cLine) (ho : PE X o td) (hi : PE X i ty) (hs : NoSl i) : PE X (.Subscript o i pos) (tNGet X.prog X.w X.K td ty) := by
  refine ⟨fun pins s σ H Q I h => ?_⟩
  refine subD_of PySem.F.slot_dict_getitem.lookup hs (thn (ho.run pins s σ H _ I h) fun u s1 ⟨x, H1, I1, rx, q1⟩ => thn (hi.run pins s1 σ H1 _ I1 q1) fun iv s2 ⟨y, H2, I2, ry, d, a, kvs, k, v, ⟨ex, ey, e, ok, hk, hko⟩, hv, q2⟩ => ?_)
  subst ex ey
  obtain rfl : u = Value.ref d := rx
  obtain rfl : iv = Value.ref a := ry
  obtain ⟨_, _, _, _, dd⟩ := dn_of I2 e ok
  exact ⟨dd.typeIs, dn_get hu I2 e ok hk hko hv fun w' s3 I3 rw' => ⟨v, H2, I3, rw', q2⟩⟩
theorem ps_nput (hu : X.A.units + 16 < cLine) (ho : PE X o td) (hi : PE X i ty) (hv : PE X value tv) (hs : swapsWith value (some (.Subscript o i pos')) pos.line X.env = pure false) :
    PS X (.Assign [.Subscript o i pos'] value pos) (sNPut X.prog X.w X.K td ty tv) := by
  refine ⟨fun pins s σ H D I h => ?_⟩
  refine wpAny_Assign_Subscript (thn (hv.run pins s σ H _ I h) fun r s1 ⟨v, H1, I1, rv, q1⟩ => thn (ho.run pins s1 σ H1 _ I1 q1) fun u s2 ⟨x, H2, I2, rx, q2⟩ => thn (hi.run pins s2 σ H2 _ I2 q2) fun iv s3 ⟨y, H3, I3, ry, d, a, kvs, k, ⟨ex, ey, e, ok, hk, hko⟩, hl, q3⟩ => ?_) hs
  subst ex ey
  obtain rfl : u = Value.ref d := rx
  obtain rfl : iv = Value.ref a := ry
  exact dn_set hu I3 e ok hk hko hl rv fun s4 I4 => ⟨σ, _, I4, q3⟩
end
end Hm

set_option Elab.async false
set_option linter.all false
set_option maxRecDepth 100000
set_option maxHeartbeats 1000000
/-! a dict of the module whose keys are tuples -/
namespace Hm
open PySem PySem.Spec PyProof.Rows L2
structure KNd (K : PySem.W.Frag) (P : Program) (w : World) (d : Addr) (kvs : List NKV) : Prop where
  low : (d == sysModules) = false
  at_ : ∀ h : Heap, K.In h → ∃ xs, NT kvs xs ∧ h.DictOfH (nestKind P w) d xs
section
variable {X : Cx} {d : Addr} {kvs : List NKV}
theorem op_in_kn (hu : X.A.units + 16 < cLine) (D : KNd X.K X.prog X.w d kvs) : OpR X (compareOp .In) (fun x y H Q => ∃ a k, x = .ref a ∧ y = .ref d ∧ KRep X.K H k (.ref a) ∧ KOk k ∧ Q (.bl (valN kvs k).isSome) H) := by
  intro pins s σ H x y v u Q I rx ry h
  obtain ⟨a, k, rfl, rfl, hk, ho, q⟩ := h
  obtain rfl : v = Value.ref a := rx
  obtain rfl : u = Value.ref d := ry
  obtain ⟨xs, rel, dd⟩ := D.at_ _ I.kIn
  refine wpAny_in_heap (knd := nestKind X.prog X.w) (show X.A.units + 1 + 8 < cLine by omega) ⟨kis_of I hk rfl, ho⟩ D.low dd ?_
  rw [← rel.some_eq k]
  exact ⟨.bl (valN kvs k).isSome, H, I.tok _, rfl, q⟩
end
/-- the key (f, n) -/
abbrev kFN (f : Str) (n : Int) : DK := .tup [.leaf (.inr f), .leaf (.inl n)]
/-- an entry of the module's dict: the key's tuple is the module's too -/
def KEnt (K : PySem.W.Frag) (P : Program) (w : World) (e : DictEntry) (p : NKV) : Prop :=
  ∃ (f : Str) (n : Int) (o : Option Addr) (t1 t2 : Tok) (m : Nat) (sl : Array (Option Value)), p.1 = kFN f n ∧ e.hash = kh P w (kFN f n) ∧ e.key = .ref p.2.1 ∧ RelV p.2.2 e.val ∧ K.lookup p.2.1 = some ⟨.type "tuple", o, .seq #[.str f t1, .int n t2] m, sl⟩
theorem kent_mk {K : PySem.W.Frag} {P : Program} {w : World} {f : Str} {n : Int} {a : Addr} {v : V} {u : Value} {hh : Int} {o : Option Addr} {t1 t2 : Tok} {m : Nat} {sl : Array (Option Value)} (hv : RelV v u) (hl : K.lookup a = some ⟨.type "tuple", o, .seq #[.str f t1, .int n t2] m, sl⟩) (hh' : hh = kh P w (kFN f n)) :
    KEnt K P w ⟨hh, .ref a, u⟩ (kFN f n, a, v) := ⟨f, n, o, t1, t2, m, sl, rfl, hh', rfl, hv, hl⟩
theorem kn_mk {K : PySem.W.Frag} {P : Program} {w : World} {d : Addr} {es : Array DictEntry} {n : Nat} {kvs : List NKV} (h : K.lookup d = some ⟨.type "dict", none, .dict es n, #[]⟩) (hs : (d == sysModules) = false) (he : PySem.Paired (KEnt K P w) es.toList kvs) (nd : (kvs.map (·.1)).Nodup) (ok : ∀ p ∈ kvs, KOk p.1) : KNd K P w d kvs := by
  refine ⟨hs, fun hp X => ?_⟩
  have key : ∀ {es : List DictEntry} {kvs : List NKV}, PySem.Paired (KEnt K P w) es kvs → (∀ p ∈ kvs, KOk p.1) → ∃ xs : List (DK × Addr × Value), NT kvs xs ∧ es = xs.map (entryOfKey (nestKind P w)) ∧ (∀ x ∈ xs, (nestKind P w).is hp x.1 x.2.1) ∧ xs.map (·.1) = kvs.map (·.1) := by
    intro es kvs q
    induction q with
    | nil => intro _; exact ⟨[], .nil, rfl, (fun x hx => absurd hx List.not_mem_nil), rfl⟩
    | @cons e p es ps hq t ih =>
      intro ok
      obtain ⟨xs, i1, i2, i3, i4⟩ := ih fun p hp => ok p (List.mem_cons_of_mem _ hp)
      obtain ⟨k, a, v⟩ := p
      obtain ⟨f, n, o, t1, t2, m, sl, e1, e2, e3, e4, e5⟩ := hq
      have e1' : k = kFN f n := e1
      subst e1'
      have e5' : hp.get? a = _ := X _ _ e5
      refine ⟨(kFN f n, a, e.val) :: xs, .cons ⟨rfl, rfl, e4⟩ i1, ?_, fun x hx => ?_, ?_⟩
      · rw [List.map_cons, ← i2]
        congr 1
        obtain ⟨eh, ek, ev⟩ := e
        have a1 : eh = _ := e2
        have a2 : ek = _ := e3
        subst a1 a2
        rfl
      · rcases List.mem_cons.mp hx with z | hx
        · subst z
          exact ⟨.tup e5' rfl rfl (.cons (.leaf (kV_is (k := Sum.inr f) ⟨t1, rfl⟩)) (.cons (.leaf (kV_is (k := Sum.inl n) ⟨t2, rfl⟩)) .nil)), ok _ List.mem_cons_self⟩
        · exact i3 x hx
      · rw [List.map_cons, List.map_cons, i4]
  obtain ⟨xs, i1, i2, i3, i4⟩ := key he ok
  exact ⟨xs, i1, _, es, n, X _ _ h, ⟨rfl, rfl, rfl⟩, rfl, i2, i3, by rw [i4]; exact nd⟩
end Hm

set_option Elab.async false
set_option linter.all false
set_option maxRecDepth 100000
set_option maxHeartbeats 1000000
/-! what the head tells, by a Hook of one's own: defs, classes of errors, a dict with keys that are tuples -/
namespace Hk
open PySem PySem.Spec PyProof.Rows L2 He
def newB : List (Option Value) → Bool
  | [_, _, _, _, some (.builtin n), _] => decide (n = "ValueError.__new__")
  | _ => false
theorem newB_ok : ∀ {l : List (Option Value)}, newB l = true → ∃ k0 k1 k2 k3 k5, l = [k0, k1, k2, k3, some (.builtin "ValueError.__new__"), k5]
  | [a, b, c, d, some (.builtin n), e], h => ⟨a, b, c, d, e, by rw [show n = "ValueError.__new__" from of_decide_eq_true h]⟩
def oexB (K : PySem.W.Frag) (C : Addr) : Bool := (match K.lookup C with
  | some ⟨.type c, _, .cls cd, sl⟩ => decide (c = "type") && (match cd.mro with
    | .ref C' :: bm => decide (C' = C) && (cd.hasDict && (!cd.hasDel && (PySem.HandSPX.refsVE bm && newB sl.toList)))
    | _ => false)
  | _ => false) && (eqO (PySem.W.findIn K (.ref C) "__setattr__") (some (some (.builtin "object.__setattr__"))) && (decide (PySem.W.subIn K (.ref C) (.type "BaseException") = some true) && (decide (PySem.W.typeIn K (.ref C) = some (.type "type")) && PySem.W.keepIn K (.ref C))))
theorem oexB_ok {K : PySem.W.Frag} {C : Addr} (h : oexB K C = true) : OexC K C := by
  unfold oexB at h
  obtain ⟨h1, h⟩ := ba h
  obtain ⟨h2, h⟩ := ba h
  obtain ⟨h3, h⟩ := ba h
  obtain ⟨h4, h5⟩ := ba h
  refine ⟨?_, eqO_ok h2, of_decide_eq_true h3, of_decide_eq_true h4, h5⟩
  cases q : K.lookup C with
  | none =>
    rw [q] at h1
    cases h1
  | some o =>
    obtain ⟨oc, od, dt, sl⟩ := o
    rw [q] at h1
    cases oc with
    | type c =>
      cases dt with
      | cls cd =>
        obtain ⟨z1, z2⟩ := ba h1
        obtain rfl : c = "type" := of_decide_eq_true z1
        obtain ⟨nm, bs, mro, ns, qn, hd, sn, sub, ab, col, del⟩ := cd
        cases mro with
        | nil => cases z2
        | cons m bm =>
          cases m with
          | ref C' =>
            obtain ⟨y1, y2⟩ := ba z2
            obtain ⟨y3, y4⟩ := ba y2
            obtain ⟨y5, y6⟩ := ba y4
            obtain ⟨y7, y8⟩ := ba y6
            obtain rfl : C' = C := of_decide_eq_true y1
            have e3 : hd = true := y3
            have e5 : del = false := by
              cases del
              · rfl
              · cases y5
            subst e3 e5
            obtain ⟨l⟩ := sl
            obtain ⟨k0, k1, k2, k3, k5, e⟩ := newB_ok (show newB l = true from y8)
            subst e
            exact ⟨nm, qn, ns, bs, bm, sn, sub, ab, col, od, k0, k1, k2, k3, k5, rfl, y7⟩
          | _ => cases z2
      | _ => cases h1
    | _ => cases h1
def errB (K : PySem.W.Frag) (x f : Str) : Bool := oexB K (ga K x) && (xfB K (ga K x) && (eqO (PySem.W.findIn K (.ref (ga K x)) f) (some none) && (eqO (PySem.W.findIn K (.ref (ga K x)) "__init__") (some (some (.ref (ma K (ga K x) "__init__")))) &&
  (decide (PySem.W.typeIn K (.ref (ma K (ga K x) "__init__")) = some (.type "function")) && decide (PySem.W.exmOne K (.ref (ga K x)) (.ref (ga K x)) = some true)))))
theorem errB_ok {K : PySem.W.Frag} {mg : Str → Option Value} {x f : Str} (h : errB K x f = true) (g : mg x = some (.ref (ga K x))) : RG.ErrE K mg x f (ga K x) (ma K (ga K x) "__init__") := by
  obtain ⟨h1, h⟩ := ba h
  obtain ⟨h2, h⟩ := ba h
  obtain ⟨h3, h⟩ := ba h
  obtain ⟨h4, h⟩ := ba h
  obtain ⟨h5, h6⟩ := ba h
  exact ⟨g, oexB_ok h1, xfB_ok h2, eqO_ok h3, eqO_ok h4, of_decide_eq_true h5, of_decide_eq_true h6⟩
def baseB (K : PySem.W.Frag) (x : Str) : Bool := PySem.W.readsIn K (ga K x) (.type "type") && (eqO (PySem.W.specialIn K (.ref (ga K x)) "__getattribute__") (some (some (.builtin "type.__getattribute__"))) && (match PySem.W.findCls K (.ref (ga K x)) (.type "type") "__init__" with
  | some (.val v) => decide (v = .builtin "ValueError.__init__")
  | _ => false))
theorem baseB_ok {K : PySem.W.Frag} {mg : Str → Option Value} {x : Str} (h : baseB K x = true) (g : mg x = some (.ref (ga K x))) : RG.BaseE K mg x (ga K x) := by
  obtain ⟨h1, h⟩ := ba h
  obtain ⟨h2, h3⟩ := ba h
  refine ⟨g, h1, eqO_ok h2, ?_⟩
  split at h3
  · rename_i v e
    rw [e, of_decide_eq_true h3]
  · cases h3
def isB (K : PySem.W.Frag) (D : Addr) : Bool := (PySem.W.clsIn K D).isSome && (eqO (PySem.W.findIn K (.ref D) "__getattribute__") (some (some (.builtin "BaseException.__getattribute__"))) && (eqO (PySem.W.findIn K (.ref D) "__getattr__") (some none) && (decide (PySem.W.subIn K (.ref D) (.type "BaseException") = some true) &&
  (eqO (PySem.W.findIn K (.ref D) "__class__") (some (some (.builtin "object.__class__"))) && (eqO (PySem.W.specialIn K (.builtin "object.__class__") "__get__") (some (some (.builtin "getset_descriptor.__get__"))) && (decide (PySem.W.takesIn K (.builtin "object.__class__") = some true) && decide (PySem.W.mroIn K D (.type "object") = some true)))))))
theorem isB_ok {K : PySem.W.Frag} {D : Addr} (h : isB K D = true) : RG.IsE K D := by
  obtain ⟨h1, h⟩ := ba h
  obtain ⟨h2, h⟩ := ba h
  obtain ⟨h3, h⟩ := ba h
  obtain ⟨h4, h⟩ := ba h
  obtain ⟨h5, h⟩ := ba h
  obtain ⟨h6, h⟩ := ba h
  obtain ⟨h7, h8⟩ := ba h
  exact ⟨h1, eqO_ok h2, eqO_ok h3, of_decide_eq_true h4, eqO_ok h5, eqO_ok h6, of_decide_eq_true h7, of_decide_eq_true h8⟩
def kitB (K : PySem.W.Frag) (x y : Str) : Bool := decide (PySem.W.kitOne K (.ref (ga K x)) (.ref (ga K y)) = some true)
theorem kitB_ok {K : PySem.W.Frag} {x y : Str} (h : kitB K x y = true) : PySem.W.kitOne K (.ref (ga K x)) (.ref (ga K y)) = some true := of_decide_eq_true h
/-! ### a dict with keys that are tuples of a text and a whole number, its values all True -/
def entO (K : PySem.W.Frag) (e : DictEntry) : Option (Str × Int) := match e.key with
  | .ref b => (match K.lookup b with
    | some ⟨.type c, _, .seq its _, _⟩ => (match its.toList with
      | [.str f _, .int n _] => (match e.val with
        | .bool v => (match decide (c = "tuple") && v with
          | true => some (f, n)
          | false => none)
        | _ => none)
      | _ => none)
    | _ => none)
  | _ => none
abbrev EnV : Type := Option (List (Option (Str × Int)) × List Int)
def enO (K : PySem.W.Frag) (a : Addr) : EnV := match K.lookup a with
  | some ⟨.type c, none, .dict es _, sl⟩ =>
    (match decide (c = "dict") && (sl.isEmpty && !(a == sysModules)) with
    | true => some (es.toList.map (entO K), es.toList.map (·.hash))
    | false => none)
  | _ => none
theorem entO_ok {K : PySem.W.Frag} {P : Program} {w : World} {e : DictEntry} {f : Str} {n : Int} (h : entO K e = some (f, n)) (hh : e.hash = Hm.kh P w (Hm.kFN f n)) : ∃ b, Hm.KEnt K P w e (Hm.kFN f n, b, .bl true) := by
  obtain ⟨eh, ek, ev⟩ := e
  unfold entO at h
  cases ek with
  | ref b =>
    dsimp only at h
    cases q : K.lookup b with
    | none =>
      rw [q] at h
      cases h
    | some o =>
      obtain ⟨oc, od, dt, sl⟩ := o
      rw [q] at h
      cases oc with
      | type c =>
        cases dt with
        | seq its m =>
          obtain ⟨l⟩ := its
          dsimp only at h
          split at h
          · rename_i f' t1 n' t2
            split at h
            · rename_i v
              cases z : decide (c = "tuple") && v with
              | false =>
                rw [z] at h
                cases h
              | true =>
                rw [z] at h
                obtain ⟨z1, z2⟩ := ba z
                obtain rfl : c = "tuple" := of_decide_eq_true z1
                subst z2
                obtain ⟨rfl, rfl⟩ := Prod.mk.inj (Option.some.inj h)
                exact ⟨b, f', n', od, t1, t2, m, sl, rfl, hh, rfl, rfl, q⟩
            · cases h
          · cases h
        | _ => cases h
      | _ => cases h
  | _ => cases h
theorem pairs_of {K : PySem.W.Frag} {P : Program} {w : World} : ∀ {es : List DictEntry} {l : List (Str × Nat)}, es.map (entO K) = l.map (fun p => some (p.1, (p.2 : Int))) → es.map (·.hash) = l.map (fun p => Hm.kh P w (Hm.kFN p.1 (p.2 : Int))) →
    ∃ kvs, PySem.Paired (Hm.KEnt K P w) es kvs ∧ kvs.map (·.1) = l.map fun p => Hm.kFN p.1 (p.2 : Int)
  | [], [], _, _ => ⟨[], .nil, rfl⟩
  | [], _ :: _, h, _ => by cases h
  | _ :: _, [], h, _ => by cases h
  | e :: es, p :: l, h, hh => by
    rw [List.map_cons, List.map_cons] at h hh
    injection h with h1 h2
    injection hh with g1 g2
    obtain ⟨b, hb⟩ := entO_ok h1 g1
    obtain ⟨kvs, i1, i2⟩ := pairs_of h2 g2
    exact ⟨(_, b, .bl true) :: kvs, .cons hb i1, by rw [List.map_cons, List.map_cons, i2]⟩
theorem enO_ok {K : PySem.W.Frag} {P : Program} {w : World} {a : Addr} {l : List (Str × Nat)} (h : enO K a = some (l.map (fun p => some (p.1, (p.2 : Int))), l.map (fun p => Hm.kh P w (Hm.kFN p.1 (p.2 : Int))))) (nd : (l.map fun p => Hm.kFN p.1 (p.2 : Int)).Nodup) (ok : ∀ p ∈ l, Hm.KOk (Hm.kFN p.1 (p.2 : Int))) :
    ∃ kvs, Hm.KNd K P w a kvs ∧ kvs.map (·.1) = l.map fun p => Hm.kFN p.1 (p.2 : Int) := by
  unfold enO at h
  cases q : K.lookup a with
  | none =>
    rw [q] at h
    cases h
  | some o =>
    obtain ⟨oc, od, dt, sl⟩ := o
    rw [q] at h
    cases oc with
    | type c =>
      cases od with
      | none =>
        cases dt with
        | dict es n =>
          dsimp only at h
          cases z : decide (c = "dict") && (sl.isEmpty && !(a == sysModules)) with
          | false =>
            rw [z] at h
            cases h
          | true =>
            rw [z] at h
            obtain ⟨z1, z2⟩ := ba z
            obtain ⟨z3, z4⟩ := ba z2
            obtain rfl : c = "dict" := of_decide_eq_true z1
            obtain rfl : sl = #[] := Array.isEmpty_iff.mp z3
            have e3 : (a == sysModules) = false := by
              cases y : a == sysModules with
              | false => rfl
              | true =>
                rw [y] at z4
                cases z4
            obtain ⟨e1, e2⟩ := Prod.mk.inj (Option.some.inj h)
            obtain ⟨kvs, i1, i2⟩ := pairs_of (P := P) (w := w) e1 e2
            refine ⟨kvs, Hm.kn_mk q e3 i1 (by rw [i2]; exact nd) (fun p hp => ?_), i2⟩
            have hm : p.1 ∈ kvs.map (·.1) := List.mem_map.mpr ⟨p, hp, rfl⟩
            rw [i2] at hm
            obtain ⟨x, hx, ex⟩ := List.mem_map.mp hm
            rw [← ex]
            exact ok x hx
        | _ => cases h
      | some b => cases dt <;> cases h
    | _ => cases od <;> cases dt <;> cases h
end Hk

set_option Elab.async false
set_option linter.all false
set_option maxRecDepth 100000
set_option maxHeartbeats 4000000
namespace Hm
open PySem PySem.Spec PyProof.Rows L2 HT

/-! ## terms, told in Lean -/
inductive Tm where
  | var (k : Int)
  | int (i : Int)
  | atom (s : Str)
  | comp (f : Str) (as : List Tm)

def Tm.args : Tm → List Tm
  | .comp _ as => as
  | _ => []
mutual
def size : Tm → Nat
  | .comp _ as => 1 + sizes as
  | _ => 1
def sizes : List Tm → Nat
  | [] => 0
  | t :: ts => size t + sizes ts
end
mutual
def depth : Tm → Nat
  | .comp _ as => 1 + depths as
  | _ => 1
def depths : List Tm → Nat
  | [] => 0
  | t :: ts => max (depth t) (depths ts)
end
mutual
/-- the parts, each ahead of its arguments -/
def pre : Tm → List Tm
  | .var k => [.var k]
  | .int i => [.int i]
  | .atom s => [.atom s]
  | .comp f as => .comp f as :: pres as
def pres : List Tm → List Tm
  | [] => []
  | t :: ts => pre t ++ pres ts
end
mutual
/-- variables replaced, all at once -/
def sub (g : Int → Tm) : Tm → Tm
  | .var k => g k
  | .int i => .int i
  | .atom s => .atom s
  | .comp f as => .comp f (subs g as)
def subs (g : Int → Tm) : List Tm → List Tm
  | [] => []
  | t :: ts => sub g t :: subs g ts
end
def AtomOk (s : Str) : Prop := s.cps.size ≤ 40 ∧ ∀ c ∈ s.cps.toList, 32 ≤ c ∧ c ≤ 126 ∧ c ≠ 37
def tooGreat : Int := (10 ^ 60) ^ 5
mutual
/-- a term as the document tells it -/
def Ok : Tm → Prop
  | .var k => 0 ≤ k
  | .int i => -tooGreat < i ∧ i < tooGreat
  | .atom s => AtomOk s
  | .comp f as => AtomOk f ∧ 1 ≤ as.length ∧ as.length ≤ 8 ∧ Oks as
def Oks : List Tm → Prop
  | [] => True
  | t :: ts => Ok t ∧ Oks ts
end

theorem sizes_cons (t : Tm) (ts : List Tm) : sizes (t :: ts) = size t + sizes ts := by rw [sizes]
theorem depths_cons (t : Tm) (ts : List Tm) : depths (t :: ts) = max (depth t) (depths ts) := by rw [depths]
theorem pres_cons (t : Tm) (ts : List Tm) : pres (t :: ts) = pre t ++ pres ts := by rw [pres]
theorem oks_cons (t : Tm) (ts : List Tm) : Oks (t :: ts) = (Ok t ∧ Oks ts) := by rw [Oks]
theorem size_pos : ∀ t : Tm, 1 ≤ size t
  | .var _ => Nat.le_refl _
  | .int _ => Nat.le_refl _
  | .atom _ => Nat.le_refl _
  | .comp _ as => by unfold size; omega
theorem sizes_app : ∀ xs ys : List Tm, sizes (xs ++ ys) = sizes xs + sizes ys
  | [], ys => by show sizes ys = sizes [] + sizes ys; unfold sizes; omega
  | x :: xs, ys => by
    show sizes (x :: (xs ++ ys)) = _
    rw [sizes_cons, sizes_cons, sizes_app xs ys]
    omega
theorem sizes_rev : ∀ xs : List Tm, sizes xs.reverse = sizes xs
  | [] => rfl
  | x :: xs => by
    rw [List.reverse_cons, sizes_app, sizes_rev xs, sizes_cons x xs]
    have : sizes [x] = size x := by simp [sizes]
    omega
theorem sizes_one (t : Tm) : sizes [t] = size t := by simp [sizes]
theorem size_eq : ∀ t : Tm, size t = 1 + sizes t.args
  | .var _ => by simp [size, Tm.args, sizes]
  | .int _ => by simp [size, Tm.args, sizes]
  | .atom _ => by simp [size, Tm.args, sizes]
  | .comp _ as => by simp [size, Tm.args]
theorem len_sizes : ∀ ts : List Tm, ts.length ≤ sizes ts
  | [] => Nat.zero_le _
  | t :: ts => by
    have h1 := size_pos t
    have h2 := len_sizes ts
    rw [List.length_cons]
    unfold sizes
    omega
theorem pre_eq : ∀ t : Tm, pre t = t :: pres t.args
  | .var _ => by simp [pre, Tm.args, pres]
  | .int _ => by simp [pre, Tm.args, pres]
  | .atom _ => by simp [pre, Tm.args, pres]
  | .comp _ as => by simp [pre, Tm.args]
theorem pres_app : ∀ xs ys : List Tm, pres (xs ++ ys) = pres xs ++ pres ys
  | [], ys => by simp [pres]
  | x :: xs, ys => by
    show pres (x :: (xs ++ ys)) = _
    rw [pres_cons, pres_cons, pres_app xs ys, List.append_assoc]
mutual
theorem len_pre : ∀ t : Tm, (pre t).length = size t
  | .var _ => rfl
  | .int _ => rfl
  | .atom _ => rfl
  | .comp f as => by
    unfold pre size
    rw [List.length_cons, len_pres as]
    omega
theorem len_pres : ∀ ts : List Tm, (pres ts).length = sizes ts
  | [] => rfl
  | t :: ts => by
    unfold pres sizes
    rw [List.length_append, len_pre t, len_pres ts]
end
theorem oks_app : ∀ {xs ys : List Tm}, Oks (xs ++ ys) ↔ Oks xs ∧ Oks ys
  | [], ys => by simp [Oks]
  | x :: xs, ys => by
    show Oks (x :: (xs ++ ys)) ↔ _
    rw [oks_cons, oks_cons, oks_app (xs := xs) (ys := ys)]
    constructor
    · rintro ⟨a, b, c⟩; exact ⟨⟨a, b⟩, c⟩
    · rintro ⟨⟨a, b⟩, c⟩; exact ⟨a, b, c⟩
theorem ok_args : ∀ {t : Tm}, Ok t → Oks t.args
  | .var _, _ => trivial
  | .int _, _ => trivial
  | .atom _, _ => trivial
  | .comp _ _, h => by unfold Ok at h; exact h.2.2.2
theorem depths_app : ∀ xs ys : List Tm, depths (xs ++ ys) = max (depths xs) (depths ys)
  | [], ys => by simp [depths]
  | x :: xs, ys => by
    show depths (x :: (xs ++ ys)) = _
    rw [depths_cons, depths_cons, depths_app xs ys]
    omega
theorem depth_eq : ∀ t : Tm, depth t = 1 + depths t.args
  | .var _ => by simp [depth, Tm.args, depths]
  | .int _ => by simp [depth, Tm.args, depths]
  | .atom _ => by simp [depth, Tm.args, depths]
  | .comp _ as => by simp [depth, Tm.args]
/-- the next layer -/
def layer (ts : List Tm) : List Tm := ts.flatMap Tm.args
theorem depths_layer : ∀ t ts, depths (t :: ts) = 1 + depths (layer (t :: ts))
  | t, [] => by
    unfold layer
    simp [depths, depth_eq]
  | t, u :: us => by
    have ih := depths_layer u us
    unfold layer at ih ⊢
    rw [List.flatMap_cons, depths_app]
    show max (depth t) (depths (u :: us)) = _
    rw [ih, depth_eq]
    omega
theorem sizes_layer : ∀ ts, sizes (layer ts) + ts.length = sizes ts
  | [] => rfl
  | t :: ts => by
    have ih := sizes_layer ts
    unfold layer at ih ⊢
    rw [List.flatMap_cons, sizes_app, List.length_cons, sizes_cons, size_eq t]
    omega

/-! ## variables, by first occurrence -/
def addNew (acc : List Int) (k : Int) : List Int := if k ∈ acc then acc else acc ++ [k]
def stepVar (acc : List Int) : Tm → List Int
  | .var k => addNew acc k
  | _ => acc
def varsOf (t : Tm) : List Int := (pre t).foldl stepVar []
theorem addNew_nodup {acc : List Int} {k : Int} (h : acc.Nodup) : (addNew acc k).Nodup := by
  unfold addNew
  by_cases q : k ∈ acc
  · rw [if_pos q]; exact h
  · rw [if_neg q, List.nodup_append]
    exact ⟨h, by simp, fun a ha b hb e => by
      simp only [List.mem_singleton] at hb
      subst hb
      subst e
      exact q ha⟩
theorem addNew_len (acc : List Int) (k : Int) : (addNew acc k).length ≤ acc.length + 1 := by
  unfold addNew
  split
  · omega
  · rw [List.length_append, List.length_singleton]; omega
theorem stepVar_nodup {acc : List Int} {t : Tm} (h : acc.Nodup) : (stepVar acc t).Nodup := by
  cases t <;> first | exact addNew_nodup h | exact h
theorem stepVar_len (acc : List Int) (t : Tm) : (stepVar acc t).length ≤ acc.length + 1 := by
  cases t <;> first | exact addNew_len acc _ | exact Nat.le_succ _
theorem fold_nodup : ∀ (ts : List Tm) {acc : List Int}, acc.Nodup → (ts.foldl stepVar acc).Nodup
  | [], _, h => h
  | t :: ts, _, h => fold_nodup ts (stepVar_nodup h)
theorem fold_len : ∀ (ts : List Tm) (acc : List Int), (ts.foldl stepVar acc).length ≤ acc.length + ts.length
  | [], _ => Nat.le_refl _
  | t :: ts, acc => by
    have h := fold_len ts (stepVar acc t)
    have h2 := stepVar_len acc t
    rw [List.foldl_cons, List.length_cons]
    omega
theorem varsOf_nodup (t : Tm) : (varsOf t).Nodup := fold_nodup _ List.nodup_nil
theorem varsOf_len (t : Tm) : (varsOf t).length ≤ size t := by
  have h := fold_len (pre t) []
  rw [len_pre, List.length_nil, Nat.zero_add] at h
  exact h

/-! ## rows, and what folding them gives -/
inductive Rw where
  | leaf (t : Tm)
  | node (f : Str) (n : Nat)
mutual
def rowOf (g : Int → Tm) : Tm → List Rw
  | .var k => [.leaf (g k)]
  | .int i => [.leaf (.int i)]
  | .atom s => [.leaf (.atom s)]
  | .comp f as => .node f as.length :: rowsOf g as
def rowsOf (g : Int → Tm) : List Tm → List Rw
  | [] => []
  | t :: ts => rowOf g t ++ rowsOf g ts
end
def rw1 (g : Int → Tm) : Tm → Rw
  | .var k => .leaf (g k)
  | .int i => .leaf (.int i)
  | .atom s => .leaf (.atom s)
  | .comp f as => .node f as.length
mutual
theorem row_pre (g : Int → Tm) : ∀ t : Tm, (pre t).map (rw1 g) = rowOf g t
  | .var _ => rfl
  | .int _ => rfl
  | .atom _ => rfl
  | .comp f as => by
    unfold pre rowOf
    rw [List.map_cons, row_pres g as]
    rfl
theorem row_pres (g : Int → Tm) : ∀ ts : List Tm, (pres ts).map (rw1 g) = rowsOf g ts
  | [] => rfl
  | t :: ts => by
    unfold pres rowsOf
    rw [List.map_append, row_pre g t, row_pres g ts]
end
/-- one turn of folding: the stack has its top at its end -/
def turn (r : Rw) (D : List Tm) : List Tm :=
  match r with
  | .leaf t => D ++ [t]
  | .node f n => D.take (D.length - n) ++ [.comp f (D.drop (D.length - n)).reverse]
theorem subs_len (g : Int → Tm) : ∀ ts : List Tm, (subs g ts).length = ts.length
  | [] => rfl
  | t :: ts => by
    unfold subs
    rw [List.length_cons, List.length_cons, subs_len g ts]
mutual
theorem fold_row (g : Int → Tm) : ∀ (t : Tm) (D : List Tm), (rowOf g t).foldr turn D = D ++ [sub g t]
  | .var _, _ => rfl
  | .int _, _ => rfl
  | .atom _, _ => rfl
  | .comp f as, D => by
    unfold rowOf sub
    rw [List.foldr_cons, fold_rows g as D]
    unfold turn
    have hl : (D ++ (subs g as).reverse).length - as.length = D.length := by
      rw [List.length_append, List.length_reverse, subs_len]
      omega
    dsimp only
    rw [hl, List.take_left' rfl, List.drop_left' rfl, List.reverse_reverse]
theorem fold_rows (g : Int → Tm) : ∀ (ts : List Tm) (D : List Tm), (rowsOf g ts).foldr turn D = D ++ (subs g ts).reverse
  | [], D => by simp [rowsOf, subs]
  | t :: ts, D => by
    unfold rowsOf subs
    rw [List.foldr_append, fold_rows g ts D, fold_row g t, List.reverse_cons, List.append_assoc]
end
/-- each node of a row finds its arguments on the stack -/
def Rooms : List Rw → List Tm → Prop
  | [], _ => True
  | r :: rs, D => Rooms rs D ∧ (match r with
    | .leaf _ => True
    | .node _ n => 1 ≤ n ∧ n ≤ (rs.foldr turn D).length)
theorem rooms_cons (r : Rw) (rs : List Rw) (D : List Tm) : Rooms (r :: rs) D = (Rooms rs D ∧ (match r with
    | .leaf _ => True
    | .node _ n => 1 ≤ n ∧ n ≤ (rs.foldr turn D).length)) := by
  cases r <;> rfl
theorem rooms_app : ∀ {xs ys : List Rw} {D : List Tm}, Rooms (xs ++ ys) D ↔ Rooms ys D ∧ Rooms xs (ys.foldr turn D)
  | [], ys, D => by simp [Rooms]
  | x :: xs, ys, D => by
    show Rooms (x :: (xs ++ ys)) D ↔ _
    rw [rooms_cons, rooms_cons, rooms_app (xs := xs) (ys := ys), List.foldr_append]
    constructor
    · rintro ⟨⟨a, b⟩, c⟩; exact ⟨a, b, c⟩
    · rintro ⟨a, b, c⟩; exact ⟨⟨a, b⟩, c⟩
mutual
theorem rooms_row (g : Int → Tm) : ∀ (t : Tm) (D : List Tm), Ok t → Rooms (rowOf g t) D
  | .var _, _, _ => ⟨trivial, trivial⟩
  | .int _, _, _ => ⟨trivial, trivial⟩
  | .atom _, _, _ => ⟨trivial, trivial⟩
  | .comp f as, D, h => by
    unfold Ok at h
    unfold rowOf
    refine ⟨rooms_rows g as D h.2.2.2, h.2.1, ?_⟩
    rw [fold_rows g as D, List.length_append, List.length_reverse, subs_len]
    omega
theorem rooms_rows (g : Int → Tm) : ∀ (ts : List Tm) (D : List Tm), Oks ts → Rooms (rowsOf g ts) D
  | [], _, _ => trivial
  | t :: ts, D, h => by
    unfold Oks at h
    unfold rowsOf
    exact rooms_app.mpr ⟨rooms_rows g ts D h.2, rooms_row g t _ h.1⟩
end

/-! ## how a heap bears a term -/
mutual
def Rep (K : PySem.W.Frag) (H : Hp) : Tm → V → Prop
  | .var k, v => ∃ a, v = .ref a ∧ SqT K H a [.int k]
  | .int i, v => v = .int i
  | .atom s, v => v = .str s
  | .comp f as, v => ∃ a vs, v = .ref a ∧ SqT K H a (.str f :: vs) ∧ Reps K H as vs
def Reps (K : PySem.W.Frag) (H : Hp) : List Tm → List V → Prop
  | [], vs => vs = []
  | t :: ts, vs => ∃ v ws, vs = v :: ws ∧ Rep K H t v ∧ Reps K H ts ws
end
/-- tuples stay -/
def Tups (K : PySem.W.Frag) (H H' : Hp) : Prop := ∀ a xs, SqT K H a xs → SqT K H' a xs
theorem Tups.refl {K : PySem.W.Frag} (H : Hp) : Tups K H H := fun _ _ h => h
theorem Tups.trans {K : PySem.W.Frag} {H H1 H2 : Hp} (a : Tups K H H1) (b : Tups K H1 H2) : Tups K H H2 := fun x xs h => b x xs (a x xs h)
theorem Tups.of {K : PySem.W.Frag} {H H' : Hp} (e : Evl.Ex H H') : Tups K H H' := fun _ _ h => Evl.ex_t e h
/-- a list of H is changed -/
theorem Tups.lst {K : PySem.W.Frag} {H : Hp} {l : Addr} {xs : List V} {o : HO} (h : H l = some (.lst xs)) : Tups K H (upd H l o) := fun a ys q => by
  rcases q with (q | ⟨ob, q⟩) | q
  · exact .inl (.inl (by rw [upd_ne (ne_of q h (by intro z; cases z))]; exact q))
  · exact .inl (.inr ⟨ob, by rw [upd_ne (ne_of q h (by intro z; cases z))]; exact q⟩)
  · exact .inr q
theorem tups_dk {K : PySem.W.Frag} {H : Hp} {l : Addr} {kvs : List (Key × V)} {o : HO} (h : H l = some (.dK kvs)) : Tups K H (upd H l o) := fun a ys q => by
  rcases q with (q | ⟨ob, q⟩) | q
  · exact .inl (.inl (by rw [upd_ne (ne_of q h (by intro z; cases z))]; exact q))
  · exact .inl (.inr ⟨ob, by rw [upd_ne (ne_of q h (by intro z; cases z))]; exact q⟩)
  · exact .inr q
section
variable {K : PySem.W.Frag} {H H' : Hp}
mutual
theorem Rep.mono (e : Tups K H H') : ∀ {t : Tm} {v : V}, Rep K H t v → Rep K H' t v
  | .var k, v, h => by
    unfold Rep at h ⊢
    obtain ⟨a, e1, q⟩ := h
    exact ⟨a, e1, e _ _ q⟩
  | .int i, v, h => by unfold Rep at h ⊢; exact h
  | .atom s, v, h => by unfold Rep at h ⊢; exact h
  | .comp f as, v, h => by
    unfold Rep at h ⊢
    obtain ⟨a, vs, e1, q, r⟩ := h
    exact ⟨a, vs, e1, e _ _ q, Reps.mono e r⟩
theorem Reps.mono (e : Tups K H H') : ∀ {ts : List Tm} {vs : List V}, Reps K H ts vs → Reps K H' ts vs
  | [], vs, h => by unfold Reps at h ⊢; exact h
  | t :: ts, vs, h => by
    unfold Reps at h ⊢
    obtain ⟨v, ws, e1, q, r⟩ := h
    exact ⟨v, ws, e1, Rep.mono e q, Reps.mono e r⟩
end
theorem Reps.nil : Reps K H [] [] := by unfold Reps; rfl
theorem Reps.cons {t : Tm} {ts : List Tm} {v : V} {vs : List V} (h : Rep K H t v) (r : Reps K H ts vs) : Reps K H (t :: ts) (v :: vs) := by
  unfold Reps
  exact ⟨v, vs, rfl, h, r⟩
theorem Reps.one {t : Tm} {v : V} (h : Rep K H t v) : Reps K H [t] [v] := Reps.cons h Reps.nil
theorem Reps.cons_inv {t : Tm} {ts : List Tm} {vs : List V} (h : Reps K H (t :: ts) vs) : ∃ v ws, vs = v :: ws ∧ Rep K H t v ∧ Reps K H ts ws := by
  unfold Reps at h
  exact h
theorem Reps.nil_inv {vs : List V} (h : Reps K H [] vs) : vs = [] := by
  unfold Reps at h
  exact h
theorem Reps.len : ∀ {ts : List Tm} {vs : List V}, Reps K H ts vs → ts.length = vs.length
  | [], vs, h => by rw [h.nil_inv] <;> rfl
  | t :: ts, vs, h => by
    obtain ⟨v, ws, e, _, r⟩ := h.cons_inv
    rw [e, List.length_cons, List.length_cons, Reps.len r]
theorem Reps.app : ∀ {ts us : List Tm} {vs ws : List V}, Reps K H ts vs → Reps K H us ws → Reps K H (ts ++ us) (vs ++ ws)
  | [], us, vs, ws, h, r => by rw [h.nil_inv]; exact r
  | t :: ts, us, vs, ws, h, r => by
    obtain ⟨v, xs, e, q, s⟩ := h.cons_inv
    rw [e]
    exact Reps.cons q (Reps.app s r)
theorem Reps.app_inv : ∀ {ts us : List Tm} {vs : List V}, Reps K H (ts ++ us) vs → ∃ v1 v2, vs = v1 ++ v2 ∧ Reps K H ts v1 ∧ Reps K H us v2
  | [], us, vs, h => ⟨[], vs, rfl, Reps.nil, h⟩
  | t :: ts, us, vs, h => by
    obtain ⟨v, ws, e, q, r⟩ := Reps.cons_inv (ts := ts ++ us) h
    obtain ⟨v1, v2, e2, r1, r2⟩ := Reps.app_inv r
    exact ⟨v :: v1, v2, by rw [e, e2]; rfl, Reps.cons q r1, r2⟩
theorem Reps.rev : ∀ {ts : List Tm} {vs : List V}, Reps K H ts vs → Reps K H ts.reverse vs.reverse
  | [], vs, h => by rw [h.nil_inv]; exact Reps.nil
  | t :: ts, vs, h => by
    obtain ⟨v, ws, e, q, r⟩ := h.cons_inv
    rw [e, List.reverse_cons, List.reverse_cons]
    exact Reps.app (Reps.rev r) (Reps.one q)
theorem Reps.get : ∀ {ts : List Tm} {vs : List V} {i : Nat} {v : V}, Reps K H ts vs → vs[i]? = some v → ∃ t, ts[i]? = some t ∧ Rep K H t v
  | [], vs, i, v, h, e => by rw [h.nil_inv] at e; simp at e
  | t :: ts, vs, i, v, h, e => by
    obtain ⟨w, ws, e1, q, r⟩ := h.cons_inv
    rw [e1] at e
    cases i with
    | zero =>
      have : w = v := by simpa using e
      subst this
      exact ⟨t, rfl, q⟩
    | succ i =>
      obtain ⟨u, h1, h2⟩ := Reps.get (i := i) r (by simpa using e)
      exact ⟨u, by simpa using h1, h2⟩
/-- the last one -/
theorem Reps.last {ts : List Tm} {t : Tm} {vs : List V} (h : Reps K H (ts ++ [t]) vs) : ∃ ws v, vs = ws ++ [v] ∧ Reps K H ts ws ∧ Rep K H t v := by
  obtain ⟨v1, v2, e, r1, r2⟩ := h.app_inv
  obtain ⟨v, ws, e2, q, r⟩ := r2.cons_inv
  rw [r.nil_inv] at e2
  exact ⟨v1, v, by rw [e, e2], r1, q⟩
theorem Reps.take {ts : List Tm} {vs : List V} (h : Reps K H ts vs) (n : Nat) : Reps K H (ts.take n) (vs.take n) := by
  induction n generalizing ts vs with
  | zero => exact Reps.nil
  | succ n ih =>
    cases ts with
    | nil => rw [h.nil_inv]; exact Reps.nil
    | cons t ts =>
      obtain ⟨v, ws, e, q, r⟩ := h.cons_inv
      rw [e, List.take_succ_cons, List.take_succ_cons]
      exact Reps.cons q (ih r)
theorem Reps.drop {ts : List Tm} {vs : List V} (h : Reps K H ts vs) (n : Nat) : Reps K H (ts.drop n) (vs.drop n) := by
  induction n generalizing ts vs with
  | zero => exact h
  | succ n ih =>
    cases ts with
    | nil => rw [h.nil_inv]; exact Reps.nil
    | cons t ts =>
      obtain ⟨v, ws, e, q, r⟩ := h.cons_inv
      rw [e, List.drop_succ_cons, List.drop_succ_cons]
      exact ih r
end
end Hm

set_option Elab.async false
set_option linter.all false
set_option maxRecDepth 100000
set_option maxHeartbeats 1000000
namespace Hm
open PySem PySem.Spec PyProof.Rows L2 HT
theorem oks_get : ∀ {ts : List Tm} {i : Nat} {t : Tm}, Oks ts → ts[i]? = some t → Ok t
  | [], i, _, _, e => by simp at e
  | u :: us, 0, t, h, e => by
    rw [oks_cons] at h
    have : u = t := by simpa using e
    exact this ▸ h.1
  | u :: us, i + 1, t, h, e => by
    rw [oks_cons] at h
    exact oks_get h.2 (by simpa using e)
mutual
theorem ok_pre : ∀ {t : Tm}, Ok t → Oks (pre t)
  | .var _, h => by unfold pre; rw [oks_cons]; exact ⟨h, trivial⟩
  | .int _, h => by unfold pre; rw [oks_cons]; exact ⟨h, trivial⟩
  | .atom _, h => by unfold pre; rw [oks_cons]; exact ⟨h, trivial⟩
  | .comp f as, h => by
    have h2 := h
    unfold Ok at h2
    unfold pre
    rw [oks_cons]
    exact ⟨h, ok_pres h2.2.2.2⟩
theorem ok_pres : ∀ {ts : List Tm}, Oks ts → Oks (pres ts)
  | [], _ => trivial
  | t :: ts, h => by
    rw [oks_cons] at h
    rw [pres_cons]
    exact oks_app.mpr ⟨ok_pre h.1, ok_pres h.2⟩
end
/-! ## comparing: -1, 0, 1 -/
structure Cmpr {α : Type} (c : α → α → Int) : Prop where
  refl : ∀ a, c a a = 0
  eq : ∀ a b, c a b = 0 → a = b
  anti : ∀ a b, c b a = - c a b
  tr : ∀ a b d, c a b ≤ 0 → c b d ≤ 0 → c a d ≤ 0
  ran : ∀ a b, c a b = -1 ∨ c a b = 0 ∨ c a b = 1
def intC (i j : Int) : Int := if i = j then 0 else if i < j then -1 else 1
theorem intC_ok : Cmpr intC := by
  refine ⟨fun a => if_pos rfl, fun a b h => ?_, fun a b => ?_, fun a b d h1 h2 => ?_, fun a b => ?_⟩
  · unfold intC at h
    split at h
    · assumption
    · split at h <;> omega
  · unfold intC
    split <;> split <;> (try split) <;> (try split) <;> omega
  · unfold intC at *
    split at h1 <;> split at h2 <;> (try split at h1) <;> (try split at h2) <;> split <;> (try split) <;> omega
  · unfold intC
    split
    · exact .inr (.inl rfl)
    · split
      · exact .inl rfl
      · exact .inr (.inr rfl)
def lexC {α : Type} (c : α → α → Int) : List α → List α → Int
  | [], [] => 0
  | [], _ :: _ => -1
  | _ :: _, [] => 1
  | x :: xs, y :: ys => if c x y = 0 then lexC c xs ys else c x y
section
variable {α : Type} {c : α → α → Int}
theorem lexC_cons (x y : α) (xs ys : List α) : lexC c (x :: xs) (y :: ys) = if c x y = 0 then lexC c xs ys else c x y := by rw [lexC]
theorem lexC_refl (C : Cmpr c) : ∀ xs : List α, lexC c xs xs = 0
  | [] => rfl
  | x :: xs => by
    rw [lexC_cons, if_pos (C.refl x), lexC_refl C xs]
theorem lexC_eq (C : Cmpr c) : ∀ xs ys : List α, lexC c xs ys = 0 → xs = ys
  | [], [], _ => rfl
  | [], _ :: _, h => by simp [lexC] at h
  | _ :: _, [], h => by simp [lexC] at h
  | x :: xs, y :: ys, h => by
    rw [lexC_cons] at h
    split at h
    · next e => rw [C.eq x y e, lexC_eq C xs ys h]
    · contradiction
theorem lexC_anti (C : Cmpr c) : ∀ xs ys : List α, lexC c ys xs = - lexC c xs ys
  | [], [] => rfl
  | [], _ :: _ => by simp [lexC]
  | _ :: _, [] => by simp [lexC]
  | x :: xs, y :: ys => by
    have a := C.anti x y
    rw [lexC_cons, lexC_cons, lexC_anti C xs ys]
    split <;> split <;> omega
theorem lexC_ran (C : Cmpr c) : ∀ xs ys : List α, lexC c xs ys = -1 ∨ lexC c xs ys = 0 ∨ lexC c xs ys = 1
  | [], [] => .inr (.inl rfl)
  | [], _ :: _ => .inl rfl
  | _ :: _, [] => .inr (.inr rfl)
  | x :: xs, y :: ys => by
    rw [lexC_cons]
    split
    · exact lexC_ran C xs ys
    · exact C.ran x y
theorem lexC_tr (C : Cmpr c) : ∀ xs ys zs : List α, lexC c xs ys ≤ 0 → lexC c ys zs ≤ 0 → lexC c xs zs ≤ 0
  | [], _, [], _, _ => by simp [lexC]
  | [], _, _ :: _, _, _ => by simp [lexC]
  | _ :: _, [], _, h, _ => by simp [lexC] at h
  | _ :: _, _ :: _, [], _, h => by simp [lexC] at h
  | x :: xs, y :: ys, z :: zs, h1, h2 => by
    rw [lexC_cons] at h1 h2 ⊢
    have ran := C.ran x y
    by_cases e1 : c x y = 0
    · rw [if_pos e1] at h1
      have := C.eq x y e1
      subst this
      by_cases e2 : c x z = 0
      · rw [if_pos e2] at h2 ⊢
        exact lexC_tr C xs ys zs h1 h2
      · rw [if_neg e2] at h2 ⊢
        exact h2
    · rw [if_neg e1] at h1
      by_cases e2 : c y z = 0
      · have := C.eq y z e2
        subst this
        rw [if_neg e1]
        exact h1
      · rw [if_neg e2] at h2
        have h3 := C.tr x y z h1 h2
        have h4 : c x z ≠ 0 := fun e => by
          have := C.eq x z e
          subst this
          have := C.anti x y
          omega
        rw [if_neg h4]
        exact h3
theorem lexC_ok (C : Cmpr c) : Cmpr (lexC c) := ⟨lexC_refl C, lexC_eq C, lexC_anti C, lexC_tr C, lexC_ran C⟩
end
/-! ## heads -/
def cpsI (s : Str) : List Int := s.cps.toList.map fun n : Nat => (n : Int)
def sC (a b : Str) : Int := lexC intC (cpsI a) (cpsI b)
theorem natlex : ∀ xs ys : List Nat, lexC intC (xs.map fun n : Nat => (n : Int)) (ys.map fun n : Nat => (n : Int)) = if xs = ys then 0 else if xs < ys then -1 else 1
  | [], [] => by simp [lexC]
  | [], y :: ys => by simp [lexC]
  | x :: xs, [] => by simp [lexC]
  | x :: xs, y :: ys => by
    rw [List.map_cons, List.map_cons, lexC_cons, natlex xs ys]
    unfold intC
    by_cases e : x = y
    · subst e
      rw [if_pos rfl, if_pos rfl]
      by_cases e2 : xs = ys
      · subst e2
        simp
      · have n2 : ¬ x :: xs = x :: ys := fun z => e2 (List.cons.inj z).2
        rw [if_neg e2, if_neg n2]
        by_cases l : xs < ys
        · rw [if_pos l, if_pos (List.cons_lt_cons_iff.mpr (.inr ⟨rfl, l⟩))]
        · rw [if_neg l, if_neg]
          intro z
          rcases List.cons_lt_cons_iff.mp z with z | z
          · omega
          · exact l z.2
    · have e1 : ¬ (x : Int) = (y : Int) := by omega
      have n2 : ¬ x :: xs = y :: ys := fun z => e (List.cons.inj z).1
      rw [if_neg e1, if_neg n2]
      by_cases l : (x : Int) < (y : Int)
      · rw [if_pos l, if_neg (by decide), if_pos (List.cons_lt_cons_iff.mpr (.inl (by omega)))]
      · rw [if_neg l, if_neg (by decide), if_neg]
        intro z
        rcases List.cons_lt_cons_iff.mp z with z | z
        · omega
        · exact e z.1
theorem sC_eq (a b : Str) : sC a b = if a = b then 0 else if a.cps.toList < b.cps.toList then -1 else 1 := by
  unfold sC cpsI
  rw [natlex]
  by_cases e : a = b
  · subst e
    rw [if_pos rfl, if_pos rfl]
  · rw [if_neg e, if_neg]
    intro z
    have := Array.toList_inj.mp z
    apply e
    cases a
    cases b
    simp only [Str.mk.injEq]
    exact this
def hcode : Tm → List Int
  | .var k => [0, k]
  | .int i => [1, i]
  | .atom s => 2 :: cpsI s
  | .comp f as => 3 :: (as.length : Int) :: cpsI f
abbrev hC : List Int → List Int → Int := lexC intC
theorem hC_ok : Cmpr hC := lexC_ok intC_ok
abbrev kC : List (List Int) → List (List Int) → Int := lexC hC
theorem kC_ok : Cmpr kC := lexC_ok hC_ok
def kcode (t : Tm) : List (List Int) := (pre t).map hcode
mutual
def tord : Tm → Tm → Int
  | .comp f as, .comp g bs => if intC as.length bs.length = 0 then (if sC f g = 0 then tords as bs else sC f g) else intC as.length bs.length
  | .var k, t => hC (hcode (.var k)) (hcode t)
  | .int k, t => hC (hcode (.int k)) (hcode t)
  | .atom k, t => hC (hcode (.atom k)) (hcode t)
  | .comp f as, t => hC (hcode (.comp f as)) (hcode t)
def tords : List Tm → List Tm → Int
  | a :: as, b :: bs => if tord a b = 0 then tords as bs else tord a b
  | _, _ => 0
end
theorem hC3 (n m : Int) (f g : Str) : hC (3 :: n :: cpsI f) (3 :: m :: cpsI g) = if intC n m = 0 then sC f g else intC n m := by
  show lexC intC _ _ = _
  rw [lexC_cons, if_pos (by decide), lexC_cons]
  rfl
theorem hC_tag {a b : Int} (h : a ≠ b) (xs ys : List Int) : hC (a :: xs) (b :: ys) ≠ 0 := by
  show lexC intC _ _ ≠ 0
  have : intC a b ≠ 0 := fun z => h (intC_ok.eq a b z)
  rw [lexC_cons, if_neg this]
  exact this
def rank : Tm → Int
  | .var _ => 0
  | .int _ => 1
  | .atom _ => 2
  | .comp _ _ => 3
theorem hC_rank {s t : Tm} (h : rank s ≠ rank t) : hC (hcode s) (hcode t) ≠ 0 := by
  cases s <;> cases t <;> first | exact absurd rfl h | exact hC_tag (by decide) _ _
mutual
theorem ord_pre : ∀ (s t : Tm) (xs ys : List (List Int)), kC ((pre s).map hcode ++ xs) ((pre t).map hcode ++ ys) = if tord s t = 0 then kC xs ys else tord s t
  | .var i, .var j, xs, ys => by
    show lexC hC (hcode (.var i) :: xs) (hcode (.var j) :: ys) = _
    rw [lexC_cons]
    rfl
  | .var i, .int j, xs, ys => by
    show lexC hC (hcode (.var i) :: xs) (hcode (.int j) :: ys) = _
    rw [lexC_cons]
    rfl
  | .var i, .atom j, xs, ys => by
    show lexC hC (hcode (.var i) :: xs) (hcode (.atom j) :: ys) = _
    rw [lexC_cons]
    rfl
  | .var i, .comp g bs, xs, ys => by
    rw [pre, pre]
    show lexC hC (hcode (.var i) :: xs) (hcode (.comp g bs) :: _) = _
    have h : hC (hcode (.var i)) (hcode (.comp g bs)) ≠ 0 := hC_rank (by simp [rank])
    rw [lexC_cons, if_neg h]
    show _ = if hC (hcode (.var i)) (hcode (.comp g bs)) = 0 then _ else _
    rw [if_neg h]
    rfl
  | .int i, .var j, xs, ys => by
    show lexC hC (hcode (.int i) :: xs) (hcode (.var j) :: ys) = _
    rw [lexC_cons]
    rfl
  | .int i, .int j, xs, ys => by
    show lexC hC (hcode (.int i) :: xs) (hcode (.int j) :: ys) = _
    rw [lexC_cons]
    rfl
  | .int i, .atom j, xs, ys => by
    show lexC hC (hcode (.int i) :: xs) (hcode (.atom j) :: ys) = _
    rw [lexC_cons]
    rfl
  | .int i, .comp g bs, xs, ys => by
    rw [pre, pre]
    show lexC hC (hcode (.int i) :: xs) (hcode (.comp g bs) :: _) = _
    have h : hC (hcode (.int i)) (hcode (.comp g bs)) ≠ 0 := hC_rank (by simp [rank])
    rw [lexC_cons, if_neg h]
    show _ = if hC (hcode (.int i)) (hcode (.comp g bs)) = 0 then _ else _
    rw [if_neg h]
    rfl
  | .atom i, .var j, xs, ys => by
    show lexC hC (hcode (.atom i) :: xs) (hcode (.var j) :: ys) = _
    rw [lexC_cons]
    rfl
  | .atom i, .int j, xs, ys => by
    show lexC hC (hcode (.atom i) :: xs) (hcode (.int j) :: ys) = _
    rw [lexC_cons]
    rfl
  | .atom i, .atom j, xs, ys => by
    show lexC hC (hcode (.atom i) :: xs) (hcode (.atom j) :: ys) = _
    rw [lexC_cons]
    rfl
  | .atom i, .comp g bs, xs, ys => by
    rw [pre, pre]
    show lexC hC (hcode (.atom i) :: xs) (hcode (.comp g bs) :: _) = _
    have h : hC (hcode (.atom i)) (hcode (.comp g bs)) ≠ 0 := hC_rank (by simp [rank])
    rw [lexC_cons, if_neg h]
    show _ = if hC (hcode (.atom i)) (hcode (.comp g bs)) = 0 then _ else _
    rw [if_neg h]
    rfl
  | .comp f as, .var j, xs, ys => by
    rw [pre, pre]
    show lexC hC (hcode (.comp f as) :: _) (hcode (.var j) :: _) = _
    have h : hC (hcode (.comp f as)) (hcode (.var j)) ≠ 0 := hC_rank (by simp [rank])
    rw [lexC_cons, if_neg h]
    show _ = if hC (hcode (.comp f as)) (hcode (.var j)) = 0 then _ else _
    rw [if_neg h]
    rfl
  | .comp f as, .int j, xs, ys => by
    rw [pre, pre]
    show lexC hC (hcode (.comp f as) :: _) (hcode (.int j) :: _) = _
    have h : hC (hcode (.comp f as)) (hcode (.int j)) ≠ 0 := hC_rank (by simp [rank])
    rw [lexC_cons, if_neg h]
    show _ = if hC (hcode (.comp f as)) (hcode (.int j)) = 0 then _ else _
    rw [if_neg h]
    rfl
  | .comp f as, .atom j, xs, ys => by
    rw [pre, pre]
    show lexC hC (hcode (.comp f as) :: _) (hcode (.atom j) :: _) = _
    have h : hC (hcode (.comp f as)) (hcode (.atom j)) ≠ 0 := hC_rank (by simp [rank])
    rw [lexC_cons, if_neg h]
    show _ = if hC (hcode (.comp f as)) (hcode (.atom j)) = 0 then _ else _
    rw [if_neg h]
    rfl
  | .comp f as, .comp g bs, xs, ys => by
    rw [pre, pre, tord]
    show lexC hC (hcode (.comp f as) :: ((pres as).map hcode ++ xs)) (hcode (.comp g bs) :: ((pres bs).map hcode ++ ys)) = _
    have h : hC (hcode (.comp f as)) (hcode (.comp g bs)) = _ := hC3 _ _ f g
    rw [lexC_cons, h]
    by_cases e1 : intC (as.length : Int) (bs.length : Int) = 0
    · rw [if_pos e1, if_pos e1]
      by_cases e2 : sC f g = 0
      · rw [if_pos e2, if_pos e2]
        have := intC_ok.eq _ _ e1
        exact ord_pres as bs xs ys (by omega)
      · rw [if_neg e2, if_neg e2, if_neg e2]
    · rw [if_neg e1, if_neg e1, if_neg e1, if_neg e1]
theorem ord_pres : ∀ (as bs : List Tm) (xs ys : List (List Int)), as.length = bs.length → kC ((pres as).map hcode ++ xs) ((pres bs).map hcode ++ ys) = if tords as bs = 0 then kC xs ys else tords as bs
  | [], [], xs, ys, _ => by
    show kC xs ys = if tords [] [] = 0 then _ else _
    rw [tords, if_pos rfl]
    intro a as b bs h
    cases h
  | [], _ :: _, _, _, h => by simp at h
  | _ :: _, [], _, _, h => by simp at h
  | a :: as, b :: bs, xs, ys, h => by
    rw [pres, pres, List.map_append, List.map_append, List.append_assoc, List.append_assoc, ord_pre a b, tords]
    by_cases e : tord a b = 0
    · rw [if_pos e, if_pos e]
      exact ord_pres as bs xs ys (by simpa using h)
    · rw [if_neg e, if_neg e, if_neg e]
end
theorem ord_key (s t : Tm) : kC (kcode s) (kcode t) = tord s t := by
  have h := ord_pre s t [] []
  rw [List.append_nil, List.append_nil] at h
  unfold kcode
  rw [h]
  split
  · next e => rw [e]; rfl
  · rfl
mutual
theorem hcode_eq : ∀ (s t : Tm), tord s t = 0 → s = t
  | .comp f as, .comp g bs, h => by
    rw [tord] at h
    by_cases e1 : intC (as.length : Int) (bs.length : Int) = 0
    · rw [if_pos e1] at h
      by_cases e2 : sC f g = 0
      · rw [if_pos e2] at h
        have hl := intC_ok.eq _ _ e1
        have hf : f = g := by
          rw [sC_eq] at e2
          split at e2
          · assumption
          · split at e2 <;> omega
        rw [hf, hcodes_eq as bs (by omega) h]
      · rw [if_neg e2] at h
        exact absurd h e2
    · rw [if_neg e1] at h
      exact absurd h e1
  | .var i, .var j, h => by
    have := hC_ok.eq _ _ (show hC [0, i] [0, j] = 0 from h)
    simp at this
    rw [this]
  | .int i, .int j, h => by
    have := hC_ok.eq _ _ (show hC [1, i] [1, j] = 0 from h)
    simp at this
    rw [this]
  | .atom i, .atom j, h => by
    have h2 : sC i j = 0 := by
      have h3 : lexC intC (2 :: cpsI i) (2 :: cpsI j) = 0 := h
      rw [lexC_cons, if_pos (by decide)] at h3
      exact h3
    rw [sC_eq] at h2
    split at h2
    · next e => rw [e]
    · split at h2 <;> omega
  | .var _, .int _, h => absurd h (hC_rank (by simp [rank]))
  | .var _, .atom _, h => absurd h (hC_rank (by simp [rank]))
  | .var _, .comp _ _, h => absurd h (hC_rank (by simp [rank]))
  | .int _, .var _, h => absurd h (hC_rank (by simp [rank]))
  | .int _, .atom _, h => absurd h (hC_rank (by simp [rank]))
  | .int _, .comp _ _, h => absurd h (hC_rank (by simp [rank]))
  | .atom _, .var _, h => absurd h (hC_rank (by simp [rank]))
  | .atom _, .int _, h => absurd h (hC_rank (by simp [rank]))
  | .atom _, .comp _ _, h => absurd h (hC_rank (by simp [rank]))
  | .comp _ _, .var _, h => absurd h (hC_rank (by simp [rank]))
  | .comp _ _, .int _, h => absurd h (hC_rank (by simp [rank]))
  | .comp _ _, .atom _, h => absurd h (hC_rank (by simp [rank]))
theorem hcodes_eq : ∀ (as bs : List Tm), as.length = bs.length → tords as bs = 0 → as = bs
  | [], [], _, _ => rfl
  | [], _ :: _, h, _ => by simp at h
  | _ :: _, [], h, _ => by simp at h
  | a :: as, b :: bs, h, h2 => by
    rw [tords] at h2
    by_cases e : tord a b = 0
    · rw [if_pos e] at h2
      rw [hcode_eq a b e, hcodes_eq as bs (by simpa using h) h2]
    · rw [if_neg e] at h2
      exact absurd h2 e
end
theorem tord_ok : Cmpr tord := by
  refine ⟨fun a => ?_, hcode_eq, fun a b => ?_, fun a b d h1 h2 => ?_, fun a b => ?_⟩
  · rw [← ord_key]
    exact kC_ok.refl _
  · rw [← ord_key, ← ord_key]
    exact kC_ok.anti _ _
  · rw [← ord_key] at *
    exact kC_ok.tr _ _ _ h1 h2
  · rw [← ord_key]
    exact kC_ok.ran _ _
/-- in order -/
def Rising (ts : List Tm) : Prop := ts.Pairwise fun a b => tord a b ≤ 0
theorem rising_uniq : ∀ {ts us : List Tm}, Rising ts → Rising us → ts.Perm us → ts = us
  | [], us, _, _, p => (List.Perm.nil_eq p)
  | t :: ts, [], _, _, p => absurd p.length_eq (by simp)
  | t :: ts, u :: us, h1, h2, p => by
    have a1 := List.pairwise_cons.mp h1
    have a2 := List.pairwise_cons.mp h2
    have e1 : tord t u ≤ 0 := by
      rcases List.mem_cons.mp (p.mem_iff.mpr (List.mem_cons_self (a := u) (l := us))) with e | e
      · rw [e, tord_ok.refl]
        exact Int.le_refl _
      · exact a1.1 u e
    have e2 : tord u t ≤ 0 := by
      rcases List.mem_cons.mp (p.mem_iff.mp (List.mem_cons_self (a := t) (l := ts))) with e | e
      · rw [e, tord_ok.refl]
        exact Int.le_refl _
      · exact a2.1 t e
    have e3 := tord_ok.anti t u
    have e : t = u := tord_ok.eq t u (by omega)
    subst e
    rw [rising_uniq a1.2 a2.2 p.cons_inv]
end Hm

set_option Elab.async false
set_option linter.all false
set_option maxRecDepth 100000
set_option maxHeartbeats 4000000
namespace Hm
open PySem PySem.SeqAt
open AutoSeq1 (wpAny_loadPart')
open MeetsSeq MeetsSeq2 MeetsSeq3 SeqRoads2
/-! ## x < y of two rows of values: what decides is the first place that differs; what stands behind it may be anything -/
inductive Dec (A : Around) (s : Shared) : List Value → List Value → Bool → Prop
  | both : Dec A s [] [] false
  | short (y : Value) (ys : List Value) : Dec A s [] (y :: ys) true
  | long (x : Value) (xs : List Value) : Dec A s (x :: xs) [] false
  | same {x y : Value} {xs ys : List Value} {b : Bool} : EqAt A s x y true → Dec A s xs ys b → Dec A s (x :: xs) (y :: ys) b
  | here {x y : Value} {xs ys : List Value} {b : Bool} : EqAt A s x y false → RcLt A s x y b → Dec A s (x :: xs) (y :: ys) b
def tupObj (its : Array Value) (n : Nat) (dd : Option Addr) (sl : Array (Option Value)) : Obj := { cls := .type "tuple", dict := dd, data := .seq its n, slots := sl }
theorem dec_tup (p q : Addr) (is js : Array Value) (n m : Nat) (d1 d2 : Option Addr) (s1 s2 : Array (Option Value)) (b : Bool) :
    Meets (Builtin.«tuple.__lt__» ⟨[.ref p, .ref q], []⟩) (fun A R s => s.heap.get? p = some (tupObj is n d1 s1) ∧ s.heap.get? q = some (tupObj js m d2 s2) ∧ Dec A.in1 s is.toList js.toList b ∧ R (.ok (.ret (.bool b))) s) :=
  .of_wp fun prog w A R s z => by
    have st := AutoSeq1.sub_tuple_tuple
    obtain ⟨heap, gens, drawn, toks, os⟩ := s
    obtain ⟨gp, gq, dc, fin⟩ := z
    unfold tupObj at gp gq
    wp_walk using wpAny_loadPart' gp, wpAny_loadPart' gq, wpAny_forIn_list _ (fun left bb s' => bb.1 = none ∧ s' = ⟨heap, gens, drawn, toks, os⟩ ∧ ∃ xs ys, left = xs.zip ys ∧ Dec A.in1 ⟨heap, gens, drawn, toks, os⟩ xs ys b ∧ xs.length + js.size = ys.length + is.size) _
    case turn =>
      rintro ⟨x, y⟩ left bb s' ⟨h0, rfl, xs, ys, hz, hd, hl⟩
      cases hd with
      | both => cases hz
      | short => cases hz
      | long => cases hz
      | @same x' y' xs ys _ he hr =>
        rw [List.zip_cons_cons] at hz
        injection hz with h1 h2
        injection h1 with h3 h4
        subst h3 h4 h2
        refine wpAny_bind (he prog w _ _ ?_)
        wp_walk
        exact ⟨rfl, rfl, xs, ys, rfl, hr, by simp only [List.length_cons] at hl; omega⟩
      | @here x' y' xs ys _ he hr =>
        rw [List.zip_cons_cons] at hz
        injection hz with h1 h2
        injection h1 with h3 h4
        subst h3 h4 h2
        have rc : ∀ {Q : Value → Shared → Prop} {E : Value → Shared → Prop}, Q (.bool b) ⟨heap, gens, drawn, toks, os⟩ → wpAny (model prog w) A.in1 (richCompare .Lt x y) Q E ⟨heap, gens, drawn, toks, os⟩ := fun z => hr prog w _ _ z
        refine wpAny_bind (he prog w _ _ ?_)
        wp_walk using rc
        exact ⟨_, rfl, fin⟩
    case fin =>
      rintro ⟨b1, b2⟩ s' ⟨h0, rfl, xs, ys, hz, hd, hl⟩
      simp only at h0
      subst h0
      wp_walk
      refine ⟨_, rfl, ?_⟩
      have e : decide (is.size < js.size) = b := by
        cases hd with
        | both => exact decide_eq_false (by simp only [List.length_nil] at hl; omega)
        | short => exact decide_eq_true (by simp only [List.length_nil, List.length_cons] at hl; omega)
        | long => exact decide_eq_false (by simp only [List.length_nil, List.length_cons] at hl; omega)
        | same => simp at hz
        | here => simp at hz
      simpa [Builtin.Tuple.tupleCompareSizes, e] using fin
    case h => exact ⟨rfl, rfl, is.toList, js.toList, rfl, dc, by simp; omega⟩
def lstObj (its : Array Value) (n : Nat) (dd : Option Addr) (sl : Array (Option Value)) : Obj := { cls := .type "list", dict := dd, data := .seq its n, slots := sl }
theorem dec_nil {A : Around} {s : Shared} {xs ys : List Value} {b : Bool} (h : Dec A s xs ys b) (e : xs = [] ∨ ys = []) : b = decide (xs.length < ys.length) := by
  cases h with
  | both => rfl
  | short => rfl
  | long => rfl
  | same => simp at e
  | here => simp at e
theorem dec_loop (p q : Addr) (is js : Array Value) (n m : Nat) (d1 d2 : Option Addr) (s1 s2 : Array (Option Value)) (b : Bool) (k : Nat) :
    ∀ i : Nat, is.size + js.size = k + 2 * i ∨ is.size + js.size = k + 2 * i + 1 → i ≤ is.size → i ≤ js.size → Meets (Builtin.«list.__eq__.loop» ⟨[.ref p, .ref q, rawInt i, rawInt 0], []⟩)
      (fun A R s => s.heap.get? p = some (lstObj is n d1 s1) ∧ s.heap.get? q = some (lstObj js m d2 s2) ∧ Dec A.in1 s (is.toList.drop i) (js.toList.drop i) b ∧ R (.ok (.ret (.bool b))) s) := by
  induction k using Nat.strongRecOn with
  | ind k ih =>
    intro i hk li lj prog w A R s z
    obtain ⟨heap, gens, drawn, toks, os⟩ := s
    obtain ⟨gp, gq, dc, fin⟩ := z
    unfold lstObj at gp gq
    by_cases ei : i < is.size
    · by_cases ej : i < js.size
      · have gi : is[((i : Nat) : Int).toNat]? = some is[i] := by simp [ei]
        have gj : js[((i : Nat) : Int).toNat]? = some js[i] := by simp [ej]
        have di : is.toList.drop i = is[i] :: is.toList.drop (i + 1) := by simp [List.drop_eq_getElem_cons, ei]
        have dj : js.toList.drop i = js[i] :: js.toList.drop (i + 1) := by simp [List.drop_eq_getElem_cons, ej]
        have nx : ((i : Int) + 1) = ((i + 1 : Nat) : Int) := by push_cast; rfl
        rw [di, dj] at dc
        wp_walk using wpAny_loadPart' gp, wpAny_loadPart' gq
        rw [gi, gj]
        cases dc with
        | same he hr =>
          refine wpAny_bind (he prog w _ _ ?_)
          wp_walk
          rw [nx]
          refine ⟨plainId_quiet plain_eq_loop _, codeAny_builtin entry_eq_loop ?_⟩
          rw [Around.under_plainId plain_eq_loop _]
          exact ih (k - 2) (by omega) (i + 1) (by omega) (by omega) (by omega) prog w A R _ ⟨gp, gq, hr, fin⟩
        | here he hr =>
          refine wpAny_bind (he prog w _ _ ?_)
          wp_walk using wpAny_loadPart' gp, wpAny_loadPart' gq
          rw [gi, gj]
          have rc : ∀ {Q : Value → Shared → Prop} {E : Value → Shared → Prop}, Q (.bool b) ⟨heap, gens, drawn, toks, os⟩ → wpAny (model prog w) A.in1 (richCompare .Lt is[i] js[i]) Q E ⟨heap, gens, drawn, toks, os⟩ := fun z => hr prog w _ _ z
          wp_walk using rc
          exact fin
      · have gi : is[((i : Nat) : Int).toNat]? = some is[i] := by simp [ei]
        have gj : js[((i : Nat) : Int).toNat]? = none := by simp; omega
        have e := dec_nil dc (.inr (by simp; omega))
        have e2 : decide (is.size < js.size) = b := by
          rw [e]
          simp
          omega
        wp_walk using wpAny_loadPart' gp, wpAny_loadPart' gq
        rw [gi, gj]
        wp_walk using wpAny_loadPart' gp, wpAny_loadPart' gq
        rw [← e2] at fin
        exact fin
    · have gi : is[((i : Nat) : Int).toNat]? = none := by simp; omega
      have e := dec_nil dc (.inl (by simp; omega))
      have e2 : decide (is.size < js.size) = b := by
        rw [e]
        simp
        omega
      wp_walk using wpAny_loadPart' gp, wpAny_loadPart' gq
      rw [gi]
      wp_walk using wpAny_loadPart' gp, wpAny_loadPart' gq
      rw [← e2] at fin
      exact fin
theorem dec_lst (p q : Addr) (is js : Array Value) (n m : Nat) (d1 d2 : Option Addr) (s1 s2 : Array (Option Value)) (b : Bool) :
    Meets (Builtin.«list.__lt__» ⟨[.ref p, .ref q], []⟩) (fun A R s => s.heap.get? p = some (lstObj is n d1 s1) ∧ s.heap.get? q = some (lstObj js m d2 s2) ∧ Dec A.in1 s is.toList js.toList b ∧ R (.ok (.ret (.bool b))) s) := by
  intro prog w A R s z
  have st := AutoSeq1.sub_list_list
  obtain ⟨heap, gens, drawn, toks, os⟩ := s
  obtain ⟨gp, gq, dc, fin⟩ := z
  unfold lstObj at gp gq
  wp_walk using wpAny_loadPart' gp, wpAny_loadPart' gq
  refine ⟨plainId_quiet plain_eq_loop _, codeAny_builtin entry_eq_loop ?_⟩
  rw [Around.under_plainId plain_eq_loop _]
  exact dec_loop p q is js n m d1 d2 s1 s2 b (is.size + js.size) 0 (.inl (by omega)) (Nat.zero_le _) (Nat.zero_le _) prog w A R _ ⟨gp, gq, dc, fin⟩
theorem obj_tup {h : Heap} {p : Addr} {is : Array Value} (hp : h.IsTuple p is) : ∃ n d sl, h.get? p = some (tupObj is n d sl) := by
  obtain ⟨⟨cls, dd, data, sl⟩, ho, hc, n, hd⟩ := hp
  simp only at hc hd
  subst hc hd
  exact ⟨n, dd, sl, ho⟩
theorem obj_lst {h : Heap} {p : Addr} {is : Array Value} (hp : h.IsList p is) : ∃ n d sl, h.get? p = some (lstObj is n d sl) := by
  obtain ⟨⟨cls, dd, data, sl⟩, ho, hc, n, hd⟩ := hp
  simp only at hc hd
  subst hc hd
  exact ⟨n, dd, sl, ho⟩
section
variable {A : Around} {s : Shared} {p q : Addr} {is js : Array Value} {b : Bool}
theorem rc_tup (hp : s.heap.IsTuple p is) (hq : s.heap.IsTuple q js) (hu : A.units < cLine) (h : Dec A.in1 s is.toList js.toList b) : RcLt A s (.ref p) (.ref q) b := fun prog w E Q z => by
  obtain ⟨n, d, sl, e⟩ := obj_tup hp
  obtain ⟨m, d', sl', e'⟩ := obj_tup hq
  exact richCompare_meets_room (op := .Lt) ⟨_, e, rfl⟩ ⟨_, e', rfl⟩ F.slot_tuple_lt F.entry_tuple_lt (F.args_tuple_lt_2 _ _) (dec_tup p q is js n m d d' sl sl' b) ⟨e, e', h, show Value.bool b ≠ Value.notImplemented ∧ Q (.bool b) s from ⟨(fun x => nomatch x), z⟩⟩ hu
theorem rc_lst (hp : s.heap.IsList p is) (hq : s.heap.IsList q js) (hu : A.units < cLine) (h : Dec A.in1 s is.toList js.toList b) : RcLt A s (.ref p) (.ref q) b := fun prog w E Q z => by
  obtain ⟨n, d, sl, e⟩ := obj_lst hp
  obtain ⟨m, d', sl', e'⟩ := obj_lst hq
  exact richCompare_meets_room (op := .Lt) ⟨_, e, rfl⟩ ⟨_, e', rfl⟩ F.slot_list_lt F.entry_list_lt (F.args_list_lt_2 _ _) (dec_lst p q is js n m d d' sl sl' b) ⟨e, e', h, show Value.bool b ≠ Value.notImplemented ∧ Q (.bool b) s from ⟨(fun x => nomatch x), z⟩⟩ hu
/-- the same, as sorting asks -/
theorem call_lst {prog : Program} {w : World} {E Q : Value → Shared → Prop} (hp : s.heap.IsList p is) (hq : s.heap.IsList q js) (h : Dec A.in1 s is.toList js.toList b) (z : Q (.bool b) s) : wpAny (model prog w) A (call (.builtin "list.__lt__") [.ref p, .ref q]) Q E s := by
  obtain ⟨n, d, sl, e⟩ := obj_lst hp
  obtain ⟨m, d', sl', e'⟩ := obj_lst hq
  exact call_meets F.slot_list_lt ⟨_, e, rfl⟩ F.entry_list_lt (F.args_list_lt_2 _ _) (dec_lst p q is js n m d d' sl sl' b) ⟨e, e', h, z⟩
end
end Hm

set_option Elab.async false
set_option linter.all false
set_option maxRecDepth 100000
set_option maxHeartbeats 4000000
namespace Hm
open PySem PySem.Spec PySem.SeqAt PySem.W
/-! ## keys: rows of heads, as data -/
def hdD : Tm → PyData
  | .var k => .tuple [.int 0, .int k]
  | .int i => .tuple [.int 1, .int i]
  | .atom s => .tuple [.int 2, .str s]
  | .comp f as => .tuple [.int 3, .int (as.length : Int), .str f]
theorem hd_depth (t : Tm) : (hdD t).depth = 1 := by cases t <;> rfl
theorem intC_beq (i j : Int) : (i == j) = decide (intC i j = 0) := by
  by_cases e : i = j
  · subst e
    rw [beq_self_eq_true, decide_eq_true (intC_ok.refl i)]
  · rw [decide_eq_false (fun z => e (intC_ok.eq i j z))]
    exact beq_false_of_ne e
theorem intC_lt (i j : Int) (h : intC i j ≠ 0) : decide (i < j) = decide (intC i j < 0) := by
  have e : i ≠ j := fun z => h (z ▸ intC_ok.refl i)
  unfold intC
  rw [if_neg e]
  by_cases l : i < j
  · rw [if_pos l, decide_eq_true l]
    rfl
  · rw [if_neg l, decide_eq_false l]
    rfl
theorem sC_beq (a b : Str) : (a == b) = decide (sC a b = 0) := by
  rw [sC_eq]
  by_cases e : a = b
  · subst e
    rw [if_pos rfl, beq_self_eq_true]
    rfl
  · rw [if_neg e, beq_false_of_ne e]
    split <;> rfl
theorem sC_lt (a b : Str) (h : sC a b ≠ 0) : decide (a.cps.toList < b.cps.toList) = decide (sC a b < 0) := by
  rw [sC_eq] at *
  by_cases e : a = b
  · rw [if_pos e] at h
    exact absurd rfl h
  · rw [if_neg e]
    by_cases l : a.cps.toList < b.cps.toList
    · rw [if_pos l, decide_eq_true l]
      rfl
    · rw [if_neg l, decide_eq_false l]
      rfl
theorem hC_tag' {a b : Int} (h : a ≠ b) (xs ys : List Int) : hC (a :: xs) (b :: ys) = intC a b := by
  show lexC intC _ _ = _
  have : intC a b ≠ 0 := fun z => h (intC_ok.eq a b z)
  rw [lexC_cons, if_neg this]
theorem hC_two (a i j : Int) : hC [a, i] [a, j] = intC i j := by
  show lexC intC _ _ = _
  rw [lexC_cons, if_pos (intC_ok.refl a), lexC_cons]
  split
  · next e => rw [e]; rfl
  · rfl
theorem hC_str (f g : Str) : hC (2 :: cpsI f) (2 :: cpsI g) = sC f g := by
  show lexC intC _ _ = _
  rw [lexC_cons, if_pos (intC_ok.refl 2)]
  rfl
section
variable {A : Around} {s : Shared}
theorem eq_int (i j : Int) (t u : Tok) : EqAt A s (.int i t) (.int j u) (decide (intC i j = 0)) := by
  rw [← intC_beq]
  exact EqAt.int_int i t j u
theorem lt_int (i j : Int) (t u : Tok) (h : intC i j ≠ 0) : RcLt A s (.int i t) (.int j u) (decide (intC i j < 0)) := by
  rw [← intC_lt i j h, ← dataLt_int]
  by_cases z : A.units < cLine
  · exact rcLt_alike (.int i) (.int j) A s _ _ _ _ (.int i t) (.int j u) rfl (by simp) (by show A.units + 0 < _; omega)
  · intro prog w E Q q
    rw [dataLt_int] at q
    exact PyProof.Rows.lt_int q
theorem eq_str (i j : Str) (t u : Tok) : EqAt A s (.str i t) (.str j u) (decide (sC i j = 0)) := by
  rw [← sC_beq]
  exact EqAt.str_str i t j u
theorem lt_str (i j : Str) (t u : Tok) (hu : A.units < cLine) (h : sC i j ≠ 0) : RcLt A s (.str i t) (.str j u) (decide (sC i j < 0)) := by
  rw [← sC_lt i j h, ← dataLt_str]
  exact rcLt_alike (.str i) (.str j) A s _ _ _ _ (.str i t) (.str j u) rfl (by simp) (by show A.units + 0 < _; omega)
theorem dec_int1 (i j : Int) (t u : Tok) {xs ys : List Value} {b : Bool} (hs : intC i j = 0 → Dec A s xs ys b) (hn : intC i j ≠ 0 → b = decide (intC i j < 0)) : Dec A s (.int i t :: xs) (.int j u :: ys) b := by
  have e := eq_int (A := A) (s := s) i j t u
  by_cases z : intC i j = 0
  · rw [decide_eq_true z] at e
    exact .same e (hs z)
  · rw [decide_eq_false z] at e
    rw [hn z]
    exact .here e (lt_int i j t u z)
theorem dec_str1 (i j : Str) (t u : Tok) {xs ys : List Value} {b : Bool} (hu : A.units < cLine) (hs : sC i j = 0 → Dec A s xs ys b) (hn : sC i j ≠ 0 → b = decide (sC i j < 0)) : Dec A s (.str i t :: xs) (.str j u :: ys) b := by
  have e := eq_str (A := A) (s := s) i j t u
  by_cases z : sC i j = 0
  · rw [decide_eq_true z] at e
    exact .same e (hs z)
  · rw [decide_eq_false z] at e
    rw [hn z]
    exact .here e (lt_str i j t u hu z)
/-- the first sign of a head and what stands behind it -/
def hdR : Tm → List PyData
  | .var k => [.int k]
  | .int i => [.int i]
  | .atom s => [.str s]
  | .comp f as => [.int (as.length : Int), .str f]
theorem hd_row (t : Tm) : hdD t = .tuple (.int (rank t) :: hdR t) := by cases t <;> rfl
theorem hcode_row (t : Tm) : ∃ r, hcode t = rank t :: r := by cases t <;> exact ⟨_, rfl⟩
theorem head_dec {t t' : Tm} {vs us : List Value} {as bs : List Addr} (hu : A.units < cLine) (r1 : ReadsAll s.heap vs (.int (rank t) :: hdR t) as) (r2 : ReadsAll s.heap us (.int (rank t') :: hdR t') bs) : Dec A s vs us (decide (hC (hcode t) (hcode t') < 0)) := by
  cases r1 with
  | cons q1 r1 =>
    cases r2 with
    | cons q2 r2 =>
      cases q1
      cases q2
      by_cases e : rank t = rank t'
      · cases t <;> cases t' <;> first | (simp [rank] at e; done) | skip
        · cases r1 with
          | cons a1 b1 =>
            cases r2 with
            | cons a2 b2 =>
              cases a1; cases a2; cases b1; cases b2
              show Dec A s _ _ (decide (hC [0, _] [0, _] < 0))
              rw [hC_two]
              exact dec_int1 _ _ _ _ (fun _ => dec_int1 _ _ _ _ (fun z => by rw [z]; exact .both) fun _ => rfl) fun z => absurd (intC_ok.refl 0) z
        · cases r1 with
          | cons a1 b1 =>
            cases r2 with
            | cons a2 b2 =>
              cases a1; cases a2; cases b1; cases b2
              show Dec A s _ _ (decide (hC [1, _] [1, _] < 0))
              rw [hC_two]
              exact dec_int1 _ _ _ _ (fun _ => dec_int1 _ _ _ _ (fun z => by rw [z]; exact .both) fun _ => rfl) fun z => absurd (intC_ok.refl 1) z
        · cases r1 with
          | cons a1 b1 =>
            cases r2 with
            | cons a2 b2 =>
              cases a1; cases a2; cases b1; cases b2
              show Dec A s _ _ (decide (hC (2 :: cpsI _) (2 :: cpsI _) < 0))
              rw [hC_str]
              exact dec_int1 _ _ _ _ (fun _ => dec_str1 _ _ _ _ hu (fun z => by rw [z]; exact .both) fun _ => rfl) fun z => absurd (intC_ok.refl 2) z
        · cases r1 with
          | cons a1 b1 =>
            cases r2 with
            | cons a2 b2 =>
              cases b1 with
              | cons c1 d1 =>
                cases b2 with
                | cons c2 d2 =>
                  cases a1; cases a2; cases c1; cases c2; cases d1; cases d2
                  show Dec A s _ _ (decide (hC (3 :: _ :: cpsI _) (3 :: _ :: cpsI _) < 0))
                  rw [hC3]
                  refine dec_int1 _ _ _ _ (fun _ => dec_int1 _ _ _ _ (fun z => ?_) fun z => by rw [if_neg z]) fun z => absurd (intC_ok.refl 3) z
                  rw [if_pos z]
                  exact dec_str1 _ _ _ _ hu (fun z => by rw [z]; exact .both) fun _ => rfl
      · obtain ⟨x, e1⟩ := hcode_row t
        obtain ⟨y, e2⟩ := hcode_row t'
        rw [e1, e2, hC_tag' e]
        exact dec_int1 _ _ _ _ (fun z => absurd (intC_ok.eq _ _ z) e) fun _ => rfl
theorem hd_lay (t : Tm) (h : Ok t) : (hdD t).canLay0 = true := by
  have hs : ∀ z : Str, AtomOk z → (PyData.str z).canLay0 = true := fun z h => by
    show (z.cps.all fun c => decide (c < 0x110000)) = true
    rw [← Array.all_toList, List.all_eq_true]
    intro c hc
    have := h.2 c hc
    exact decide_eq_true (by omega)
  cases t with
  | var k => rfl
  | int i => rfl
  | atom z =>
    unfold Ok at h
    show ((PyData.int 2).canLay0 && ((PyData.str z).canLay0 && true)) = true
    rw [hs z h]
    rfl
  | comp f as =>
    unfold Ok at h
    show ((PyData.int 3).canLay0 && ((PyData.int (as.length : Int)).canLay0 && ((PyData.str f).canLay0 && true))) = true
    rw [hs f h.1]
    rfl
theorem eqv_hd (t t' : Tm) : PyData.eqv (hdD t) (hdD t') = decide (hC (hcode t) (hcode t') = 0) := by
  by_cases e : rank t = rank t'
  · cases t <;> cases t' <;> first | (simp [rank] at e; done) | skip
    · show ((0 == 0 : Bool) && ((_ == _ : Bool) && true)) = decide (hC [0, _] [0, _] = 0)
      rw [hC_two, intC_beq, Bool.and_true]
      rfl
    · show (((1 : Int) == 1 : Bool) && ((_ == _ : Bool) && true)) = decide (hC [1, _] [1, _] = 0)
      rw [hC_two, ← intC_beq, Bool.and_true]
      rfl
    · show (((2 : Int) == 2 : Bool) && ((_ == _ : Bool) && true)) = decide (hC (2 :: cpsI _) (2 :: cpsI _) = 0)
      rw [hC_str, sC_beq, Bool.and_true]
      rfl
    · next f as g bs =>
      show (((3 : Int) == 3 : Bool) && (((as.length : Int) == (bs.length : Int) : Bool) && ((f == g : Bool) && true))) = decide (hC (3 :: (as.length : Int) :: cpsI f) (3 :: (bs.length : Int) :: cpsI g) = 0)
      rw [hC3, intC_beq (as.length : Int), sC_beq, Bool.and_true]
      by_cases z : intC (as.length : Int) (bs.length : Int) = 0
      · rw [if_pos z, decide_eq_true z]
        rfl
      · rw [if_neg z, decide_eq_false z]
        rfl
  · obtain ⟨x, e1⟩ := hcode_row t
    obtain ⟨y, e2⟩ := hcode_row t'
    rw [e1, e2, hC_tag' e, hd_row, hd_row]
    have z : intC (rank t) (rank t') ≠ 0 := fun z => e (intC_ok.eq _ _ z)
    rw [decide_eq_false z]
    show ((rank t == rank t' : Bool) && _) = false
    rw [beq_false_of_ne e]
    rfl
theorem head_rc {t t' : Tm} {v u : Value} {as bs : List Addr} (hu : A.units + 1 < cLine) (r1 : Reads s.heap v (hdD t) as) (r2 : Reads s.heap u (hdD t') bs) : RcLt A s v u (decide (hC (hcode t) (hcode t') < 0)) := by
  rw [hd_row] at r1 r2
  cases r1 with
  | @tuple p o vs n _ _ h1 h2 h3 h4 =>
    cases r2 with
    | @tuple q o' us n' _ _ k1 k2 k3 k4 =>
      exact rc_tup ⟨o, h1, h2, n, h3⟩ ⟨o', k1, k2, n', k3⟩ (by omega) (head_dec (A := A.in1) hu h4 k4)
theorem heads_dec (hu : A.units + 2 < cLine) : ∀ (ts us : List Tm) (vs ws : List Value) (as bs : List Addr), Oks ts → Oks us → ReadsAll s.heap vs (ts.map hdD) as → ReadsAll s.heap ws (us.map hdD) bs → Dec A s vs ws (decide (kC (ts.map hcode) (us.map hcode) < 0))
  | [], [], _, _, _, _, _, _, r1, r2 => by
    cases r1
    cases r2
    exact .both
  | [], _ :: _, _, _, _, _, _, _, r1, r2 => by
    cases r1
    cases r2 with
    | cons a b => exact .short _ _
  | _ :: _, [], _, _, _, _, _, _, r1, r2 => by
    cases r2
    cases r1 with
    | cons a b => exact .long _ _
  | t :: ts, u :: us, _, _, _, _, o1, o2, r1, r2 => by
    rw [oks_cons] at o1 o2
    cases r1 with
    | cons a1 b1 =>
      cases r2 with
      | cons a2 b2 =>
        have e := eqAt_reads _ _ A s _ _ _ _ a1 a2 (hd_lay t o1.1) (hd_lay u o2.1) (by rw [hd_depth, hd_depth]; show A.units + 1 < _; omega)
        rw [eqv_hd] at e
        rw [List.map_cons, List.map_cons]
        show Dec A s _ _ (decide (lexC hC _ _ < 0))
        rw [lexC_cons]
        by_cases z : hC (hcode t) (hcode u) = 0
        · rw [decide_eq_true z] at e
          rw [if_pos z]
          exact .same e (heads_dec hu ts us _ _ _ _ o1.2 o2.2 b1 b2)
        · rw [decide_eq_false z] at e
          rw [if_neg z]
          exact .here e (head_rc (by omega) a1 a2)
/-- two keys -/
theorem keys_rc {ts us : List Tm} {v w : Value} {as bs : List Addr} (hu : A.units + 3 < cLine) (o1 : Oks ts) (o2 : Oks us) (r1 : Reads s.heap v (.list (ts.map hdD)) as) (r2 : Reads s.heap w (.list (us.map hdD)) bs) : RcLt A s v w (decide (kC (ts.map hcode) (us.map hcode) < 0)) := by
  cases r1 with
  | @list p o vs n _ _ h1 h2 h3 h4 =>
    cases r2 with
    | @list q o' us n' _ _ k1 k2 k3 k4 => exact rc_lst ⟨o, h1, h2, n, h3⟩ ⟨o', k1, k2, n', k3⟩ (by omega) (heads_dec (A := A.in1) (by show A.units + 1 + 2 < _; omega) _ _ _ _ _ _ o1 o2 h4 k4)
end
end Hm

set_option Elab.async false
set_option linter.all false
set_option maxRecDepth 100000
set_option maxHeartbeats 4000000
namespace Hm
open PySem PySem.Spec PySem.W PyProof.Rows SrtO
section
variable {prog : Program} {w : World} {A : Around} {E : Value → Shared → Prop} {s : Shared}
/-- the sorting itself, where the keys are all there -/
theorem srt_end {a kS : Addr} {its keys : Array Value} {e e1 : Nat} {P : Keyed → Prop} {lt : Keyed → Keyed → Bool} {R : PySem.Fin → Shared → Prop} (O : Swo lt) (hka : kS ≠ a) (hz : its.size ≤ sizeLine) (hkz : keys.size = its.size)
    (nk : s.heap.get? kS = some (seqObj "list" keys e)) (na : s.heap.get? a = some (seqObj "list" #[] e1)) (T : 2 ≤ keys.size → Cmp prog w A s oneType' P lt) (hP : AllL P (keys.zip its).toList)
    (hty : ∀ v ∈ keys.toList, Looks (model prog w) s.heap (typeOf v) (Value.type "list"))
    (h : ∀ out : List Keyed, Srtd lt out → Stb lt out (keys.zip its).toList → R (.done (.ret .none)) { s with heap := (s.heap.update kS (Obj.mapSeq fun _ => #[])).update a (Obj.mapSeq fun _ => (out.map (·.2)).toArray) }) :
    wpAny (model prog w) A (ksk_end a false its e1 (.ref kS) keys) R E s := by
  have pz : (keys.zip its).size = its.size := by rw [Array.size_zip, hkz, Nat.min_self]
  have last : ∀ st : SortSt, failedOf st = none → Srtd lt (arrOf st).toList → Stb lt (arrOf st).toList (keys.zip its).toList → wpAny (model prog w) A (ksk_tail a false e1 (.ref kS) st) R E s := by
    intro st hf h1 h2
    have sz : (arrOf st).size = its.size := by
      have := h2.len
      rw [Array.length_toList, Array.length_toList, pz] at this
      exact this
    have na1 : (s.heap.update kS (Obj.mapSeq fun _ => (#[] : Array Value))).get? a = some (seqObj "list" #[] e1) := (Heap.get?_update_ne _ _ _ _ hka.symm).trans na
    unfold ksk_tail
    try dsimp only
    refine wpAny_bind (listUpdate_at nk rfl ?_ (by rw [hkz]; exact hz) (Nat.zero_le _))
    refine wpAny_bind (wpAny_letGo ?_)
    refine wpAny_bind (seqEpoch_at na1 rfl ?_)
    refine wpAny_bind (listUpdate_at na1 rfl ?_ (Nat.zero_le _) (by show ((arrOf st).map _).size ≤ _; rw [Array.size_map, sz]; omega))
    rw [hf]
    simp only [bne_self_eq_false, Bool.false_eq_true, if_false]
    have r := h _ h1 h2
    rw [← Array.toList_map, Array.toArray_toList] at r
    exact wpAny_pure r
  unfold ksk_end
  try dsimp only
  simp only [Bool.false_eq_true, if_false]
  by_cases h2 : its.size < 2
  · rw [if_pos h2, if_pos h2]
    refine wpAny_bind (wpAny_pure ?_)
    rw [StateT.run_pure]
    refine wpAny_bind (wpAny_pure ?_)
    try dsimp only
    refine last (SortSt.mk' general' (keys.zip its) #[] 7 none) rfl ?_ (Stb.refl _)
    show Srtd lt (keys.zip its).toList
    have l1 : (keys.zip its).toList.length < 2 := by rw [Array.length_toList, pz]; exact h2
    match (keys.zip its).toList, l1 with
    | [], _ => exact List.Pairwise.nil
    | [x], _ => exact List.pairwise_singleton _ _
    | x :: y :: r, l1 => exact absurd l1 (by simp)
  · rw [if_neg h2, if_neg h2]
    have kk : keyKind' keys = keyKind' keys.toList.toArray := by rw [Array.toArray_toList]
    rw [kk]
    refine wpAny_bind (kas_kind (T := Value.type "list") (by rw [Array.length_toList]; omega) hty (by rfl) (by rfl) ?_)
    refine wpAny_bind (wpAny_mono (wpS_sortO (st0 := SortSt.mk' oneType' (keys.zip its) #[] 7 none) (Q := fun _ st' => Srtd lt (arrOf st').toList ∧ Stb lt (arrOf st').toList (keys.zip its).toList ∧ failedOf st' = none) O (T (by omega)) rfl hP rfl rfl fun st' a1 a2 a3 => ⟨a1, a2, a3⟩) ?_ fun _ _ q => q)
    rintro ⟨⟨⟩, st'⟩ s' ⟨rfl, p1, p2, p3⟩
    try dsimp only
    exact last st' p3 p1 p2
end
/-! ## a call of the program's own function by sorted's own -/
section
open L2 HT
open Evl (Ex)
variable {X : Cx} {pins : List (Addr × Obj)} {σ : L2.St} {H : Hp} {s : Shared}
theorem run2 {k : Nat} {f : Addr} {fd : FuncData} {ps : List Str} {sp : Sp} {us : List Value} {vs : List V} {Q : VK} (F : FnOk X.prog X.w X.K X.mg X.base CX0 k f fd ps sp) (hr : Room k X.A.in1.in1) (hb : Binds X.K fd ps []) (I : Inv X pins σ H s) (r : Vals vs us) (h : sp vs H Q E0) :
    wpAny (model X.prog X.w) X.A.in1.in1 (call (.ref f) us) (EP X pins σ Q) (fun _ _ => False) s := by
  have hl : us.length = ps.length := r.length.symm.trans (F.len _ _ _ _ h)
  have hb' := hb s us I.kIn (by rw [List.append_nil]; exact hl)
  rw [List.append_nil] at hb'
  refine wpAny_call (codeAny_mono (F.run X.A.in1.in1 X.stack s H ⟨us, []⟩ us vs Q E0 hr I.env0.in1.in1 hb' r h) fun r s' hq => ?_)
  match r, hq with
  | .error e, hq => exact hq.elim
  | .ok (.ret u), hq => exact I.after hq
  | .ok .next, hq => exact hq.elim
  | .ok .brk, hq => exact hq.elim
  | .ok .cont, hq => exact hq.elim
def hdV : Tm → List V
  | .var k => [.int 0, .int k]
  | .int i => [.int 1, .int i]
  | .atom s => [.int 2, .str s]
  | .comp f as => [.int 3, .int (as.length : Int), .str f]
def HdAt (K : PySem.W.Frag) (H : Hp) (w : V) (t : Tm) : Prop := ∃ q, w = .ref q ∧ SqT K H q (hdV t)
def KeyL (K : PySem.W.Frag) (H : Hp) (p : Addr) (ts : List Tm) : Prop := ∃ ws, H p = some (.lst ws) ∧ PySem.Paired (HdAt K H) ws ts
theorem KeyL.ex {K : PySem.W.Frag} {H H' : Hp} {p : Addr} {ts : List Tm} (h : KeyL K H p ts) (e : Ex H H') : KeyL K H' p ts := by
  obtain ⟨ws, h1, h2⟩ := h
  exact ⟨ws, e _ _ h1, Paired.mapP h2 fun w t ⟨q, a, b⟩ => ⟨q, a, Evl.ex_t e b⟩⟩
theorem KeyL.put {K : PySem.W.Frag} {H : Hp} {p l : Addr} {xs : List V} {o : HO} {ts : List Tm} (h : KeyL K H p ts) (hl : H l = some (.lst xs)) (n : p ≠ l) : KeyL K (upd H l o) p ts := by
  obtain ⟨ws, h1, h2⟩ := h
  exact ⟨ws, by rw [upd_ne n]; exact h1, Paired.mapP h2 fun w t ⟨q, a, b⟩ => ⟨q, a, Tups.lst hl _ _ b⟩⟩
theorem dp_hd {K : PySem.W.Frag} {H : Hp} {w : V} {t : Tm} (h : HdAt K H w t) : Dp K H w (hdD t) := by
  obtain ⟨q, rfl, h⟩ := h
  cases t with
  | var k => exact .tup h (.cons (.int 0) (.cons (.int k) .nil))
  | int k => exact .tup h (.cons (.int 1) (.cons (.int k) .nil))
  | atom k => exact .tup h (.cons (.int 2) (.cons (.str k) .nil))
  | comp f as => exact .tup h (.cons (.int 3) (.cons (.int _) (.cons (.str f) .nil)))
theorem dp_hds {K : PySem.W.Frag} {H : Hp} : ∀ {ws : List V} {ts : List Tm}, PySem.Paired (HdAt K H) ws ts → DpAll K H ws (ts.map hdD)
  | _, _, .nil => .nil
  | _, _, .cons h r => .cons (dp_hd h) (dp_hds r)
theorem KeyL.dp {K : PySem.W.Frag} {H : Hp} {p : Addr} {ts : List Tm} (h : KeyL K H p ts) : Dp K H (.ref p) (.list (ts.map hdD)) := by
  obtain ⟨ws, h1, h2⟩ := h
  exact .lst (SqL.of h1) (dp_hds h2)
/-- what a key is of: where it stands, the term's value in the hand layer and in the heap, the term -/
structure Ent where
  p : Addr
  v : V
  u : Value
  t : Tm
theorem perm_back {α β : Type} {f : α → β} {l m : List β} (h : l.Perm m) : ∀ Z : List α, m = Z.map f → ∃ Z' : List α, Z'.Perm Z ∧ l = Z'.map f := by
  induction h with
  | nil => exact fun Z e => ⟨Z, .refl _, e⟩
  | cons x _ ih =>
    intro Z e
    match Z, e with
    | z :: Z, e =>
      rw [List.map_cons] at e
      injection e with e1 e2
      obtain ⟨Z', h1, h2⟩ := ih Z e2
      exact ⟨z :: Z', h1.cons z, by rw [List.map_cons, e1, h2]⟩
    | [], e => cases e
  | swap x y l =>
    intro Z e
    match Z, e with
    | z :: z' :: Z, e =>
      rw [List.map_cons, List.map_cons] at e
      injection e with e1 e2
      injection e2 with e2 e3
      exact ⟨z' :: z :: Z, .swap _ _ _, by rw [List.map_cons, List.map_cons, e1, e2, e3]⟩
    | [z], e => simp at e
    | [], e => cases e
  | trans _ _ ih1 ih2 =>
    intro Z e
    obtain ⟨Z1, a1, b1⟩ := ih2 Z e
    obtain ⟨Z2, a2, b2⟩ := ih1 Z1 b1
    exact ⟨Z2, a2.trans a1, b2⟩
/-- the code of a key's value -/
def codeOf (Z : List Ent) : Value → List (List Int)
  | .ref p => match Z.find? (fun z => z.p == p) with
    | some z => kcode z.t
    | none => []
  | _ => []
theorem code_at {z : Ent} : ∀ {Z : List Ent}, (Z.map Ent.p).Nodup → z ∈ Z → codeOf Z (.ref z.p) = kcode z.t
  | [], _, h => by cases h
  | y :: Z, hn, h => by
    rw [List.map_cons, List.nodup_cons] at hn
    show (match List.find? (fun x : Ent => x.p == z.p) (y :: Z) with
      | some x => kcode x.t
      | none => []) = kcode z.t
    rw [List.find?_cons]
    rcases List.mem_cons.mp h with rfl | h
    · rw [beq_self_eq_true]
    · have ne : y.p ≠ z.p := fun e => hn.1 (by rw [e]; exact List.mem_map_of_mem h)
      rw [beq_false_of_ne ne]
      exact code_at hn.2 h
def ltK (Z : List Ent) (x y : Keyed) : Bool := decide (kC (codeOf Z x.1) (codeOf Z y.1) < 0)
theorem ltK_swo (Z : List Ent) : Swo (ltK Z) := by
  refine ⟨fun x y h => ?_, fun x y z h1 h2 => ?_⟩
  · have := of_decide_eq_true h
    have a := kC_ok.anti (codeOf Z x.1) (codeOf Z y.1)
    exact decide_eq_false (by omega)
  · have h1 := of_decide_eq_false h1
    have h2 := of_decide_eq_false h2
    have a1 := kC_ok.anti (codeOf Z x.1) (codeOf Z y.1)
    have a2 := kC_ok.anti (codeOf Z y.1) (codeOf Z z.1)
    have a3 := kC_ok.anti (codeOf Z x.1) (codeOf Z z.1)
    have t := kC_ok.tr _ _ _ (show kC (codeOf Z x.1) (codeOf Z y.1) ≤ 0 by omega) (show kC (codeOf Z y.1) (codeOf Z z.1) ≤ 0 by omega)
    exact decide_eq_false (by omega)
/-- an address that no one of this frame knows yet -/
structure Fre (X : Cx) (pins : List (Addr × Obj)) (L : Addr) : Prop where
  far : X.s_0.heap.objs.size ≤ L
  loc : L ≠ X.env.locals
  cel : ∀ x c, X.env.cells.lookup x = some c → c ≠ L
  pin : ∀ p ∈ X.pn ++ pins, p.1 ≠ L
  nfs : L ∉ X.fs
theorem Fre.of (I : Inv X pins σ H s) {L : Addr} (h : s.heap.objs.size ≤ L) : Fre X pins L := by
  have lt : ∀ b o, s.heap.get? b = some o → b ≠ L := fun b o e z => by
    subst z
    exact absurd (Heap.lt_size e) (Nat.not_lt.mpr h)
  refine ⟨Nat.le_trans I.sz h, fun z => ?_, fun x c e => ?_, fun p hp => lt _ _ (I.pin p hp).1, I.nofs h⟩
  · subst z
    exact absurd I.lt (Nat.not_lt.mpr h)
  · obtain ⟨v, o, ho, _⟩ := I.cell x c e
    exact lt _ _ ho
/-- such an object is changed, and is told in the hand layer from now on, or not -/
theorem adopt {L : Addr} {o : HO} {h' : Heap} (I : Inv X pins σ H s) (f : Fre X pins L) (hn : H L = none) (k : ∀ b u, b ≠ L → s.heap.get? b = some u → h'.get? b = some u) (new : ObjOk X.prog X.w (upd H L o) h' L o) : Inv X pins σ (upd H L o) { s with heap := h' } := by
  have ne : ∀ b u, H b = some u → b ≠ L := fun b u e z => by rw [z, hn] at e; cases e
  refine I.step (t' := s.toks) (g' := s.gens) (d' := s.drawn) (ch := [L]) (fun b hb => ?_) (fun b o _ _ hc e _ => k b o (fun z => hc (by simp [z])) e) (fun b o _ _ hc e _ => ⟨o.slots, k b o (fun z => hc (by simp [z])) e⟩) (fun b o hc e n => by rw [upd_ne (fun z => hc (by simp [z]))]; exact n)
    (fun b o hc e => ⟨o, k b o (fun z => hc (by simp [z])) e⟩) (fun b xs e => by rw [upd_ne (ne b _ e)]; exact e) (fun b o u e => by rw [upd_ne (ne b _ e)]; exact e) (fun b ps e => ⟨#[], by rw [upd_ne (ne b _ e), e]; simp⟩) (fun m hm => ?_) (fun b u e => ?_) I.bare
  · have e : b = L := by simpa using hb
    subst e
    exact ⟨.inr f.far, f.loc, f.cel, f.pin⟩
  · obtain ⟨o, es, ep, ho, r⟩ := hm
    exact ⟨o, es, ep, k _ o (Ne.symm f.loc) ho, r⟩
  · by_cases hb : b = L
    · subst hb
      rw [upd_same] at e
      cases e
      exact new
    · rw [upd_ne hb] at e
      refine (I.hok b u e).stay (fun c v hc q => k c v ?_ q) (fun c q => by rw [upd_ne (ne c _ q)]; exact q) fun c xs q => by rw [upd_ne (ne c _ q)]; exact q
      rcases hc with z | z
      · rw [z]; exact hb
      · exact ne c _ z
theorem touched {L : Addr} {h' : Heap} (I : Inv X pins σ H s) (f : Fre X pins L) (hn : H L = none) (k : ∀ b u, b ≠ L → s.heap.get? b = some u → h'.get? b = some u) : Inv X pins σ H { s with heap := h' } :=
  I.turned (t' := s.toks) (fun b o hb e => k b o hb e) hn f.loc (.inr f.far) f.cel f.pin
theorem pinned {L : Addr} {o : Obj} (I : Inv X pins σ H s) (f : Fre X pins L) (hn : H L = none) (h : s.heap.get? L = some o) (nc : ∀ v, o.data ≠ .cell v) : Inv X ((L, o) :: pins) σ H s :=
  I.pins_of fun p hp => by
    rcases List.mem_cons.mp hp with rfl | hp
    · exact ⟨h, hn, f.loc, f.nfs, nc⟩
    · exact I.pin p (List.mem_append_right _ hp)
theorem unpinned {L : Addr} {o : Obj} (I : Inv X ((L, o) :: pins) σ H s) : Inv X pins σ H s := I.pins_of fun p hp => I.pin p (List.mem_append_right _ (List.mem_cons_of_mem _ hp))
theorem vals_at : ∀ {xs : List V} {us : List Value}, Vals xs us → ∀ {j : Nat} {u : Value}, us[j]? = some u → ∃ x, xs[j]? = some x ∧ RelV x u
  | _, _, .nil, j, u, h => by simp at h
  | _, _, .cons h r, 0, u, e => ⟨_, rfl, by
      have := Option.some.inj e
      subst this
      exact h⟩
  | _, _, .cons h r, j + 1, u, e => vals_at r (by simpa using e)
theorem vals_refs : ∀ {Z : List Ent} {us : List Value}, Vals (Z.map fun z => V.ref z.p) us → us = Z.map fun z => Value.ref z.p
  | [], _, h => by cases h; rfl
  | z :: Z, _, h => by
    cases h with
    | cons h r =>
      rw [List.map_cons, ← vals_refs r]
      exact congrArg (· :: _) h
theorem zip_ents : ∀ Z : List Ent, (Z.map fun z => Value.ref z.p).zip (Z.map Ent.u) = Z.map fun z => (Value.ref z.p, z.u)
  | [] => rfl
  | z :: Z => by
    rw [List.map_cons, List.map_cons, List.map_cons, List.zip_cons_cons, zip_ents Z]
theorem vals_ents : ∀ {Z : List Ent}, (∀ z ∈ Z, RelV z.v z.u) → Vals (Z.map Ent.v) (Z.map Ent.u)
  | [], _ => .nil
  | z :: Z, h => .cons (h z List.mem_cons_self) (vals_ents fun y hy => h y (List.mem_cons_of_mem _ hy))
theorem reps_ents {K : PySem.W.Frag} : ∀ {Z : List Ent}, (∀ z ∈ Z, Rep K H z.t z.v) → Reps K H (Z.map Ent.t) (Z.map Ent.v)
  | [], _ => Reps.nil
  | z :: Z, h => Reps.cons (h z List.mem_cons_self) (reps_ents fun y hy => h y (List.mem_cons_of_mem _ hy))
def spKey (K : PySem.W.Frag) : Sp := fun vs H Q _ => ∃ v t, vs = [v] ∧ Rep K H t v ∧ Ok t ∧ size t ≤ 50000 ∧ ∀ p H', H p = none → Ex H H' → KeyL K H' p (pre t) → Q (.ref p) H'
def rSrt (K : PySem.W.Frag) (f : Addr) : List V → List V → Hp → VK → Prop := fun vs zs H Q => ∃ a xs ts, vs = [V.ref a] ∧ zs = [V.ref f] ∧ (SqL K H a xs ∨ SqT K H a xs) ∧ Reps K H ts xs ∧ Oks ts ∧ (∀ t ∈ ts, size t ≤ 50000) ∧ xs.length ≤ 1000 ∧
  ∀ p ys us H', H p = none → Ex H H' → H' p = some (.lst ys) → Reps K H' us ys → us.Perm ts → Rising us → Q (.ref p) H'
theorem cr_srt {k : Nat} {f : Addr} {fd : FuncData} {ps : List Str} (F : FnOk X.prog X.w X.K X.mg X.base CX0 k f fd ps (spKey X.K)) (hb : Binds X.K fd ps []) (hr : Room (k + 2) X.A) : CallRK X (.builtin "sorted") [Str.ofString "key"] (rSrt X.K f) := by
  intro pins s σ H vs zs us ws Q I r rz h
  obtain ⟨a, xs, ts, rfl, rfl, hS, hR, hO, hz0, hx, q⟩ := h
  have hz' : ∀ (t : Tm) {j : Nat}, ts[j]? = some t → size t ≤ 50000 := fun t j e => hz0 t (List.mem_of_getElem? e)
  obtain rfl := Vals.ref1 r
  obtain ⟨w1, rfl, e1⟩ := vals1 rz
  obtain rfl : w1 = Value.ref f := e1
  obtain ⟨its, rv, T, o, n, hT, ho, hc, hd⟩ : ∃ its, Vals xs its ∧ ∃ (T : String) (o : Obj) (n : Nat), (T = "list" ∨ T = "tuple") ∧ s.heap.get? a = some o ∧ o.cls = .type T ∧ o.data = .seq its.toArray n := by
    rcases hS with hS | hS
    · obtain ⟨its, rv, hl, _⟩ := I.list hS
      obtain ⟨o, ho, hc, n, hd⟩ := hl.isList
      exact ⟨its, rv, "list", o, n, .inl rfl, ho, hc, hd⟩
    · obtain ⟨its, rv, ⟨o, ho, hc, n, hd⟩, _⟩ := I.tuple hS
      exact ⟨its, rv, "tuple", o, n, .inr rfl, ho, hc, hd⟩
  have hlen : its.length ≤ 1000 := by rw [← rv.length]; exact hx
  have hsz : its.length ≤ sizeLine := Nat.le_trans hlen (by decide)
  refine call_function_entry_kw kind_sorted plain_sorted entry_sorted (ksk_s1 _ _) ?_
  unfold Builtin.«sorted»
  refine wpAny_bind (m := checkCount "sorted" 1 1 _) (wpAny_pure ?_)
  refine wpAny_bind (wpAny_collect_seq a hT ho hc hd (fun h1 k1 => ?_) (by rw [List.size_toArray]; exact hsz))
  have I1 : Inv X pins σ H { s with heap := h1 } := I.kept (t' := s.toks) k1
  rw [List.toList_toArray]
  refine wpAny_bind (wpAny_newList ?_ hsz)
  have fL : H h1.objs.size = none := I1.hok.fresh (Nat.le_refl _)
  have frL : Fre X pins h1.objs.size := Fre.of I1 (Nat.le_refl _)
  have hoL : (h1.push (seqObj "list" its.toArray 0)).get? h1.objs.size = some (seqObj "list" its.toArray 0) := Heap.get?_push_size _ rfl
  have I2 : Inv X pins σ H { s with heap := h1.push (seqObj "list" its.toArray 0) } := I1.kept (t' := s.toks) fun b u e => Heap.get?_push_of_some _ e
  generalize h1.objs.size = L at *
  refine wpAny_bind (wpAny_holding (wpAny_call_entry_kw slot_list_sort ⟨_, hoL, rfl⟩ entry_list_sort ?body (ksk_l1 _ _)))
  case body =>
    show wpAny (model X.prog X.w) X.A.in1.in1 (Builtin.«list.sort» ⟨[.ref L], [(Str.ofString "key", .ref f)]⟩) _ _ _
    rw [ksk_t1]
    unfold ksk_tree
    refine wpAny_bind (listItems_at hoL rfl ?_)
    refine wpAny_bind (listUpdate_at hoL rfl ?_ (by rw [List.size_toArray]; exact hsz) (Nat.zero_le _))
    obtain ⟨e1, ho1⟩ : ∃ e1, ((h1.push (seqObj "list" its.toArray 0)).update L (Obj.mapSeq fun _ => (#[] : Array Value))).get? L = some (seqObj "list" #[] e1) := ⟨_, get?_update_seq hoL fun _ => #[]⟩
    have I3 : Inv X pins σ H { s with heap := (h1.push (seqObj "list" its.toArray 0)).update L (Obj.mapSeq fun _ => (#[] : Array Value)) }     := touched (s := { s with heap := h1.push (seqObj "list" its.toArray 0) }) I2 frL fL fun b u hb hu => (Heap.get?_update_ne _ _ _ _ hb).trans hu
    refine wpAny_bind (seqEpoch_at ho1 rfl ?_)
    generalize (h1.push (seqObj "list" its.toArray 0)).update L (Obj.mapSeq fun _ => (#[] : Array Value)) = h3 at *
    refine wpAny_bind (wpAny_newTuple ?_ (by rw [List.toList_toArray]; exact hsz))
    refine wpAny_bind (wpAny_newList ?_ (Nat.zero_le _))
    refine wpAny_holding ?_
    rw [List.toList_toArray]
    have I4 : Inv X pins σ H { s with heap := h3.push (seqObj "tuple" its.toArray 0) } := I3.kept (t' := s.toks) fun b u e => Heap.get?_push_of_some _ e
    have ho4 : (h3.push (seqObj "tuple" its.toArray 0)).get? L = some (seqObj "list" #[] e1) := Heap.get?_push_of_some _ ho1
    generalize hh4 : h3.push (seqObj "tuple" its.toArray 0) = h4 at *
    have I4 := pinned I4 frL fL ho4 (fun v z => by cases z)
    have fK : H h4.objs.size = none := I4.hok.fresh (Nat.le_refl _)
    have hoK : (h4.push (seqObj "list" #[] 0)).get? h4.objs.size = some (seqObj "list" #[] 0) := Heap.get?_push_size _ rfl
    have I5 : Inv X ((L, seqObj "list" #[] e1) :: pins) σ (upd H h4.objs.size (.lst [])) { s with heap := h4.push (seqObj "list" #[] 0) } := I4.laid (t' := s.toks) (fun b u e => Heap.get?_push_of_some _ e) (Nat.le_refl _) ⟨Nat.zero_le _, [], 0, .nil, hoK⟩
    have hLK : L ≠ h4.objs.size := Nat.ne_of_lt (Heap.lt_size ho4)
    generalize h4.objs.size = kS at *
    unfold ksk_rest
    refine wpAny_bind (wpAny_rule ?_)
    rw [List.forIn_toArray]
    refine wpAny_bind (ksk_fold (fun j s' => ∃ (H' : Hp) (Z : List Ent), Inv X ((L, seqObj "list" #[] e1) :: pins) σ H' s' ∧ Ex H H' ∧ H' kS = some (.lst (Z.map fun z => V.ref z.p)) ∧ Z.map Ent.t = ts.take j ∧ Z.map Ent.u = its.take j ∧ (Z.map Ent.p).Nodup ∧ ∀ z ∈ Z, z.p ≠ kS ∧ KeyL X.K H' z.p (pre z.t) ∧ Rep X.K H z.t z.v ∧ RelV z.v z.u) its 0 _ ?init ?step ?done)
    case init =>
      exact ⟨_, [], I5, Ex.new fK, upd_same, rfl, rfl, List.nodup_nil, fun z hz => by cases hz⟩
    case step =>
      rintro j u s' hju ⟨H', Z, I', eH, hK', zt, zu, nd, hz⟩
      simp only [Nat.zero_add] at zt zu ⊢
      obtain ⟨x, hxj, hxu⟩ := vals_at rv hju
      obtain ⟨t, htj, hrt⟩ := hR.get hxj
      refine wpAny_bind (wpAny_attempt (wpAny_mono (run2 (Q := fun v H2 => ∃ p, v = .ref p ∧ H' p = none ∧ Ex H' H2 ∧ KeyL X.K H2 p (pre t)) F (hr.in1.in1) hb I' (.cons hxu .nil) ⟨x, t, rfl, hrt.mono (Tups.of eH), oks_get hO htj, hz' t htj, fun p H2 hp e2 hk => ⟨p, rfl, hp, e2, hk⟩⟩) (fun kv s2 he => ?_) fun _ _ hF => hF.elim))
      obtain ⟨v, H2, I6, rkv, p, rfl, hp, e2, hky⟩ := he
      have hK2 := e2 _ _ hK'
      have zlen : Z.length = j := by
        have := congrArg List.length zu
        rw [List.length_map, List.length_take] at this
        have hj : j < its.length := (List.getElem?_eq_some_iff.mp hju).1
        omega
      have hj : j < its.length := (List.getElem?_eq_some_iff.mp hju).1
      obtain ⟨hz2, kis, kn, kv2, hgK⟩ := I6.hok _ _ hK2
      obtain ⟨c2, hc2⟩ : ∃ c2, (s2.heap.update kS (Obj.mapSeq (·.push kv))).get? kS = some (seqObj "list" (kis.toArray.push kv) c2) := ⟨_, get?_update_seq hgK (·.push kv)⟩
      have kl : kis.length = j := by
        rw [← kv2.length, List.length_map, zlen]
      have e3 : kis.toArray.push kv = (kis ++ [kv]).toArray := by simp
      rw [e3] at hc2
      refine wpAny_bind (listUpdate_at hgK rfl ?_ (by rw [List.size_toArray, kl]; omega) (by rw [Array.size_push, List.size_toArray, kl]; omega))
      have hpK : p ≠ kS := (ne_of_none hK' hp).symm
      have I7 : Inv X ((L, seqObj "list" #[] e1) :: pins) σ (upd H2 kS (.lst ((Z ++ [(⟨p, x, u, t⟩ : Ent)]).map fun z => V.ref z.p))) { s2 with heap := s2.heap.update kS (Obj.mapSeq (·.push kv)) } :=
        I6.write (e := kS) (t' := s2.toks) (by rw [hK2]; trivial) (.inl rfl) (fun b u hb hu => (Heap.get?_update_ne _ _ _ _ hb).trans hu) ⟨_, hc2⟩ ⟨by rw [List.length_map, List.length_append, zlen]; show j + 1 ≤ _; omega, kis ++ [kv], c2, by rw [List.map_append]; exact kv2.append (.cons rkv .nil), hc2⟩
      refine wpAny_pure ⟨rfl, _, Z ++ [⟨p, x, u, t⟩], I7, Ex.mut (eH.trans e2) fK, upd_same, ?_, ?_, ?_, fun z hm => ?_⟩
      · rw [List.map_append, zt, List.take_add_one, htj]
        rfl
      · rw [List.map_append, zu, List.take_add_one, hju]
        rfl
      · rw [List.map_append, List.nodup_append]
        refine ⟨nd, by simp, fun y hy z hzz e => ?_⟩
        simp only [List.map_cons, List.map_nil, List.mem_singleton] at hzz
        subst hzz
        subst e
        obtain ⟨y, hy1, hy2⟩ := List.mem_map.mp hy
        obtain ⟨_, ⟨ws, hk, _⟩, _⟩ := hz y hy1
        rw [hy2, hp] at hk
        cases hk
      · rcases List.mem_append.mp hm with hm | hm
        · obtain ⟨a1, a3, a4, a5⟩ := hz z hm
          exact ⟨a1, (a3.ex e2).put hK2 a1, a4, a5⟩
        · have := List.mem_singleton.mp hm
          subst this
          exact ⟨hpK, hky.put hK2 hpK, hrt, hxu⟩
    case done =>
      rintro s' ⟨H', Z, I', eH, hK', zt, zu, nd, hz⟩
      simp only [Nat.zero_add] at zt zu
      have lts : ts.length = its.length := by rw [hR.len, rv.length]
      rw [List.take_of_length_le (by omega)] at zt zu
      obtain ⟨hz2, kis, kn, kv2, hgK⟩ := I'.hok _ _ hK'
      have ek := vals_refs kv2
      have lK : kis.length = its.length := by rw [ek, ← zu, List.length_map, List.length_map]
      obtain ⟨hgL, nL, _⟩ := I'.pin (L, seqObj "list" #[] e1) (List.mem_append_right _ List.mem_cons_self)
      have ez : (kis.toArray.zip its.toArray).toList = Z.map fun z => (Value.ref z.p, z.u) := by
        rw [ksk_zip, List.toList_toArray, ek, ← zu, zip_ents]
      have rd : ∀ z ∈ Z, ∃ as, Reads s'.heap (.ref z.p) (.list ((pre z.t).map hdD)) as := fun z hm => Dp.reads I' _ _ _ (hz z hm).2.1.dp rfl
      have okz : ∀ z ∈ Z, Ok z.t := fun z hm => by
        have : z.t ∈ ts := by rw [← zt]; exact List.mem_map_of_mem hm
        obtain ⟨i, hi, e⟩ := List.getElem_of_mem this
        exact oks_get hO (by rw [List.getElem?_eq_getElem hi, e])
      refine wpAny_bind (listItems_at hgK rfl ?_)
      refine srt_end (P := fun p => ∃ z ∈ Z, p.1 = .ref z.p) (lt := ltK Z) (ltK_swo Z) hLK.symm (by rw [List.size_toArray]; exact hsz) (by rw [List.size_toArray, List.size_toArray, lK]) hgK hgL (fun _ => ?_) (fun p hp => ?_) (fun v hv => ?_) fun out h1 h2 => ?_
      · rintro x y ⟨z, z1, z2⟩ ⟨z', z1', z2'⟩
        show wpAny _ _ (keyLt' oneType' x.1 y.1) (fun r s'' => s'' = s' ∧ r = ltK Z x y) _ s'
        have el : ltK Z x y = decide (kC (kcode z.t) (kcode z'.t) < 0) := by
          unfold ltK
          rw [z2, z2', code_at nd z1, code_at nd z1']
        rw [z2, z2', keyLt'_oneType, oneLt'_eq, el]
        simp only [if_true]
        obtain ⟨as, r1⟩ := rd z z1
        obtain ⟨bs, r2⟩ := rd z' z1'
        have un := hr.un
        have du : X.A.in1.in1.units = X.A.units + 2 := rfl
        cases r1 with
        | @list p1 o1 vs1 n1 _ as1 a1 a2 a3 a4 =>
          cases r2 with
          | @list p2 o2 vs2 n2 _ as2 b1 b2 b3 b4 =>
            refine wpAny_bind (wpAny_cRoomFor (by rw [du]; omega) ?_)
            refine wpAny_bind (wpAny_callSpecialIfBound?_slot (T := "list") ⟨_, a1, a2⟩ PySem.F.slot_list_lt (call_lst ⟨o1, a1, a2, n1, a3⟩ ⟨o2, b1, b2, n2, b3⟩ (heads_dec (A := X.A.in1.in1.in1) (by show X.A.units + 3 + 2 < _; omega) _ _ _ _ _ _ (ok_pre (okz z z1)) (ok_pre (okz z' z1')) a4 b4) ?_))
            exact wpAny_truthy_bool ⟨rfl, rfl⟩
      · rw [ez] at hp
        obtain ⟨z, hm, e⟩ := List.mem_map.mp hp
        exact ⟨z, hm, by rw [← e]⟩
      · rw [List.toList_toArray, ek] at hv
        obtain ⟨z, hm, e⟩ := List.mem_map.mp hv
        obtain ⟨as, r1⟩ := rd z hm
        rw [← e]
        exact looks_reads r1
      · rw [ez] at h2
        obtain ⟨Z', pZ, eZ⟩ := perm_back h2.perm Z rfl
        have hz3 : ∀ z ∈ Z', z ∈ Z := fun z hm => pZ.mem_iff.mp hm
        have eo : (out.map (·.2)) = Z'.map Ent.u := by rw [eZ, List.map_map]; rfl
        have lZ : Z'.length = its.length := by rw [pZ.length_eq, ← zu, List.length_map]
        obtain ⟨c2, hc2⟩ : ∃ c2, (s'.heap.update kS (Obj.mapSeq fun _ => (#[] : Array Value))).get? kS = some (seqObj "list" #[] c2) := ⟨_, get?_update_seq hgK fun _ => #[]⟩
        have I8 : Inv X pins σ (upd H' kS (.lst [])) { s' with heap := s'.heap.update kS (Obj.mapSeq fun _ => (#[] : Array Value)) } :=
          (unpinned I').write (e := kS) (t' := s'.toks) (by rw [hK']; trivial) (.inl rfl) (fun b u hb hu => (Heap.get?_update_ne _ _ _ _ hb).trans hu) ⟨_, hc2⟩ ⟨Nat.zero_le _, [], c2, .nil, hc2⟩
        have hgL8 : (s'.heap.update kS (Obj.mapSeq fun _ => (#[] : Array Value))).get? L = some (seqObj "list" #[] e1) := (Heap.get?_update_ne _ _ _ _ hLK).trans hgL
        have nL8 : upd H' kS (.lst []) L = none := by rw [upd_ne hLK]; exact nL
        obtain ⟨c3, hc3⟩ : ∃ c3, ((s'.heap.update kS (Obj.mapSeq fun _ => (#[] : Array Value))).update L (Obj.mapSeq fun _ => (out.map (·.2)).toArray)).get? L = some (seqObj "list" (out.map (·.2)).toArray c3) := ⟨_, get?_update_seq hgL8 fun _ => (out.map (·.2)).toArray⟩
        have I9 : Inv X pins σ (upd (upd H' kS (.lst [])) L (.lst (Z'.map Ent.v))) { s' with heap := (s'.heap.update kS (Obj.mapSeq fun _ => (#[] : Array Value))).update L (Obj.mapSeq fun _ => (out.map (·.2)).toArray) } :=
          adopt (s := { s' with heap := s'.heap.update kS (Obj.mapSeq fun _ => (#[] : Array Value)) }) I8 frL nL8 (fun b u hb hu => (Heap.get?_update_ne _ _ _ _ hb).trans hu) ⟨by rw [List.length_map, lZ]; exact hsz, out.map (·.2), c3, by rw [eo]; exact vals_ents fun z hm => (hz z (hz3 z hm)).2.2.2, hc3⟩
        have eH9 : Ex H (upd (upd H' kS (.lst [])) L (.lst (Z'.map Ent.v))) := Ex.mut (Ex.mut eH fK) fL
        refine ⟨_, rfl, wpAny_pure ⟨_, rfl, .ref L, _, I9, rfl, q L _ (Z'.map Ent.t) _ fL eH9 upd_same (reps_ents fun z hm => (hz z (hz3 z hm)).2.2.1.mono (Tups.of eH9)) (by rw [← zt]; exact pZ.map _) ?_⟩⟩
        have h1' := h1
        unfold Srtd at h1'
        rw [eZ, List.pairwise_map] at h1'
        refine List.pairwise_map.mpr (h1'.imp_of_mem fun {x y} hx hy g => ?_)
        unfold ltK at g
        have g2 := of_decide_eq_false g
        rw [code_at nd (hz3 y hy), code_at nd (hz3 x hx), ord_key] at g2
        have g3 := tord_ok.anti x.t y.t
        omega
end
end Hm

set_option Elab.async false
set_option linter.all false
set_option maxRecDepth 100000
set_option maxHeartbeats 1000000
namespace Hm
open PySem PySem.Spec PyProof.Rows L2 HT
open Evl (Ex)
/-! ## terms as data -/
mutual
def toD : Tm → PyData
  | .var k => .tuple [.int k]
  | .int i => .int i
  | .atom s => .str s
  | .comp f as => .tuple (.str f :: toDs as)
def toDs : List Tm → List PyData
  | [] => []
  | t :: ts => toD t :: toDs ts
end
section
variable {K : PySem.W.Frag} {H : Hp}
mutual
theorem dp_rep : ∀ {t : Tm} {v : V}, Rep K H t v → Dp K H v (toD t)
  | .var k, v, h => by
    unfold Rep at h
    obtain ⟨a, rfl, hT⟩ := h
    exact .tup hT (.cons (.int k) .nil)
  | .int i, v, h => by
    unfold Rep at h
    subst h
    exact .int i
  | .atom s, v, h => by
    unfold Rep at h
    subst h
    exact .str s
  | .comp f as, v, h => by
    unfold Rep at h
    obtain ⟨a, vs, rfl, hT, hA⟩ := h
    exact .tup hT (.cons (.str f) (dp_reps hA))
theorem dp_reps : ∀ {ts : List Tm} {vs : List V}, Reps K H ts vs → DpAll K H vs (toDs ts)
  | [], vs, h => by
    rw [h.nil_inv]
    exact .nil
  | t :: ts, vs, h => by
    obtain ⟨v, ws, rfl, h1, h2⟩ := h.cons_inv
    exact .cons (dp_rep h1) (dp_reps h2)
end
theorem dp_ints {p : Addr} {ns : List Int} (h : SqL K H p (ns.map V.int)) : Dp K H (.ref p) (.list (ns.map PyData.int)) := by
  refine .lst h ?_
  induction ns with
  | nil => exact .nil
  | cons n ns ih => exact .cons (.int n) (ih' ns)
where ih' : ∀ ns : List Int, DpAll K H (ns.map V.int) (ns.map PyData.int)
  | [] => .nil
  | n :: ns => .cons (.int n) (ih' ns)
end
theorem lay_ints : ∀ ns : List Int, PyData.canLayAll0 (ns.map PyData.int) = true
  | [] => rfl
  | n :: ns => by
    show (PyData.canLay0 (.int n) && PyData.canLayAll0 (ns.map PyData.int)) = true
    rw [lay_ints ns]
    rfl
theorem dep_ints : ∀ ns : List Int, PyData.depthAll (ns.map PyData.int) = 0
  | [] => rfl
  | n :: ns => by
    show max (PyData.depth (.int n)) (PyData.depthAll (ns.map PyData.int)) = 0
    rw [dep_ints ns]
    rfl
theorem shaped_ints (ns : List Int) : SeqAt.shaped (.list (ns.map PyData.int)) = true := by
  show (PyData.canLayAll0 (ns.map PyData.int) && decide (PyData.depthAll (ns.map PyData.int) + 1 ≤ 64)) = true
  rw [lay_ints, dep_ints]
  rfl
theorem eqv_ints (ns : List Int) : PyData.eqv (.list (ns.map PyData.int)) (.list (ns.map PyData.int)) = true := SeqAt.eqv_refl _ (lay_ints ns)
theorem strOk_of {s : Str} (h : AtomOk s) : (PyData.str s).canLay0 = true := by
  show (s.cps.all fun c => decide (c < 0x110000)) = true
  rw [← Array.all_toList, List.all_eq_true]
  intro c hc
  have := h.2 c hc
  exact decide_eq_true (by omega)
mutual
theorem lay_tm : ∀ {t : Tm}, Ok t → (toD t).canLay0 = true
  | .var k, _ => rfl
  | .int i, _ => rfl
  | .atom s, h => by
    unfold Ok at h
    exact strOk_of h
  | .comp f as, h => by
    unfold Ok at h
    unfold toD
    show ((PyData.str f).canLay0 && PyData.canLayAll0 (toDs as)) = true
    rw [strOk_of h.1, lay_tms h.2.2.2]
    rfl
theorem lay_tms : ∀ {ts : List Tm}, Oks ts → PyData.canLayAll0 (toDs ts) = true
  | [], _ => rfl
  | t :: ts, h => by
    rw [oks_cons] at h
    unfold toDs
    show ((toD t).canLay0 && PyData.canLayAll0 (toDs ts)) = true
    rw [lay_tm h.1, lay_tms h.2]
    rfl
end
mutual
theorem dep_tm : ∀ t : Tm, (toD t).depth ≤ depth t
  | .var k => by
    show max (PyData.depth (.int k)) (PyData.depthAll []) + 1 ≤ 1
    exact Nat.le_refl _
  | .int i => Nat.zero_le _
  | .atom s => Nat.zero_le _
  | .comp f as => by
    unfold toD depth
    have := dep_tms as
    show max (PyData.depth (.str f)) (PyData.depthAll (toDs as)) + 1 ≤ _
    have e : PyData.depth (.str f) = 0 := rfl
    omega
theorem dep_tms : ∀ ts : List Tm, PyData.depthAll (toDs ts) ≤ depths ts
  | [] => Nat.zero_le _
  | t :: ts => by
    unfold toDs
    rw [depths_cons]
    have h1 := dep_tm t
    have h2 := dep_tms ts
    show max (toD t).depth (PyData.depthAll (toDs ts)) ≤ _
    omega
end
theorem shaped_tm {t : Tm} (h : Ok t) (hd : depth t ≤ 64) : SeqAt.shaped (toD t) = true := by
  show ((toD t).canLay0 && decide ((toD t).depth ≤ 64)) = true
  rw [lay_tm h, decide_eq_true (Nat.le_trans (dep_tm t) hd)]
  rfl
theorem eqv_tm {t : Tm} (h : Ok t) : PyData.eqv (toD t) (toD t) = true := SeqAt.eqv_refl _ (lay_tm h)
mutual
theorem eqv_toD : ∀ s t : Tm, PyData.eqv (toD s) (toD t) = decide (tord s t = 0)
  | .var i, .var j => by
    show ((i == j : Bool) && true) = decide (hC [0, i] [0, j] = 0)
    rw [hC_two, intC_beq, Bool.and_true]
  | .int i, .int j => by
    show (i == j : Bool) = decide (hC [1, i] [1, j] = 0)
    rw [hC_two, intC_beq]
  | .atom i, .atom j => by
    show (i == j : Bool) = decide (hC (2 :: cpsI i) (2 :: cpsI j) = 0)
    rw [hC_str, sC_beq]
  | .comp f as, .comp g bs => by
    rw [tord]
    unfold toD
    show ((f == g : Bool) && PyData.eqvAll (toDs as) (toDs bs)) = _
    rw [eqv_toDs as bs, sC_beq]
    by_cases e1 : intC (as.length : Int) (bs.length : Int) = 0
    · have := intC_ok.eq _ _ e1
      rw [if_pos e1, decide_eq_true (show as.length = bs.length by omega), Bool.true_and]
      by_cases e2 : sC f g = 0
      · rw [if_pos e2, decide_eq_true e2, Bool.true_and]
      · rw [if_neg e2, decide_eq_false e2, Bool.false_and]
    · have hl : ¬ as.length = bs.length := fun z => e1 (by rw [z]; exact intC_ok.refl _)
      rw [if_neg e1, decide_eq_false e1, decide_eq_false hl, Bool.false_and, Bool.and_false]
  | .var i, .int j => by rw [decide_eq_false (show tord (.var i) (.int j) ≠ 0 from hC_rank (by simp [rank]))]; rfl
  | .var i, .atom j => by rw [decide_eq_false (show tord (.var i) (.atom j) ≠ 0 from hC_rank (by simp [rank]))]; rfl
  | .var i, .comp g bs => by
    rw [decide_eq_false (show tord (.var i) (.comp g bs) ≠ 0 from hC_rank (by simp [rank]))]
    unfold toD
    rfl
  | .int i, .var j => by rw [decide_eq_false (show tord (.int i) (.var j) ≠ 0 from hC_rank (by simp [rank]))]; rfl
  | .int i, .atom j => by rw [decide_eq_false (show tord (.int i) (.atom j) ≠ 0 from hC_rank (by simp [rank]))]; rfl
  | .int i, .comp g bs => by
    rw [decide_eq_false (show tord (.int i) (.comp g bs) ≠ 0 from hC_rank (by simp [rank]))]
    unfold toD
    rfl
  | .atom i, .var j => by rw [decide_eq_false (show tord (.atom i) (.var j) ≠ 0 from hC_rank (by simp [rank]))]; rfl
  | .atom i, .int j => by rw [decide_eq_false (show tord (.atom i) (.int j) ≠ 0 from hC_rank (by simp [rank]))]; rfl
  | .atom i, .comp g bs => by
    rw [decide_eq_false (show tord (.atom i) (.comp g bs) ≠ 0 from hC_rank (by simp [rank]))]
    unfold toD
    rfl
  | .comp g bs, .var j => by
    rw [decide_eq_false (show tord (.comp g bs) (.var j) ≠ 0 from hC_rank (by simp [rank]))]
    unfold toD
    rfl
  | .comp g bs, .int j => by
    rw [decide_eq_false (show tord (.comp g bs) (.int j) ≠ 0 from hC_rank (by simp [rank]))]
    unfold toD
    rfl
  | .comp g bs, .atom j => by
    rw [decide_eq_false (show tord (.comp g bs) (.atom j) ≠ 0 from hC_rank (by simp [rank]))]
    unfold toD
    rfl
theorem eqv_toDs : ∀ as bs : List Tm, PyData.eqvAll (toDs as) (toDs bs) = (decide (as.length = bs.length) && decide (tords as bs = 0))
  | [], [] => by simp [toDs, PyData.eqvAll, tords]
  | [], b :: bs => by simp [toDs, PyData.eqvAll]
  | a :: as, [] => by simp [toDs, PyData.eqvAll]
  | a :: as, b :: bs => by
    unfold toDs
    show (PyData.eqv (toD a) (toD b) && PyData.eqvAll (toDs as) (toDs bs)) = _
    rw [eqv_toD a b, eqv_toDs as bs, tords]
    have e : decide ((a :: as).length = (b :: bs).length) = decide (as.length = bs.length) := by simp
    rw [e]
    by_cases z : tord a b = 0
    · rw [if_pos z, decide_eq_true z, Bool.true_and]
    · rw [if_neg z, decide_eq_false z, Bool.false_and, Bool.and_false]
end
theorem tord_rank {s t : Tm} (h : rank s ≠ rank t) : tord s t = intC (rank s) (rank t) := by
  obtain ⟨x, e1⟩ := hcode_row s
  obtain ⟨y, e2⟩ := hcode_row t
  have e : tord s t = hC (hcode s) (hcode t) := by
    cases s <;> cases t <;> first | rfl | exact absurd rfl h
  rw [e, e1, e2, hC_tag' h]
theorem tord_var (i j : Int) : tord (.var i) (.var j) = intC i j := hC_two 0 i j
theorem tord_int (i j : Int) : tord (.int i) (.int j) = intC i j := hC_two 1 i j
theorem tord_atom (a b : Str) : tord (.atom a) (.atom b) = sC a b := hC_str a b
end Hm

set_option Elab.async false
set_option linter.all false
set_option maxRecDepth 100000
set_option maxHeartbeats 1000000
namespace Hm
open PySem PySem.Spec PyProof.Rows L2 HT
open Evl (Ex)
/-! ## objects of all sorts, by what is_term asks of them -/
inductive Od where
  | non
  | bl (b : Bool)
  | int (i : Int)
  | str (s : Str)
  | lst
  | dic
  | tup (ds : List Od)
mutual
def sizeD : Od → Nat
  | .non => 1
  | .bl _ => 1
  | .int _ => 1
  | .str s => 1 + s.length
  | .lst => 1
  | .dic => 1
  | .tup ds => 1 + sizesD ds
def sizesD : List Od → Nat
  | [] => 0
  | d :: ds => sizeD d + sizesD ds
end
mutual
inductive OdAt (K : PySem.W.Frag) (H : Hp) : V → Od → Prop
  | non : OdAt K H .non .non
  | bl (b : Bool) : OdAt K H (.bl b) (.bl b)
  | int (i : Int) : OdAt K H (.int i) (.int i)
  | str (s : Str) : OdAt K H (.str s) (.str s)
  | lst {a : Addr} {xs : List V} : SqL K H a xs → OdAt K H (.ref a) .lst
  | dic {a : Addr} {kvs : List (Key × V)} : H a = some (.dK kvs) → OdAt K H (.ref a) .dic
  | tup {a : Addr} {xs : List V} {ds : List Od} : SqT K H a xs → OdAll K H xs ds → OdAt K H (.ref a) (.tup ds)
inductive OdAll (K : PySem.W.Frag) (H : Hp) : List V → List Od → Prop
  | nil : OdAll K H [] []
  | cons {v : V} {vs : List V} {d : Od} {ds : List Od} : OdAt K H v d → OdAll K H vs ds → OdAll K H (v :: vs) (d :: ds)
end
def signOk (c : Nat) : Bool := decide (32 ≤ c ∧ c ≤ 126 ∧ c ≠ 37)
def atomD : Od → Bool
  | .str s => decide (s.length ≤ 40) && s.cps.toList.all signOk
  | _ => false
def intD : Od → Bool
  | .int _ => true
  | _ => false
def numD : Od → Bool
  | .int i => decide (0 ≤ i)
  | _ => false
def partD : Od → Bool
  | .int i => decide (-tooGreat < i) && decide (i < tooGreat)
  | .tup ds => match ds with
    | [] => false
    | [x] => numD x
    | x :: y :: r => decide (r.length ≤ 7) && atomD x
  | d => atomD d
def argsD : Od → List Od
  | .tup (_ :: ds) => ds
  | _ => []
mutual
def isT : Od → Bool
  | .non => false
  | .bl _ => false
  | .int i => decide (-tooGreat < i) && decide (i < tooGreat)
  | .str s => atomD (.str s)
  | .lst => false
  | .dic => false
  | .tup ds => partD (.tup ds) && isTq true ds
/-- all of them, or all but the first -/
def isTq : Bool → List Od → Bool
  | _, [] => true
  | true, _ :: ds => isTq false ds
  | false, d :: ds => isT d && isTq false ds
end
abbrev isTs (ds : List Od) : Bool := isTq false ds
theorem isTs_nil : isTs [] = true := rfl
theorem isTs_cons (d : Od) (ds : List Od) : isTs (d :: ds) = (isT d && isTs ds) := rfl
theorem isT_eq : ∀ d : Od, isT d = (partD d && isTs (argsD d))
  | .tup [] => rfl
  | .tup (x :: ds) => rfl
  | .non => rfl
  | .bl b => rfl
  | .int b => (Bool.and_true _).symm
  | .str b => (Bool.and_true _).symm
  | .lst => rfl
  | .dic => rfl
theorem isTs_app : ∀ xs ys : List Od, isTs (xs ++ ys) = (isTs xs && isTs ys)
  | [], ys => by rw [isTs_nil, Bool.true_and]; rfl
  | x :: xs, ys => by
    show isTs (x :: (xs ++ ys)) = _
    rw [isTs_cons, isTs_cons, isTs_app xs ys, Bool.and_assoc]
theorem sizesD_app : ∀ xs ys : List Od, sizesD (xs ++ ys) = sizesD xs + sizesD ys
  | [], ys => by rw [sizesD, Nat.zero_add]; rfl
  | x :: xs, ys => by
    show sizesD (x :: (xs ++ ys)) = _
    rw [sizesD, sizesD, sizesD_app xs ys, Nat.add_assoc]
theorem sizeD_pos : ∀ d : Od, 1 ≤ sizeD d
  | .non => Nat.le_refl _
  | .bl _ => Nat.le_refl _
  | .int _ => Nat.le_refl _
  | .str _ => Nat.le_add_right _ _
  | .lst => Nat.le_refl _
  | .dic => Nat.le_refl _
  | .tup _ => Nat.le_add_right _ _
theorem sizeD_args : ∀ d : Od, 1 + sizesD (argsD d) ≤ sizeD d
  | .tup [] => by rw [sizeD]; exact Nat.le_refl _
  | .tup (x :: ds) => by
    rw [sizeD, sizesD]
    show 1 + sizesD ds ≤ _
    omega
  | .non => sizeD_pos _
  | .bl b => sizeD_pos _
  | .int b => sizeD_pos _
  | .str b => sizeD_pos _
  | .lst => sizeD_pos _
  | .dic => sizeD_pos _
theorem len_sizesD : ∀ ds : List Od, ds.length ≤ sizesD ds
  | [] => Nat.zero_le _
  | d :: ds => by
    have h1 := len_sizesD ds
    have h2 := sizeD_pos d
    rw [sizesD, List.length_cons]
    omega
section
variable {K : PySem.W.Frag} {H : Hp}
/-- what an object that changes may do: lists and dicts stay such -/
structure Kind (K : PySem.W.Frag) (H H' : Hp) : Prop where
  t : Tups K H H'
  l : ∀ a xs, SqL K H a xs → ∃ ys, SqL K H' a ys
  d : ∀ a kvs, H a = some (.dK kvs) → ∃ ls, H' a = some (.dK ls)
theorem Kind.of {H H' : Hp} (e : Ex H H') : Kind K H H' := ⟨Tups.of e, fun a xs h => ⟨xs, Evl.ex_l e h⟩, fun a kvs h => ⟨kvs, e _ _ h⟩⟩
theorem Kind.trans {H H1 H2 : Hp} (p : Kind K H H1) (q : Kind K H1 H2) : Kind K H H2 := ⟨p.t.trans q.t, fun a xs h => (p.l a xs h).elim fun ys z => q.l a ys z, fun a xs h => (p.d a xs h).elim fun ys z => q.d a ys z⟩
theorem Kind.lst {H : Hp} {a : Addr} {xs ys : List V} (h : H a = some (.lst xs)) : Kind K H (upd H a (.lst ys)) := ⟨Tups.lst h, fun b zs z => by
  by_cases e : b = a
  · subst e
    exact ⟨ys, SqL.of upd_same⟩
  · rcases z with (z | ⟨o, z⟩) | z
    · exact ⟨zs, .inl (.inl (by rw [upd_ne e]; exact z))⟩
    · exact ⟨zs, .inl (.inr ⟨o, by rw [upd_ne e]; exact z⟩)⟩
    · exact ⟨zs, .inr z⟩, fun b kvs z => by
  by_cases e : b = a
  · subst e
    rw [h] at z
    cases z
  · exact ⟨kvs, by rw [upd_ne e]; exact z⟩⟩
mutual
theorem OdAt.mono {H H' : Hp} (m : Kind K H H') : ∀ {v : V} {d : Od}, OdAt K H v d → OdAt K H' v d
  | _, _, .non => .non
  | _, _, .bl b => .bl b
  | _, _, .int i => .int i
  | _, _, .str s => .str s
  | _, _, .lst h => (m.l _ _ h).elim fun ys z => .lst z
  | _, _, .dic h => (m.d _ _ h).elim fun ys z => .dic z
  | _, _, .tup h r => .tup (m.t _ _ h) (OdAll.mono m r)
theorem OdAll.mono {H H' : Hp} (m : Kind K H H') : ∀ {vs : List V} {ds : List Od}, OdAll K H vs ds → OdAll K H' vs ds
  | _, _, .nil => .nil
  | _, _, .cons h r => .cons (h.mono m) (OdAll.mono m r)
end
theorem OdAll.len : ∀ {vs : List V} {ds : List Od}, OdAll K H vs ds → ds.length = vs.length
  | _, _, .nil => rfl
  | _, _, .cons _ r => by rw [List.length_cons, List.length_cons, OdAll.len r]
theorem OdAll.app : ∀ {vs ws : List V} {ds es : List Od}, OdAll K H vs ds → OdAll K H ws es → OdAll K H (vs ++ ws) (ds ++ es)
  | _, _, _, _, .nil, h => h
  | _, _, _, _, .cons a r, h => .cons a (OdAll.app r h)
theorem OdAll.last : ∀ {ds : List Od} {d : Od} {vs : List V}, OdAll K H vs (ds ++ [d]) → ∃ ws v, vs = ws ++ [v] ∧ OdAll K H ws ds ∧ OdAt K H v d
  | [], d, _, .cons h .nil => ⟨[], _, rfl, .nil, h⟩
  | x :: ds, d, _, .cons h r => by
    obtain ⟨ws, v, rfl, h1, h2⟩ := OdAll.last r
    exact ⟨_ :: ws, v, rfl, .cons h h1, h2⟩
/-- its type's name -/
def tyN : Od → String
  | .non => "NoneType"
  | .bl _ => "bool"
  | .int _ => "int"
  | .str _ => "str"
  | .lst => "list"
  | .dic => "dict"
  | .tup _ => "tuple"
theorem ty_od {v : V} {d : Od} (h : OdAt K H v d) : TyX K H v (.type (tyN d)) := by
  cases h with
  | non => exact .base .non
  | bl b => exact .base (.bl b)
  | int i => exact .base (.int i)
  | str s => exact .base (.str s)
  | lst h =>
    rcases h with (h | ⟨o, h⟩) | ⟨o, its, n, h1, h2, _⟩
    · exact .base (.lst h)
    · exact .base (.frz h)
    · exact .kList h1 h2
  | dic h => exact .base (.dK h)
  | tup h _ =>
    rcases h with (h | ⟨o, h⟩) | ⟨o, its, n, h1, h2, _⟩
    · exact .base (.tup h)
    · exact .fTuple h
    · exact .kTuple h1 h2
end
/-! ### terms among them -/
mutual
def odT : Tm → Od
  | .var k => .tup [.int k]
  | .int i => .int i
  | .atom s => .str s
  | .comp f as => .tup (.str f :: odTs as)
def odTs : List Tm → List Od
  | [] => []
  | t :: ts => odT t :: odTs ts
end
theorem odTs_len : ∀ ts : List Tm, (odTs ts).length = ts.length
  | [] => rfl
  | t :: ts => by rw [odTs, List.length_cons, List.length_cons, odTs_len ts]
mutual
theorem od_rep {K : PySem.W.Frag} {H : Hp} : ∀ {t : Tm} {v : V}, Rep K H t v → OdAt K H v (odT t)
  | .var k, v, h => by
    unfold Rep at h
    obtain ⟨a, rfl, hT⟩ := h
    exact .tup hT (.cons (.int k) .nil)
  | .int i, v, h => by
    unfold Rep at h
    subst h
    exact .int i
  | .atom s, v, h => by
    unfold Rep at h
    subst h
    exact .str s
  | .comp f as, v, h => by
    unfold Rep at h
    obtain ⟨a, vs, rfl, hT, hA⟩ := h
    exact .tup hT (.cons (.str f) (od_reps hA))
theorem od_reps {K : PySem.W.Frag} {H : Hp} : ∀ {ts : List Tm} {vs : List V}, Reps K H ts vs → OdAll K H vs (odTs ts)
  | [], vs, h => by
    rw [h.nil_inv]
    exact .nil
  | t :: ts, vs, h => by
    obtain ⟨v, ws, rfl, h1, h2⟩ := h.cons_inv
    exact .cons (od_rep h1) (od_reps h2)
end
theorem atomD_ok {s : Str} (h : AtomOk s) : atomD (.str s) = true := by
  show (decide (s.length ≤ 40) && s.cps.toList.all signOk) = true
  rw [decide_eq_true (show s.length ≤ 40 from h.1), Bool.true_and, List.all_eq_true]
  exact fun c hc => decide_eq_true (h.2 c hc)
theorem atomD_is {s : Str} (h : atomD (.str s) = true) : AtomOk s := by
  have h' : (decide (s.length ≤ 40) && s.cps.toList.all signOk) = true := h
  rw [Bool.and_eq_true, List.all_eq_true] at h'
  exact ⟨of_decide_eq_true h'.1, fun c hc => of_decide_eq_true (h'.2 c hc)⟩
mutual
theorem isT_tm : ∀ {t : Tm}, Ok t → isT (odT t) = true
  | .var k, h => by
    unfold Ok at h
    show (decide (0 ≤ k) && true) = true
    rw [decide_eq_true h]
    rfl
  | .int i, h => by
    unfold Ok at h
    show (decide (-tooGreat < i) && decide (i < tooGreat)) = true
    rw [decide_eq_true h.1, decide_eq_true h.2]
    rfl
  | .atom s, h => by
    unfold Ok at h
    exact atomD_ok h
  | .comp f as, h => by
    unfold Ok at h
    obtain ⟨h1, h2, h3, h4⟩ := h
    show (partD (.tup (.str f :: odTs as)) && isTs (odTs as)) = true
    rw [isTs_tm h4, Bool.and_true]
    match as, h2, h3 with
    | a :: as, _, h3 =>
      show (decide ((odTs as).length ≤ 7) && atomD (.str f)) = true
      rw [atomD_ok h1, odTs_len, decide_eq_true (by rw [List.length_cons] at h3; omega)]
      rfl
theorem isTs_tm : ∀ {ts : List Tm}, Oks ts → isTs (odTs ts) = true
  | [], _ => rfl
  | t :: ts, h => by
    rw [oks_cons] at h
    show (isT (odT t) && isTs (odTs ts)) = true
    rw [isT_tm h.1, isTs_tm h.2]
    rfl
end
mutual
theorem sizeD_tm : ∀ {t : Tm}, Ok t → sizeD (odT t) ≤ 42 * size t
  | .var k, _ => by show 1 + (1 + 0) ≤ 42 * 1; decide
  | .int i, _ => by show 1 ≤ 42 * 1; decide
  | .atom s, h => by
    unfold Ok at h
    have h1 : s.length ≤ 40 := h.1
    show 1 + s.length ≤ 42 * 1
    omega
  | .comp f as, h => by
    unfold Ok at h
    have h1 : f.length ≤ 40 := h.1.1
    have h2 := sizesD_tm h.2.2.2
    show 1 + (1 + f.length + sizesD (odTs as)) ≤ 42 * size (.comp f as)
    rw [size]
    omega
theorem sizesD_tm : ∀ {ts : List Tm}, Oks ts → sizesD (odTs ts) ≤ 42 * sizes ts
  | [], _ => by rw [odTs, sizesD]; exact Nat.zero_le _
  | t :: ts, h => by
    rw [oks_cons] at h
    have h1 := sizeD_tm h.1
    have h2 := sizesD_tm h.2
    rw [odTs, sizesD, sizes_cons]
    omega
end
end Hm

set_option Elab.async false
set_option linter.all false
set_option maxRecDepth 100000
set_option maxHeartbeats 2000000
/-! repr of data -/
namespace RG
open PySem PySem.Spec PyProof.Rows L2
/-- repr(x), x data without dicts -/
def rReprD (K : PySem.W.Frag) : List V → Hp → VK → Prop := fun xs H Q => ∃ v d, xs = [v] ∧ Dp K H v d ∧ d.showable = true ∧ d.hasDict = false ∧ d.depth ≤ 60 ∧ d.shown.length ≤ sizeLine ∧ Q (.str d.shown) H
/-- the same, or an empty dict -/
def rReprE (K : PySem.W.Frag) : List V → Hp → VK → Prop := fun xs H Q => rReprD K xs H Q ∨ ∃ a, xs = [.ref a] ∧ H a = some (.dK []) ∧ Q (.str "{}") H
theorem call_reprD {X : Cx} (free : Free X.A) (hu : X.A.units + 64 < cLine) : CallR X (.builtin "repr") (rReprD X.K) := by
  intro pins s σ H xs us Q I r h
  obtain ⟨v, d, rfl, hd, hs, hn, hp, hl, q⟩ := h
  obtain ⟨u, rfl, rv⟩ := vals1 r
  obtain ⟨as, rd⟩ := Dp.reads I d v u hd rv
  cases hd with
  | non =>
    cases rv
    exact PySem.P.repr_of_none ⟨.str _, H, I.tok _, ⟨_, rfl⟩, q⟩
  | bl b =>
    cases rv
    exact PySem.P.repr_of_bool ⟨.str _, H, I.tok _, ⟨_, rfl⟩, q⟩
  | int i =>
    obtain ⟨t, rfl⟩ := rv
    exact PySem.P.repr_of_int (of_decide_eq_true hs) ⟨.str _, H, I.tok _, ⟨_, rfl⟩, q⟩
  | str x =>
    obtain ⟨t, rfl⟩ := rv
    exact PySem.P.repr_of_str ⟨.str _, H, I.tok _, ⟨_, rfl⟩, q⟩ hl
  | lst _ _ =>
    cases rv
    exact repr_of_reads' rd hs (fun z => by rw [hn] at z; cases z) free (by omega) (fun _ _ e => e) (fun h' u tk k => ⟨.str _, H, I.kept k, ⟨_, rfl⟩, q⟩) hl
  | tup _ _ =>
    cases rv
    exact repr_of_reads' rd hs (fun z => by rw [hn] at z; cases z) free (by omega) (fun _ _ e => e) (fun h' u tk k => ⟨.str _, H, I.kept k, ⟨_, rfl⟩, q⟩) hl
theorem call_reprE {X : Cx} (free : Free X.A) (hu : X.A.units + 64 < cLine) : CallR X (.builtin "repr") (rReprE X.K) := by
  intro pins s σ H xs us Q I r h
  rcases h with h | ⟨a, rfl, ha, q⟩
  · exact call_reprD free hu pins s σ H xs us Q I r h
  obtain ⟨u, rfl, rv⟩ := vals1 r
  cases rv
  obtain ⟨_, hn, vs, kv, o, es, ep, e1, ⟨e2, _⟩, e3, _, e4, _⟩ := I.hok a _ ha
  cases kv
  have n1 : es.toList = [] := List.length_eq_zero_iff.mp (by rw [Array.length_toList]; exact e4.length.trans rfl)
  have rd : Reads s.heap (.ref a) (.dict []) ([a] ++ [] ++ []) := Reads.dict e1 e2 e3 (by rw [n1]; exact ReadsAll.nil) (by rw [n1]; exact ReadsAll.nil)
  have ne : a ≠ sysModules := by simpa using hn
  exact repr_of_reads' rd rfl (fun _ z => ne (by simp at z; exact z.symm)) free (by show X.A.units + (1 + 1) < cLine; omega) (fun _ _ e => e) (fun h' u tk k => ⟨.str _, H, I.kept k, ⟨_, rfl⟩, q⟩) (by decide +kernel)
end RG

set_option Elab.async false
set_option linter.all false
set_option maxRecDepth 100000
set_option maxHeartbeats 2000000
/-! the end of a law whose defs show data: at the caller nothing is being shown -/
namespace RG
open PySem PySem.Spec PyProof.Rows L2
/-- the script's list -/
abbrev scr (vs : List Value) : Obj := { cls := .type "list", data := .seq vs.toArray }
/-- what is tracked at the start: the script, if it is not the module's -/
def trk0 (K : PySem.W.Frag) (a : Addr) (vs : List Value) (ns : List Int) : Hp := fun b => if b = a ∧ K.lookup a = none then some (.frz (scr vs) (.lst (ns.map V.int))) else none
theorem trk0_at {K : PySem.W.Frag} {a b : Addr} {vs : List Value} {ns : List Int} {u : HO} (h : trk0 K a vs ns b = some u) : b = a ∧ K.lookup a = none ∧ u = .frz (scr vs) (.lst (ns.map V.int)) := by
  unfold trk0 at h
  split at h
  · rename_i c
    cases h
    exact ⟨c.1, c.2, rfl⟩
  · cases h
theorem law_free {P : Program} {w : World} {K : PySem.W.Frag} {mg mb : Str → Option Value} {CC : CXT} {k : Nat} {fa a : Addr} {fd : FuncData} {x : Str} {sp : Sp} {st : Shared} {vs : List Value} {ns : List Int}
    (inK : K.In st.heap) (gl : st.heap.Ns mainGlobals mg) (bn : st.heap.Ns builtinsNs mb) (boot : ∀ y : Str, y ≠ "__name__" → mb y = bootBuiltins y) (noL : st.heap.NoLimit) (noG : st.gens = #[])
    (at_ : st.heap.get? a = some (scr vs)) (inz : IntsAre vs ns) (few : ns.length ≤ sizeLine) (room : Room k callerA)
    (F : ∀ base : Heap, K.In base → base.Ns mainGlobals mg → FnG P w K mg base CC k fa fd [x] sp) (bind : ∀ (s : Shared) (u : Value), BindsTo s fd ⟨[u], []⟩ [(x, u)])
    (told : ∀ H : Hp, SqL K H a (ns.map V.int) → sp [.ref a] H (fun v _ => v = .bl true) fun _ _ _ => False)
    (calm : ∀ H e s', CC [] H st (fun _ _ _ => False) e s' → False) :
    codeAny (model P w) callerA (.call (.ref fa) ⟨[.ref a], []⟩) (fun r s' => r = .ok (.ret (.bool true)) ∧ OldK st.heap s'.heap ∧ s'.os = st.os ∧ AllBare s'.gens) st := by
  have rv := vals_ints inz
  have hlen := inz.length
  let H := trk0 K a vs ns
  have hS : SqL K H a (ns.map V.int) := by
    cases e : K.lookup a with
    | none => exact .inl (.inr ⟨scr vs, if_pos ⟨rfl, e⟩⟩)
    | some o =>
      have e2 := inK a o e
      rw [at_] at e2
      cases e2
      exact .inr ⟨_, vs.toArray, _, e, rfl, rfl, rfl, by rw [List.size_toArray, hlen]; exact few, by simpa using rv⟩
  have hOk : HOk P w H st.heap := fun b u z => by
    obtain ⟨rfl, _, rfl⟩ := trk0_at z
    exact ⟨at_, by rw [List.length_map]; exact few, vs, _, rv, at_⟩
  have keepB : ∀ {b : Addr} {o : Obj}, st.heap.get? b = some o → H b = none → (hidT st.heap H).get? b = some o := fun e n => hidT_get e n
  have dicts : ∀ {b : Addr} {m : Str → Option Value}, st.heap.Ns b m → (hidT st.heap H).Ns b m := by
    rintro b m ⟨o, es, ep, e, d, r⟩
    refine ⟨o, es, ep, keepB e ?_, d, r⟩
    cases q : H b with
    | none => rfl
    | some u =>
      obtain ⟨rfl, _, _⟩ := trk0_at q
      rw [at_] at e
      cases e
      cases d
  have inB : K.In (hidT st.heap H) := fun b o e => keepB (inK b o e) (by
    cases q : H b with
    | none => rfl
    | some u =>
      obtain ⟨rfl, z, _⟩ := trk0_at q
      rw [z] at e
      cases e)
  obtain ⟨mc, c1, c2⟩ := noL
  have md : Mod K mg (hidT st.heap H) := ⟨inB, dicts gl, ⟨mb, dicts bn, boot⟩, mc, dicts c1, c2⟩
  have e0 : Env0 P w K mg (hidT st.heap H) callerA [] st H := {
    frames := rfl, mod := md, bs := fun b o e => of_hidT e, bsz := Nat.le_of_eq (hidT_size _ _), funs := trivial
    frf := fun b hb => (List.not_mem_nil hb).elim, hok := hOk, bare := .of_eq noG }
  refine codeAny_mono ((F _ inB (dicts gl)).go callerA [] st H ⟨[.ref a], []⟩ [.ref a] [.ref a] _ _ rfl room e0 (bind st (.ref a)) (.cons rfl .nil) (told H hS)) ?_
  rintro (er | (_ | _ | _ | u)) s2 h2
  · exact (calm H er s2 h2).elim
  · exact h2.elim
  · exact h2.elim
  · exact h2.elim
  · obtain ⟨v, G, ho, hb, un, ok2, r, rfl⟩ := h2
    cases (r : u = Value.bool true)
    refine ⟨rfl, OldK.of_keep fun b o e => ?_, ho, hb⟩
    cases q : H b with
    | none => exact un.keep b o e q (fun z => List.not_mem_nil z) (by simp)
    | some t =>
      obtain ⟨rfl, _, rfl⟩ := trk0_at q
      have z2 := un.frzs b (scr vs) _ q
      obtain ⟨k1, _⟩ := ok2 b _ z2
      rw [at_] at e
      cases e
      exact k1
/-- the goal that k_head leaves, from a law's promise where nothing is being shown -/
theorem walk_free {l : PySem.W.OpenLaw} {n k : Nat} {q : Program} {loose : List Str} {XP : (Str → Option Value) → Heap → Prop} {YP : World → Heap → Prop} {d : DefRec} {K : Params → PySem.W.Frag} {CC : World → CXT} {sp : World → Sp} {x : Str}
    (most : l.most = some n) (few : n ≤ sizeLine) (nodef : d.params.defaults = []) (room : Room k callerA) (inK : ∀ (w : World) (h : Heap), YP w h → (K w.params).In h)
    (F : ∀ (w : World) (mg : Str → Option Value) (fa : Addr) (h : Heap), (K w.params).In h → h.Ns mainGlobals mg → mg d.name = some (.ref fa) →
      ∃ fd : FuncData, (∀ (s : Shared) (u : Value), BindsTo s fd ⟨[u], []⟩ [(x, u)]) ∧ ∀ base : Heap, (K w.params).In base → base.Ns mainGlobals mg → FnG l.prog w (K w.params) mg base (CC w) k fa fd [x] (sp w))
    (told : ∀ (w : World) (H : Hp) (a : Addr) (ns : List Int), ns.length ≤ n → SqL (K w.params) H a (ns.map V.int) → sp w [.ref a] H (fun v _ => v = .bl true) fun _ _ _ => False)
    (calm : ∀ (w : World) (H : Hp) (s : Shared) (e : Value) (s' : Shared), CC w [] H s (fun _ _ _ => False) e s' → False) : PySem.W.WalkO q loose XP YP l.row.toRowW d [] (fun f vs => PySem.call f vs) := by
  apply Att.attach_call most nodef
  intro w s0 s1 mg mb fa o pm cd doc a vs ns G Y ho hd hcd hmg hob hin hle hgn
  obtain ⟨fd, hbi, hF⟩ := F w mg fa s1.heap (inK w _ Y) G.T.g hmg
  exact law_free (inK w _ Y) G.T.g G.T.b G.T.builtins G.T.nolimit hgn hob hin (Nat.le_trans hle few) room hF hbi (fun H hS => told w H a ns hle hS) fun H e s2 => calm w H s1 e s2
end RG

set_option Elab.async false
set_option linter.all false
set_option maxRecDepth 100000
set_option maxHeartbeats 1000000
namespace Hm
open PySem PySem.Spec PyProof.Rows L2 HT
open PySem.AutoSeq1 (wpAny_loadPart')
/-! list + list where the left one may be the script itself -/
theorem list_add_any (l b : Addr) (xs ys : Array Value) (n m : Nat) (sl : Array (Option Value)) (hz : xs.size + ys.size ≤ sizeLine) :
    Meets (Builtin.«list.__add__» ⟨[.ref l, .ref b], []⟩) fun _ R s =>
      s.heap.get? l = some { cls := .type "list", dict := none, data := .seq xs n, slots := sl } ∧
      s.heap.get? b = some { cls := .type "list", data := .seq ys m } ∧
      R (.ok (.ret (.ref s.heap.objs.size))) { s with heap := s.heap.push { cls := .type "list", data := .seq (xs ++ ys) } } := by
  refine .of_wp fun pr wo ar re st hh => ?_
  obtain ⟨heap, gens, drawn, toks, os⟩ := st
  obtain ⟨e1, e2, k⟩ := hh
  have q1 := AutoSeq1.idx_int
  have q2 := AutoSeq1.sub_tuple_tuple
  have q3 := AutoSeq1.sub_list_list
  have q4 := AutoSeq1.sub_tuple_list
  have q5 := AutoSeq1.sub_list_tuple
  wp_walk using wpAny_loadPart' e1, wpAny_loadPart' e2
  exact ⟨_, rfl, k⟩
def rCatL (K : PySem.W.Frag) : R2 := fun x y H Q => ∃ l b xs zs, x = .ref l ∧ y = .ref b ∧ SqL K H l xs ∧ H b = some (.lst zs) ∧ xs.length + zs.length ≤ sizeLine ∧ ∀ p, H p = none → Q (.ref p) (upd H p (.lst (xs ++ zs)))
theorem op_catL {X : Cx} : OpR X (binaryOp .Add) (rCatL X.K) := by
  intro pins s σ H x y v u Q I rx ry h
  obtain ⟨l, b, xs, zs, rfl, rfl, hH, hB, hz, q⟩ := h
  cases rx
  cases ry
  obtain ⟨its, r, ⟨o, n, e, h1, h2, h3⟩, hz1⟩ := I.list hH
  obtain ⟨z2, its2, n2, r2, hl2, e2⟩ := I.lstM hB
  have hlen := r.length
  have eo : o = { cls := .type "list", dict := none, data := .seq its.toArray n, slots := o.slots } := by
    cases o
    simp only at h1 h2 h3
    subst h1
    subst h2
    subst h3
    rfl
  rw [eo] at e
  refine concat_meets ⟨_, e, rfl⟩ ⟨_, e2, rfl⟩ noFill_list_add seq_list_add F.slot_list_add F.entry_list_add (F.args_list_add_2 _ _) (list_add_any l b its.toArray its2.toArray n n2 _ (by rw [List.size_toArray, List.size_toArray]; omega)) ⟨e, e2, ?_⟩
  have ea : its.toArray ++ its2.toArray = (its ++ its2).toArray := by simp
  rw [ea]
  exact ⟨.ref _, _, I.lnew (t' := s.toks) (r.append r2) (by rw [List.length_append]; omega), rfl, q _ I.fresh⟩
end Hm

set_option Elab.async false
set_option linter.all false
set_option maxRecDepth 100000
set_option maxHeartbeats 4000000
namespace Hm
open PySem PySem.Spec PyProof.Rows L2 HT
/-! t[:0:-1] of a tuple -/
section
variable {prog : Program} {w : World} {A : Around} {E : Value → Shared → Prop} {s : Shared}
theorem sliceApplied_back0 {sl : Addr} {n : Nat} {ti tj : Tok} {Q : Int × Int × Nat → Shared → Prop} (h1 : 1 ≤ n) (hs : s.heap.IsSliceOf sl .none (.int 0 tj) (.int (-1) ti))
    (h : Q ((n : Int) - 1, -1, n - 1) s) : wpAny (model prog w) A (Builtin.Slice.sliceApplied (.ref sl) (pure (n : Int))) Q E s := by
  obtain ⟨os, hos, hcs, hds⟩ := id hs
  unfold Builtin.Slice.sliceApplied Builtin.Slice.sliceFields
  refine wpAny_bind (wpAny_bind (wpAny_field hos hds (x := .none) rfl (wpAny_bind (wpAny_field hos hds (x := .int 0 tj) rfl (wpAny_bind (wpAny_field hos hds (x := .int (-1) ti) rfl (wpAny_pure ?_)))))))
  refine wpAny_bind (slicePart_ (.int (-1) ti) ?_)
  show wpAny _ _ (if ((-1 : Int) == 0) = true then _ else _) _ _ s
  rw [if_neg (by decide)]
  refine wpAny_bind (slicePart_ .none (wpAny_bind (slicePart_ (.int 0 tj) (wpAny_bind (wpAny_pure ?_)))))
  have e : Builtin.Slice.slicePlaces ((n : Int) - 1) 0 (-1) = n - 1 := by
    unfold Builtin.Slice.slicePlaces
    rw [if_neg (by decide)]
    by_cases hn : (n : Int) - 1 > 0
    · rw [if_pos hn]
      have : -(-1 : Int) = 1 := by decide
      rw [this, Int.ediv_one]
      omega
    · rw [if_neg hn]
      omega
  have ea : Builtin.Slice.sliceAdjust none (some 0) (-1) (n : Int) = ((n : Int) - 1, 0) := by
    unfold Builtin.Slice.sliceAdjust
    simp
    omega
  show wpAny _ _ (match Builtin.Slice.sliceAdjust none (some 0) (-1) (n : Int) with
    | (lo, hi) => pure (lo, (-1 : Int), Builtin.Slice.slicePlaces lo hi (-1))) _ _ s
  rw [ea]
  show wpAny _ _ (pure ((n : Int) - 1, (-1 : Int), Builtin.Slice.slicePlaces ((n : Int) - 1) 0 (-1))) _ _ s
  rw [e]
  exact wpAny_pure h
theorem pick_back0 (xs : List Value) : ((List.range (xs.toArray.size - 1)).filterMap fun (k : Nat) => xs.toArray[(((xs.toArray.size : Nat) : Int) - 1 + (k : Int) * -1).toNat]?).toArray = (xs.drop 1).reverse.toArray := by
  apply congrArg List.toArray
  have key : ∀ m : Nat, m ≤ xs.length → ((List.range m).filterMap fun (k : Nat) => xs[xs.length - 1 - k]?) = xs.reverse.take m := by
    intro m
    induction m with
    | zero => intro _; simp
    | succ m ih =>
      intro hm
      rw [List.range_succ, List.filterMap_append, ih (by omega), List.take_add_one]
      congr 1
      have hlt : xs.length - 1 - m < xs.length := by omega
      rw [List.getElem?_reverse (by omega)]
      simp [List.getElem?_eq_getElem hlt]
  have k2 := key (xs.length - 1) (by omega)
  have e2 : xs.reverse.take (xs.length - 1) = (xs.drop 1).reverse := by rw [List.take_reverse]; by_cases h : xs.length = 0
                                                                        · have := List.length_eq_zero_iff.mp h; subst this; rfl
                                                                        · rw [show xs.length - (xs.length - 1) = 1 by omega]
  rw [← e2, ← k2, List.size_toArray]
  refine fm_congr _ fun k hk => ?_
  have hk' : k < xs.length - 1 := List.mem_range.mp hk
  have e : (((xs.length : Nat) : Int) - 1 + (k : Int) * -1).toNat = xs.length - 1 - k := by omega
  rw [e]
  simp
theorem getItem_tuple_back0 {t sl : Addr} {items : List Value} {ti tj : Tok} {Q : Value → Shared → Prop} (h1 : 1 ≤ items.length) (ht : IsTup s.heap t items.toArray) (hs : s.heap.IsSliceOf sl .none (.int 0 tj) (.int (-1) ti))
    (h : Q (.ref s.heap.objs.size) { s with heap := s.heap.push { cls := .type "tuple", data := .seq (items.drop 1).reverse.toArray } })
    (hsz : items.length ≤ sizeLine) : wpAny (model prog w) A (getItem (.ref t) (.ref sl)) Q E s := by
  have htake : sizeOk (.seq (items.drop 1).reverse.toArray) := by
    show (items.drop 1).reverse.toArray.size ≤ sizeLine
    rw [List.size_toArray, List.length_reverse, List.length_drop]
    omega
  obtain ⟨os, hos, hcs, hds⟩ := id hs
  have hTs : s.TypeIs (.ref sl) "slice" := ⟨os, hos, hcs⟩
  unfold getItem
  try with_reducible refine wpAny_holding ?_
  first | refine wpAny_bind (wpAny_pure ?_) | skip
  refine wpAny_bind (wpAny_sequenceKey ht.typeIs (by decide) ?_)
  refine wpAny_bind (wpAny_callSpecial?_slot (name := Str.ofString "__getitem__") ht.typeIs PyProof.Rows.slot_tuple_getitem
    (wpAny_call_entry PyProof.Rows.slot_tuple_getitem ht.typeIs entry_tuple_getitem ?_ (args_tuple_getitem _ _)))
  show wpAny _ _ (Builtin.Tuple.tupleItemsOf (.ref t) >>= _) _ _ s
  refine wpAny_bind (tupleItemsOf_ ht ?_)
  refine wpAny_bind (wpAny_typeOf hTs ?_)
  rw [if_pos (by decide)]
  refine wpAny_bind (sliceApplied_back0 (by rw [List.size_toArray]; exact h1) hs ?_)
  have hno : ¬ ((((items.toArray.size : Nat) : Int) - 1 == 0 && (-1 : Int) == 1 && items.toArray.size - 1 == items.toArray.size) = true) := by
    intro q
    rw [Bool.and_eq_true, Bool.and_eq_true] at q
    exact absurd q.1.2 (by decide)
  show wpAny _ _ (if (((items.toArray.size : Nat) : Int) - 1 == 0 && (-1 : Int) == 1 && items.toArray.size - 1 == items.toArray.size) = true then _ else _) _ _ s
  rw [if_neg hno, pick_back0]
  first
    | exact wpAny_bind (m := Builtin.Tuple.tupleExact _) (wpAny_newObj_type (wpAny_pure ⟨_, rfl, wpAny_pure h⟩) htake)
    | exact wpAny_bind (m := Builtin.Tuple.tupleExact _) (wpAny_newObj_type (wpAny_bind (wpAny_pure (wpAny_pure ⟨_, rfl, wpAny_pure h⟩))) htake)
    | exact wpAny_bind (wpAny_bind (m := Builtin.Tuple.tupleExact _) (wpAny_newObj_type (wpAny_pure (wpAny_pure ⟨_, rfl, wpAny_pure h⟩)) htake))
    | exact wpAny_bind (wpAny_bind (m := Builtin.Tuple.tupleExact _) (wpAny_newObj_type (wpAny_pure ⟨_, rfl, wpAny_pure h⟩) htake))
end
/-- t[:0:-1] of a tuple: all but the first, the last one first -/
def tRevT0 (K : PySem.W.Frag) (te : TE) : TE := fun σ H Q => te σ H fun x H1 => ∃ a xs, x = .ref a ∧ SqT K H1 a xs ∧ 1 ≤ xs.length ∧ ∀ p, H1 p = none → Q (.ref p) (upd H1 p (.tup (xs.drop 1).reverse))
section
variable {X : Cx}
theorem pe_revT0 {e : Expr} {te : TE} {k : Nat} {p0 p1 p2 p3 pos : Pos} (he : PE X e te) : PE X (.Subscript e (.Slice none (some (.Constant (.int 0) k p0)) (some (.UnaryOp .USub (.Constant (.int 1) k p1) p2)) p3) pos) (tRevT0 X.K te) := by
  refine ⟨fun pins s σ H Q I h => ?_⟩
  refine Subscript_ (thn (he.run pins s σ H _ I h) fun v s1 ⟨x, H1, I1, r1, q1⟩ => ?_)
  obtain ⟨a, xs, ex, hx, h1, q⟩ := q1
  subst ex
  cases r1
  have hup : PO X (some (.Constant (.int 0) k p0)) (tPart (tC (.int 0))) := po_some pe_int
  have hst : PO X (some (.UnaryOp .USub (.Constant (.int 1) k p1) p2)) (tPart (tUn (rU fun i => .int (-i)) (tC (.int 1)))) := po_some (pe_un un_neg pe_int)
  refine wpAny_Slice (thn (po_none.run pins s1 σ H1 (fun o H2 => o = none ∧ H2 = H1) I1 ⟨rfl, rfl⟩) fun vl s2 ⟨l, H2, I2, pl, el, e2⟩ => ?_)
  subst el e2
  refine thn (hup.run pins s2 σ H2 (fun o H3 => o = some 0 ∧ H3 = H2) I2 ⟨0, rfl, rfl, rfl⟩) fun vu s3 ⟨u, H3, I3, pu, eu, e3⟩ => ?_
  subst eu e3
  refine thn (hst.run pins s3 σ H3 (fun o H4 => o = some (-1) ∧ H4 = H3) I3 ⟨1, rfl, -1, rfl, rfl, rfl⟩) fun vs s4 ⟨o, H4, I4, ps, eo, e4⟩ => ?_
  subst eo e4
  cases pl
  obtain ⟨tj, rfl⟩ : ∃ ti, vu = Value.int 0 ti := by
    cases pu
    exact ⟨_, rfl⟩
  obtain ⟨ti, rfl⟩ : ∃ ti, vs = Value.int (-1) ti := by
    cases ps
    exact ⟨_, rfl⟩
  have I5 : Inv X pins σ H4 { s4 with heap := s4.heap.push { cls := .type "slice", data := .fields #[Value.none, Value.int 0 tj, Value.int (-1) ti] } } := I4.kept (t' := s4.toks) fun b ob q => Heap.get?_push_of_some _ q
  obtain ⟨its, r, ht, hz⟩ := I5.tuple hx
  have hlen := r.length
  show wpAny (model X.prog X.w) X.A (subscriptTail e (.Slice none (some (.Constant (.int 0) k p0)) (some (.UnaryOp .USub (.Constant (.int 1) k p1) p2)) p3) (.ref a) (.ref s4.heap.objs.size)) (EP X pins σ Q) X.xe { s4 with heap := s4.heap.push { cls := .type "slice", data := .fields #[Value.none, Value.int 0 tj, Value.int (-1) ti] } }
  refine tail_any (ops := [.ref a, .ref s4.heap.objs.size]) ht.typeIs (PyProof.Rows.slot_tuple_getitem.lookup) ?_ (by with_unfolding_all rfl)
  refine getItem_tuple_back0 (by omega) ht (Heap.IsSliceOf.new _ Value.none (Value.int 0 tj) (Value.int (-1) ti)) ?_ (by rw [← hlen]; exact hz)
  refine ⟨.ref _, _, I5.laid (t' := s4.toks) (o := .tup (xs.drop 1).reverse) (fun b ob q => Heap.get?_push_of_some _ q) (Nat.le_refl _) ?_, rfl, q _ (I5.hok.fresh (Nat.le_refl _))⟩
  exact ⟨by rw [List.length_reverse, List.length_drop]; omega, _, (r.drop 1).reverse, IsTup.new _ _⟩
end
end Hm

set_option Elab.async false
set_option linter.all false
set_option maxRecDepth 100000
set_option maxHeartbeats 4000000
namespace Hm
open PySem PySem.Spec PyProof.Rows L2 HT
/-- a def of the text as it stands behind the top -/
structure Df (K : PySem.W.Frag) (mg : Str → Option Value) (x : Str) (st : Stmt) (ps : List Str) (ds : List Value) (f : Addr) (fd : FuncData) : Prop where
  F : Fun K x x st f fd
  b : Binds K fd ps ds
  m : mg x = some (.ref f)
theorem cl {X : Cx} {x : Str} {f : Addr} {fd : FuncData} {ps : List Str} {sp : Sp} {j k : Nat} {st : Stmt} {e : Expr} {es : List Expr} {t : TA} {p pos : Pos} (G : FnOk X.prog X.w X.K X.mg X.base CX0 k f fd ps sp) (D : Df X.K X.mg x st ps [] f fd) (hr : Room j X.A) (ha : PA X (e :: es) t)
    (hj : k ≤ j := by first | decide | omega) (hg : Gl X x := by rfl) (hd : (x == ("__debug__" : Str)) = false := by decide) (hs : starEach (e :: es) X.env = (false, eval e X.env) :: starEach es X.env := by rfl) (hst : (backTo pos (starEach es X.env)).any (·.1) = false := by rfl) : PE X (.Call (.Name x p) (e :: es) [] pos) (tCall sp [] E0 t) :=
  pe_call G (hr.mono hj) hg D.m D.F.kp D.b .nil pass0 ha (hdb := hd) (he := hs) (hpl := hst)
/-- a def with default values -/
structure DfD (K : PySem.W.Frag) (mg : Str → Option Value) (x : Str) (st : Stmt) (ps : List Str) (dvs : List V) (f : Addr) (fd : FuncData) : Prop where
  F : FunD K x x (defArgs st) (defBody st) (defScope st) dvs [] f fd
  m : mg x = some (.ref f)
  b : ∃ ds, Vals dvs ds ∧ Binds K fd ps ds
theorem cld {X : Cx} {x : Str} {f : Addr} {fd : FuncData} {ps : List Str} {sp : Sp} {j k : Nat} {st : Stmt} {dvs : List V} {e : Expr} {es : List Expr} {t : TA} {p pos : Pos} (G : FnOk X.prog X.w X.K X.mg X.base CX0 k f fd ps sp) (D : DfD X.K X.mg x st ps dvs f fd) (hr : Room j X.A) (ha : PA X (e :: es) t)
    (hj : k ≤ j := by first | decide | omega) (hg : Gl X x := by rfl) (hd : (x == ("__debug__" : Str)) = false := by decide) (hs : starEach (e :: es) X.env = (false, eval e X.env) :: starEach es X.env := by rfl) (hst : (backTo pos (starEach es X.env)).any (·.1) = false := by rfl) : PE X (.Call (.Name x p) (e :: es) [] pos) (tCall sp dvs E0 t) := by
  obtain ⟨ds, hv, hb⟩ := D.b
  exact pe_call G (hr.mono hj) hg D.m D.F.kp hb hv pass0 ha (hdb := hd) (he := hs) (hpl := hst)

def top (i : Nat) : Stmt := PySem.Challenge.pw_hornmill_k21_bodies_and_clauses.main.body.getD i (.Pass ⟨0, 0, 0, 0⟩)
abbrev s_is_integer : Stmt := top 9
theorem sc_is_integer : FnScope ["thing"] ["thing"] (defScope s_is_integer) := ⟨rfl, rfl, rfl, by decide +kernel, rfl, by decide +kernel, by decide +kernel⟩
abbrev s_is_sign : Stmt := top 10
theorem sc_is_sign : FnScope ["sign"] ["sign"] (defScope s_is_sign) := ⟨rfl, rfl, rfl, by decide +kernel, rfl, by decide +kernel, by decide +kernel⟩
abbrev s_is_atom : Stmt := top 11
theorem sc_is_atom : FnScope ["thing", "sign"] ["thing"] (defScope s_is_atom) := ⟨rfl, rfl, rfl, by decide +kernel, rfl, by decide +kernel, by decide +kernel⟩
abbrev s_is_number : Stmt := top 12
theorem sc_is_number : FnScope ["thing"] ["thing"] (defScope s_is_number) := ⟨rfl, rfl, rfl, by decide +kernel, rfl, by decide +kernel, by decide +kernel⟩
abbrev s_is_term : Stmt := top 13
theorem sc_is_term : FnScope ["thing", "waiting", "part"] ["thing"] (defScope s_is_term) := ⟨rfl, rfl, rfl, by decide +kernel, rfl, by decide +kernel, by decide +kernel⟩
abbrev s_is_part : Stmt := top 14
theorem sc_is_part : FnScope ["thing"] ["thing"] (defScope s_is_part) := ⟨rfl, rfl, rfl, by decide +kernel, rfl, by decide +kernel, by decide +kernel⟩
abbrev s_demand_term : Stmt := top 15
theorem sc_demand_term : FnScope ["term"] ["term"] (defScope s_demand_term) := ⟨rfl, rfl, rfl, by decide +kernel, rfl, by decide +kernel, by decide +kernel⟩
abbrev s_is_variable : Stmt := top 16
theorem sc_is_variable : FnScope ["part"] ["part"] (defScope s_is_variable) := ⟨rfl, rfl, rfl, by decide +kernel, rfl, by decide +kernel, by decide +kernel⟩
abbrev s_arguments_of : Stmt := top 17
theorem sc_arguments_of : FnScope ["part"] ["part"] (defScope s_arguments_of) := ⟨rfl, rfl, rfl, by decide +kernel, rfl, by decide +kernel, by decide +kernel⟩
abbrev s_parts_of : Stmt := top 18
theorem sc_parts_of : FnScope ["term", "found", "waiting", "part"] ["term"] (defScope s_parts_of) := ⟨rfl, rfl, rfl, by decide +kernel, rfl, by decide +kernel, by decide +kernel⟩
abbrev s_folded : Stmt := top 19
theorem sc_folded : FnScope ["row", "done", "what", "many", "inner"] ["row"] (defScope s_folded) := ⟨rfl, rfl, rfl, by decide +kernel, rfl, by decide +kernel, by decide +kernel⟩
abbrev s_replaced : Stmt := top 20
theorem sc_replaced : FnScope ["term", "table", "row", "part"] ["term", "table"] (defScope s_replaced) := ⟨rfl, rfl, rfl, by decide +kernel, rfl, by decide +kernel, by decide +kernel⟩
abbrev s_numbers_in : Stmt := top 21
theorem sc_numbers_in : FnScope ["term", "seen", "part"] ["term"] (defScope s_numbers_in) := ⟨rfl, rfl, rfl, by decide +kernel, rfl, by decide +kernel, by decide +kernel⟩
abbrev s_renumbered : Stmt := top 22
theorem sc_renumbered : FnScope ["term", "place", "k"] ["term"] (defScope s_renumbered) := ⟨rfl, rfl, rfl, by decide +kernel, rfl, by decide +kernel, by decide +kernel⟩
abbrev s_is_callable : Stmt := top 24
theorem sc_is_callable : FnScope ["term"] ["term"] (defScope s_is_callable) := ⟨rfl, rfl, rfl, by decide +kernel, rfl, by decide +kernel, by decide +kernel⟩
abbrev s_is_body : Stmt := top 27
theorem sc_is_body : FnScope ["term"] ["term"] (defScope s_is_body) := ⟨rfl, rfl, rfl, by decide +kernel, rfl, by decide +kernel, by decide +kernel⟩
abbrev s_is_clause : Stmt := top 28
theorem sc_is_clause : FnScope ["term", "head", "body"] ["term"] (defScope s_is_clause) := ⟨rfl, rfl, rfl, by decide +kernel, rfl, by decide +kernel, by decide +kernel⟩
abbrev s_stored : Stmt := top 29
theorem sc_stored : FnScope ["clause", "head", "body"] ["clause"] (defScope s_stored) := ⟨rfl, rfl, rfl, by decide +kernel, rfl, by decide +kernel, by decide +kernel⟩
abbrev s_sides_of : Stmt := top 30
theorem sc_sides_of : FnScope ["term"] ["term"] (defScope s_sides_of) := ⟨rfl, rfl, rfl, by decide +kernel, rfl, by decide +kernel, by decide +kernel⟩
abbrev s_key_of : Stmt := top 31
theorem sc_key_of : FnScope ["term"] ["term"] (defScope s_key_of) := ⟨rfl, rfl, rfl, by decide +kernel, rfl, by decide +kernel, by decide +kernel⟩
abbrev s_is_construct : Stmt := top 32
theorem sc_is_construct : FnScope ["goal"] ["goal"] (defScope s_is_construct) := ⟨rfl, rfl, rfl, by decide +kernel, rfl, by decide +kernel, by decide +kernel⟩
abbrev s_leaves_of : Stmt := top 33
theorem sc_leaves_of : FnScope ["goal", "found", "waiting", "one"] ["goal"] (defScope s_leaves_of) := ⟨rfl, rfl, rfl, by decide +kernel, rfl, by decide +kernel, by decide +kernel⟩
abbrev s_has_goals : Stmt := top 34
theorem sc_has_goals : FnScope ["term", "leaf"] ["term"] (defScope s_has_goals) := ⟨rfl, rfl, rfl, by decide +kernel, rfl, by decide +kernel, by decide +kernel⟩
abbrev s_with_calls : Stmt := top 35
theorem sc_with_calls : FnScope ["goal", "row", "waiting", "one"] ["goal"] (defScope s_with_calls) := ⟨rfl, rfl, rfl, by decide +kernel, rfl, by decide +kernel, by decide +kernel⟩
abbrev s_law_cell_at : Stmt := top 37
theorem sc_law_cell_at : FnScope ["_law_script", "_law_k"] ["_law_script", "_law_k"] (defScope s_law_cell_at) := ⟨rfl, rfl, rfl, by decide +kernel, rfl, by decide +kernel, by decide +kernel⟩
abbrev s_law_well : Stmt := top 38
theorem sc_law_well : FnScope ["_law_cell"] ["_law_cell"] (defScope s_law_well) := ⟨rfl, rfl, rfl, by decide +kernel, rfl, by decide +kernel, by decide +kernel⟩
abbrev s_law_draw : Stmt := top 39
theorem sc_law_draw : FnScope ["_law_well_here", "_law_many", "_law_found", "_law_salt", "_law_base", "_law_number"] ["_law_well_here", "_law_many"] (defScope s_law_draw) := ⟨rfl, rfl, rfl, by decide +kernel, rfl, by decide +kernel, by decide +kernel⟩
abbrev s_law_one : Stmt := top 40
theorem sc_law_one : FnScope ["_law_well_here", "_law_some"] ["_law_well_here", "_law_some"] (defScope s_law_one) := ⟨rfl, rfl, rfl, by decide +kernel, rfl, by decide +kernel, by decide +kernel⟩
abbrev s_law_numbers : Stmt := top 41
theorem sc_law_numbers : FnScope ["_law_terms", "_law_found", "_law_term"] ["_law_terms", "_law_found"] (defScope s_law_numbers) := ⟨rfl, rfl, rfl, by decide +kernel, rfl, by decide +kernel, by decide +kernel⟩
abbrev s_law_put : Stmt := top 42
theorem sc_law_put : FnScope ["_law_term", "_law_table", "_law_one_here"] ["_law_term", "_law_table"] (defScope s_law_put) := ⟨rfl, rfl, rfl, by decide +kernel, rfl, by decide +kernel, by decide +kernel⟩
abbrev s_law_anew : Stmt := top 43
theorem sc_law_anew : FnScope ["_law_terms", "_law_table", "_law_at", "_law_number", "_law_term"] ["_law_terms"] (defScope s_law_anew) := ⟨rfl, rfl, rfl, by decide +kernel, rfl, by decide +kernel, by decide +kernel⟩
abbrev s_law_is_construct : Stmt := top 44
theorem sc_law_is_construct : FnScope ["_law_term", "_law_many"] ["_law_term"] (defScope s_law_is_construct) := ⟨rfl, rfl, rfl, by decide +kernel, rfl, by decide +kernel, by decide +kernel⟩
abbrev s_law_is_body : Stmt := top 45
theorem sc_law_is_body : FnScope ["_law_term", "_law_one_here"] ["_law_term"] (defScope s_law_is_body) := ⟨rfl, rfl, rfl, by decide +kernel, rfl, by decide +kernel, by decide +kernel⟩
abbrev s_law_is_goal : Stmt := top 46
theorem sc_law_is_goal : FnScope ["_law_term"] ["_law_term"] (defScope s_law_is_goal) := ⟨rfl, rfl, rfl, by decide +kernel, rfl, by decide +kernel, by decide +kernel⟩
abbrev s_law_with_calls : Stmt := top 47
theorem sc_law_with_calls : FnScope ["_law_term", "_law_one_here"] ["_law_term"] (defScope s_law_with_calls) := ⟨rfl, rfl, rfl, by decide +kernel, rfl, by decide +kernel, by decide +kernel⟩
abbrev s_law_atom : Stmt := top 48
theorem sc_law_atom : FnScope ["_law_well_here"] ["_law_well_here"] (defScope s_law_atom) := ⟨rfl, rfl, rfl, by decide +kernel, rfl, by decide +kernel, by decide +kernel⟩
abbrev s_law_part : Stmt := top 49
theorem sc_law_part : FnScope ["_law_well_here", "_law_deep", "_law_way", "_law_name", "_law_many", "_law_k"] ["_law_well_here", "_law_deep"] (defScope s_law_part) := ⟨rfl, rfl, rfl, by decide +kernel, rfl, by decide +kernel, by decide +kernel⟩
abbrev s_law_due : Stmt := top 50
theorem sc_law_due : FnScope ["_law_term", "_law_head", "_law_body"] ["_law_term"] (defScope s_law_due) := ⟨rfl, rfl, rfl, by decide +kernel, rfl, by decide +kernel, by decide +kernel⟩
abbrev s_law_said : Stmt := top 51
theorem sc_law_said : FnScope ["_law_term", "_law_found", "e"] ["_law_term"] (defScope s_law_said) := ⟨rfl, rfl, rfl, by decide +kernel, rfl, by decide +kernel, by decide +kernel⟩
abbrev s_law_right : Stmt := top 52
theorem sc_law_right : FnScope ["_law_term", "_law_due_here"] ["_law_term"] (defScope s_law_right) := ⟨rfl, rfl, rfl, by decide +kernel, rfl, by decide +kernel, by decide +kernel⟩
abbrev s_law : Stmt := top 53
theorem sc_law : FnScope ["_law_script", "_law_cell", "_law_well_here", "_law_turn", "_law_one_here", "_law_other", "_law_term", "_law_odd"] ["_law_script"] (defScope s_law) := ⟨rfl, rfl, rfl, by decide +kernel, rfl, by decide +kernel, by decide +kernel⟩
abbrev s_BadTerm_init : Stmt := inClass (top 2) 0
theorem sc_BadTerm_init : FnScope ["self", "term"] ["self", "term"] (defScope s_BadTerm_init) := ⟨rfl, rfl, rfl, by decide +kernel, rfl, by decide +kernel, by decide +kernel⟩
abbrev s_NoClause_init : Stmt := inClass (top 3) 0
theorem sc_NoClause_init : FnScope ["self", "why"] ["self", "why"] (defScope s_NoClause_init) := ⟨rfl, rfl, rfl, by decide +kernel, rfl, by decide +kernel, by decide +kernel⟩
structure Tx (K : PySem.W.Frag) (mg : Str → Option Value) where
  f_is_integer : Addr
  d_is_integer : FuncData
  h_is_integer : Df K mg "is_integer" s_is_integer ["thing"] [] f_is_integer d_is_integer
  f_is_sign : Addr
  d_is_sign : FuncData
  h_is_sign : Df K mg "is_sign" s_is_sign ["sign"] [] f_is_sign d_is_sign
  f_is_atom : Addr
  d_is_atom : FuncData
  h_is_atom : Df K mg "is_atom" s_is_atom ["thing"] [] f_is_atom d_is_atom
  f_is_number : Addr
  d_is_number : FuncData
  h_is_number : Df K mg "is_number" s_is_number ["thing"] [] f_is_number d_is_number
  f_is_term : Addr
  d_is_term : FuncData
  h_is_term : Df K mg "is_term" s_is_term ["thing"] [] f_is_term d_is_term
  f_is_part : Addr
  d_is_part : FuncData
  h_is_part : Df K mg "_is_part" s_is_part ["thing"] [] f_is_part d_is_part
  f_demand_term : Addr
  d_demand_term : FuncData
  h_demand_term : Df K mg "demand_term" s_demand_term ["term"] [] f_demand_term d_demand_term
  f_is_variable : Addr
  d_is_variable : FuncData
  h_is_variable : Df K mg "is_variable" s_is_variable ["part"] [] f_is_variable d_is_variable
  f_arguments_of : Addr
  d_arguments_of : FuncData
  h_arguments_of : Df K mg "arguments_of" s_arguments_of ["part"] [] f_arguments_of d_arguments_of
  f_parts_of : Addr
  d_parts_of : FuncData
  h_parts_of : Df K mg "parts_of" s_parts_of ["term"] [] f_parts_of d_parts_of
  f_folded : Addr
  d_folded : FuncData
  h_folded : Df K mg "folded" s_folded ["row"] [] f_folded d_folded
  f_replaced : Addr
  d_replaced : FuncData
  h_replaced : Df K mg "replaced" s_replaced ["term", "table"] [] f_replaced d_replaced
  f_numbers_in : Addr
  d_numbers_in : FuncData
  h_numbers_in : Df K mg "numbers_in" s_numbers_in ["term"] [] f_numbers_in d_numbers_in
  f_renumbered : Addr
  d_renumbered : FuncData
  h_renumbered : Df K mg "renumbered" s_renumbered ["term"] [] f_renumbered d_renumbered
  f_is_callable : Addr
  d_is_callable : FuncData
  h_is_callable : Df K mg "is_callable" s_is_callable ["term"] [] f_is_callable d_is_callable
  f_is_body : Addr
  d_is_body : FuncData
  h_is_body : Df K mg "is_body" s_is_body ["term"] [] f_is_body d_is_body
  f_is_clause : Addr
  d_is_clause : FuncData
  h_is_clause : Df K mg "is_clause" s_is_clause ["term"] [] f_is_clause d_is_clause
  f_stored : Addr
  d_stored : FuncData
  h_stored : Df K mg "stored" s_stored ["clause"] [] f_stored d_stored
  f_sides_of : Addr
  d_sides_of : FuncData
  h_sides_of : Df K mg "sides_of" s_sides_of ["term"] [] f_sides_of d_sides_of
  f_key_of : Addr
  d_key_of : FuncData
  h_key_of : Df K mg "key_of" s_key_of ["term"] [] f_key_of d_key_of
  f_is_construct : Addr
  d_is_construct : FuncData
  h_is_construct : Df K mg "is_construct" s_is_construct ["goal"] [] f_is_construct d_is_construct
  f_leaves_of : Addr
  d_leaves_of : FuncData
  h_leaves_of : Df K mg "leaves_of" s_leaves_of ["goal"] [] f_leaves_of d_leaves_of
  f_has_goals : Addr
  d_has_goals : FuncData
  h_has_goals : Df K mg "has_goals" s_has_goals ["term"] [] f_has_goals d_has_goals
  f_with_calls : Addr
  d_with_calls : FuncData
  h_with_calls : Df K mg "with_calls" s_with_calls ["goal"] [] f_with_calls d_with_calls
  f_law_cell_at : Addr
  d_law_cell_at : FuncData
  h_law_cell_at : Df K mg "_law_cell_at" s_law_cell_at ["_law_script", "_law_k"] [] f_law_cell_at d_law_cell_at
  f_law_well : Addr
  d_law_well : FuncData
  h_law_well : Df K mg "_law_well" s_law_well ["_law_cell"] [] f_law_well d_law_well
  f_law_draw : Addr
  d_law_draw : FuncData
  h_law_draw : Df K mg "_law_draw" s_law_draw ["_law_well_here", "_law_many"] [] f_law_draw d_law_draw
  f_law_one : Addr
  d_law_one : FuncData
  h_law_one : Df K mg "_law_one" s_law_one ["_law_well_here", "_law_some"] [] f_law_one d_law_one
  f_law_numbers : Addr
  d_law_numbers : FuncData
  h_law_numbers : Df K mg "_law_numbers" s_law_numbers ["_law_terms", "_law_found"] [] f_law_numbers d_law_numbers
  f_law_put : Addr
  d_law_put : FuncData
  h_law_put : Df K mg "_law_put" s_law_put ["_law_term", "_law_table"] [] f_law_put d_law_put
  f_law_anew : Addr
  d_law_anew : FuncData
  h_law_anew : Df K mg "_law_anew" s_law_anew ["_law_terms"] [] f_law_anew d_law_anew
  f_law_is_construct : Addr
  d_law_is_construct : FuncData
  h_law_is_construct : Df K mg "_law_is_construct" s_law_is_construct ["_law_term"] [] f_law_is_construct d_law_is_construct
  f_law_is_body : Addr
  d_law_is_body : FuncData
  h_law_is_body : Df K mg "_law_is_body" s_law_is_body ["_law_term"] [] f_law_is_body d_law_is_body
  f_law_is_goal : Addr
  d_law_is_goal : FuncData
  h_law_is_goal : Df K mg "_law_is_goal" s_law_is_goal ["_law_term"] [] f_law_is_goal d_law_is_goal
  f_law_with_calls : Addr
  d_law_with_calls : FuncData
  h_law_with_calls : Df K mg "_law_with_calls" s_law_with_calls ["_law_term"] [] f_law_with_calls d_law_with_calls
  f_law_atom : Addr
  d_law_atom : FuncData
  h_law_atom : Df K mg "_law_atom" s_law_atom ["_law_well_here"] [] f_law_atom d_law_atom
  f_law_part : Addr
  d_law_part : FuncData
  h_law_part : Df K mg "_law_part" s_law_part ["_law_well_here", "_law_deep"] [] f_law_part d_law_part
  f_law_due : Addr
  d_law_due : FuncData
  h_law_due : Df K mg "_law_due" s_law_due ["_law_term"] [] f_law_due d_law_due
  f_law_said : Addr
  d_law_said : FuncData
  h_law_said : Df K mg "_law_said" s_law_said ["_law_term"] [] f_law_said d_law_said
  f_law_right : Addr
  d_law_right : FuncData
  h_law_right : Df K mg "_law_right" s_law_right ["_law_term"] [] f_law_right d_law_right
  f_law : Addr
  d_law : FuncData
  h_law : Df K mg "law" s_law ["_law_script"] [] f_law d_law
  c_MOST_SIGNS : ∃ t, mg "MOST_SIGNS" = some (.int 40 t)
  c_MOST_ARGUMENTS : ∃ t, mg "MOST_ARGUMENTS" = some (.int 8 t)
  c_BARRED_SIGN : ∃ t, mg "BARRED_SIGN" = some (.int 37 t)
  c_TOO_GREAT : ∃ t, mg "TOO_GREAT" = some (.int tooGreat t)
  b_all : mg "all" = none
  b_any : mg "any" = none
  b_bool : mg "bool" = none
  b_enumerate : mg "enumerate" = none
  b_int : mg "int" = none
  b_isinstance : mg "isinstance" = none
  b_len : mg "len" = none
  b_list : mg "list" = none
  b_ord : mg "ord" = none
  b_range : mg "range" = none
  b_repr : mg "repr" = none
  b_reversed : mg "reversed" = none
  b_str : mg "str" = none
  b_tuple : mg "tuple" = none
  a_Horn : Addr
  e_Horn : RG.BaseE K mg "HornError" a_Horn
  a_Bad : Addr
  i_Bad : Addr
  d_Bad : FuncData
  e_Bad : RG.ErrE K mg "BadTerm" "term" a_Bad i_Bad
  F_Bad : Fun K "__init__" "BadTerm.__init__" s_BadTerm_init i_Bad d_Bad
  b_Bad : Binds K d_Bad ["self", "term"] []
  x_Bad : RG.IsE K a_Bad
  y_Bad : PySem.W.kitOne K (.ref a_Bad) (.ref a_Horn) = some true
  a_Noc : Addr
  i_Noc : Addr
  d_Noc : FuncData
  e_Noc : RG.ErrE K mg "NoClause" "why" a_Noc i_Noc
  F_Noc : Fun K "__init__" "NoClause.__init__" s_NoClause_init i_Noc d_Noc
  b_Noc : Binds K d_Noc ["self", "why"] []
  x_Noc : RG.IsE K a_Noc
  y_Noc : PySem.W.kitOne K (.ref a_Noc) (.ref a_Horn) = some true
  a_Cons : Addr
  m_Cons : mg "CONSTRUCTS" = some (.ref a_Cons)
end Hm

set_option Elab.async false
set_option linter.all false
set_option maxRecDepth 100000
set_option maxHeartbeats 4000000
namespace Hm
open PySem PySem.Spec PyProof.Rows L2 HT
open Evl (Ex)
section
variable {P : Program} {w : World} {K : PySem.W.Frag} {mg : Str → Option Value} {base : Heap}
theorem tk_succ {α β : Type} {l : List α} {i : Nat} {x : α} (f : α → β) (h : l[i]? = some x) : (l.take (i + 1)).map f = (l.take i).map f ++ [f x] := by
  rw [List.take_add_one, h]
  simp
theorem yesI {σ : L2.St} {H : Hp} {A B : Hp → Prop} (h : A H) : tYes σ H (fun b H3 => if b = true then A H3 else B H3) := by
  show (if true = true then A H else B H)
  exact iteT h
theorem small5 {n : Nat} (h : n ≤ 100000) : n ≤ sizeLine := Nat.le_trans h (by decide)
theorem small5' {n : Nat} (h : n ≤ 100000) : n < sizeLine := Nat.lt_of_le_of_lt h (by decide)
theorem tyx_tup {H : Hp} {a : Addr} {xs : List V} (h : SqT K H a xs) : TyX K H (.ref a) (.type "tuple") := by
  rcases h with (h | ⟨o, h⟩) | ⟨o, its, n, h1, h2, _⟩
  · exact .base (.tup h)
  · exact .fTuple h
  · exact .kTuple h1 h2
theorem cut1 (x : V) (vs : List V) : cutV (x :: vs) (some 1) none = vs := by
  unfold cutV
  have e : sIx (x :: vs).length 0 (some 1) = 1 := by
    show (if (1 : Int) < 0 then ((1 : Int) + ((x :: vs).length : Int)).toNat else min (1 : Int).toNat (x :: vs).length) = 1
    rw [if_neg (by decide), List.length_cons]
    show min 1 (vs.length + 1) = 1
    omega
  rw [e, sIx_none]
  show (vs.take ((x :: vs).length - 1)) = vs
  rw [List.length_cons]
  exact List.take_of_length_le (by omega)
theorem cut1_ne (x : V) (vs : List V) : ¬ (sIx (x :: vs).length 0 (some 1) = 0 ∧ sIx (x :: vs).length (x :: vs).length none = (x :: vs).length) := by
  intro h
  have e : sIx (x :: vs).length 0 (some 1) = 1 := by
    show (if (1 : Int) < 0 then ((1 : Int) + ((x :: vs).length : Int)).toNat else min (1 : Int).toNat (x :: vs).length) = 1
    rw [if_neg (by decide), List.length_cons]
    show min 1 (vs.length + 1) = 1
    omega
  rw [e] at h
  exact absurd h.1 (by decide)

/-! ### is_integer -/
def spInt (K : PySem.W.Frag) : Sp := fun vs H Q _ => ∃ v d, vs = [v] ∧ OdAt K H v d ∧ Q (.bl (intD d)) H
theorem ok_is_integer (T : Tx K mg) : FnOk P w K mg base CX0 1 T.f_is_integer T.d_is_integer ["thing"] (spInt K) := by
  refine T.h_is_integer.F.ok sc_is_integer (fun vs H Q E h => ?_) (fun cdv A outer s H vs Q E hr h => ?_)
  · obtain ⟨v, d, rfl, _⟩ := h
    rfl
  obtain ⟨v, d, rfl, hv, q⟩ := h
  have ty := ty_od hv
  refine ⟨_, (pss_one (ps_ret (pe_and (pe_callB call_isi rfl T.b_isinstance (by decide +kernel) (pa_cons (pv 0) (pa_cons (pe_bltn (v := .ty "int") (u := .type "int") rfl T.b_int (by decide +kernel) rfl) pa_nil))) (pe_one (pe_not (pe_callB call_isi rfl T.b_isinstance (by decide +kernel) (pa_cons (pv 0) (pa_cons (pe_bltn (v := .ty "bool") (u := .type "bool") rfl T.b_bool (by decide +kernel) rfl) pa_nil)))))))), ?_⟩
  cases hv with
  | int i => exact ⟨_, rfl, _, _, _, _, true, rfl, .ty "int", ty, kit_ty (a := "int") (by decide +kernel), true, rfl, iteT ⟨_, rfl, _, _, _, _, false, rfl, .ty "bool", ty, kit_ty (a := "int") (by decide +kernel), false, rfl, q⟩⟩
  | bl i => exact ⟨_, rfl, _, _, _, _, true, rfl, .ty "int", ty, kit_ty (a := "bool") (by decide +kernel), true, rfl, iteT ⟨_, rfl, _, _, _, _, true, rfl, .ty "bool", ty, kit_ty (a := "bool") (by decide +kernel), true, rfl, q⟩⟩
  | non => exact ⟨_, rfl, _, _, _, _, false, rfl, .ty "int", ty, kit_ty (a := "NoneType") (by decide +kernel), false, rfl, iteF q⟩
  | str s => exact ⟨_, rfl, _, _, _, _, false, rfl, .ty "int", ty, kit_ty (a := "str") (by decide +kernel), false, rfl, iteF q⟩
  | lst h => exact ⟨_, rfl, _, _, _, _, false, rfl, .ty "int", ty, kit_ty (a := "list") (by decide +kernel), false, rfl, iteF q⟩
  | dic h => exact ⟨_, rfl, _, _, _, _, false, rfl, .ty "int", ty, kit_ty (a := "dict") (by decide +kernel), false, rfl, iteF q⟩
  | tup h r => exact ⟨_, rfl, _, _, _, _, false, rfl, .ty "int", ty, kit_ty (a := "tuple") (by decide +kernel), false, rfl, iteF q⟩

/-! ### is_sign, of one sign -/
def spSign : Sp := fun vs H Q _ => ∃ c : Nat, vs = [.str ⟨#[c]⟩] ∧ Q (.bl (signOk c)) H
theorem one_lt {a b : Nat} : (([a] : List Nat) < [b]) ↔ a < b := by
  constructor
  · intro h
    cases h with
    | rel h => exact h
    | cons h => cases h
  · intro h
    exact List.Lex.rel h
theorem ok_is_sign (T : Tx K mg) : FnOk P w K mg base CX0 1 T.f_is_sign T.d_is_sign ["sign"] spSign := by
  refine T.h_is_sign.F.ok sc_is_sign (fun vs H Q E h => ?_) (fun cdv A outer s H vs Q E hr h => ?_)
  · obtain ⟨c, rfl, _⟩ := h
    rfl
  obtain ⟨c, rfl, q⟩ := h
  obtain ⟨tk, hc_BARRED_SIGN⟩ := T.c_BARRED_SIGN
  refine ⟨_, (pss_one (ps_ret (pe_and (pe_chain op_le_str op_le_str pe_str (pv 0) pe_str) (pe_one (pe_cmpR op_ne (pe_callB call_ord rfl T.b_ord (by decide +kernel) (pa_cons (pv 0) pa_nil)) (pe_glob (v := .int 37) rfl hc_BARRED_SIGN ⟨_, rfl⟩) (nomark _)))))), ?_⟩
  refine ⟨_, rfl, _, _, rfl, rfl, _, rfl, ?_⟩
  have e1 : (!decide ((⟨#[c]⟩ : Str).cps.toList < (" " : Str).cps.toList)) = decide (32 ≤ c) := by
    show (!decide (([c] : List Nat) < [32])) = _
    by_cases h : c < 32
    · rw [decide_eq_true (one_lt.mpr h), decide_eq_false (by omega)]
      rfl
    · rw [decide_eq_false (fun z => h (one_lt.mp z)), decide_eq_true (by omega)]
      rfl
  have e2 : (!decide (("~" : Str).cps.toList < (⟨#[c]⟩ : Str).cps.toList)) = decide (c ≤ 126) := by
    show (!decide (([126] : List Nat) < [c])) = _
    by_cases h : 126 < c
    · rw [decide_eq_true (one_lt.mpr h), decide_eq_false (by omega)]
      rfl
    · rw [decide_eq_false (fun z => h (one_lt.mp z)), decide_eq_true (by omega)]
      rfl
  rw [e1]
  by_cases h1 : 32 ≤ c
  · rw [decide_eq_true h1]
    refine iteT ⟨_, _, rfl, rfl, _, rfl, ?_⟩
    rw [e2]
    by_cases h2 : c ≤ 126
    · rw [decide_eq_true h2]
      refine iteT ⟨_, rfl, _, rfl, rfl, rfl, ?_⟩
      have e3 : (!decide (V.int (((#[c] : Array Nat).getD 0 0 : Nat) : Int) = V.int 37)) = signOk c := by
        show (!decide (V.int (c : Int) = V.int 37)) = _
        unfold signOk
        by_cases h3 : c = 37
        · subst h3
          decide
        · rw [decide_eq_false (by intro z; injection z with z; omega), decide_eq_true ⟨h1, h2, h3⟩]
          rfl
      exact e3 ▸ q
    · rw [decide_eq_false h2]
      refine iteF ?_
      have : signOk c = false := decide_eq_false (fun z => h2 z.2.1)
      exact this ▸ q
  · rw [decide_eq_false h1]
    refine iteF ⟨_, rfl, iteF ?_⟩
    have : signOk c = false := decide_eq_false (fun z => h1 z.1)
    exact this ▸ q

/-! ### is_atom -/
def spAtom (K : PySem.W.Frag) : Sp := fun vs H Q _ => ∃ v d, vs = [v] ∧ OdAt K H v d ∧ sizeD d ≤ 60000 ∧ ∀ H', Ex H H' → Q (.bl (atomD d)) H'
theorem ok_is_atom (T : Tx K mg) : FnOk P w K mg base CX0 2 T.f_is_atom T.d_is_atom ["thing"] (spAtom K) := by
  refine T.h_is_atom.F.ok sc_is_atom (fun vs H Q E h => ?_) (fun cdv A outer s H vs Q E hr h => ?_)
  · obtain ⟨x, d, rfl, _⟩ := h
    rfl
  obtain ⟨x, d, rfl, hv, hz, q⟩ := h
  obtain ⟨tk, hc_MOST_SIGNS⟩ := T.c_MOST_SIGNS
  have ty := ty_od hv
  refine ⟨_, (pss_one (ps_ret (pe_and (pe_callB call_isi rfl T.b_isinstance (by decide +kernel) (pa_cons (pv 0) (pa_cons (pe_bltn (v := .ty "str") (u := .type "str") rfl T.b_str (by decide +kernel) rfl) pa_nil))) (pe_and (pe_cmpR op_le (pe_callB call_len_str rfl T.b_len (by decide +kernel) (pa_cons (pv 0) pa_nil)) (pe_glob (v := .int 40) rfl hc_MOST_SIGNS ⟨_, rfl⟩) (nomark _)) (pe_one (pe_callB (cr_all rfl) rfl T.b_all (by decide +kernel) (pa_cons (pe_lc (own := [("sign", 1)]) (g := gName 1) rfl sc_is_atom.nd (pi_str (pv 0)) (blkOk_by (own := [("sign", 1)]) (N := ["thing", "sign"]) (sc := defScope s_is_atom) (by decide +kernel)) (fun _ _ _ _ _ => pg_name (i := 1) sc_is_atom.nd rfl (Or.inl rfl)) (fun _ _ _ _ _ => pts_nil) (fun _ _ _ _ _ => (cl (ok_is_sign T) T.h_is_sign hr (pa_cons (pv 1) pa_nil)))) pa_nil))))))), ?_⟩
  cases hv with
  | str z =>
    have hz' : 1 + z.length ≤ 60000 := hz
    refine ⟨_, rfl, _, _, _, _, true, rfl, .ty "str", ty, kit_ty (a := "str") (by decide +kernel), true, rfl, iteT ?_⟩
    refine ⟨_, rfl, z, rfl, small5 (by omega), _, _, rfl, rfl, _, rfl, ?_⟩
    have ed : atomD (.str z) = (decide (z.length ≤ 40) && z.cps.toList.all signOk) := rfl
    rw [ed] at q
    by_cases hl : z.length ≤ 40
    · rw [decide_eq_true (show ((z.length : Nat) : Int) ≤ 40 by omega)]
      rw [decide_eq_true hl, Bool.true_and] at q
      refine iteT ⟨_, rfl, z, rfl, fun D hD => lc_it walk_str (fun i H' => Ex H H' ∧ H' D = some (.lst ((z.cps.toList.take i).map fun c => V.bl (signOk c)))) ⟨Ex.new hD, upd_same⟩ (fun _ _ _ _ => trivial) ?_ ?_⟩
      · rintro i x H1 H2 hi ⟨e1, hL⟩ ⟨rfl, c, hc', rfl⟩
        have hcl : z.cps.toList.length = z.length := by rw [Array.length_toList]; rfl
        refine ⟨rfl, yesI ⟨_, rfl, c, rfl, _, hL, ?_, Ex.mut e1 hD, ?_⟩⟩
        · rw [List.length_map, List.length_take]
          exact small5' (by omega)
        · rw [upd_same, tk_succ (x := c)]
          rw [← hc', Array.getElem?_toList]
      · rintro H1 ⟨e1, hL⟩
        refine ⟨D, z.cps.toList.map signOk, rfl, SqL.of ?_, ?_⟩
        · rw [hL, List.take_of_length_le (by simp), List.map_map]
          rfl
        · have : (z.cps.toList.map signOk).all id = z.cps.toList.all signOk := by
            rw [List.all_map]
            rfl
          rw [this]
          exact q _ e1
    · rw [decide_eq_false (show ¬ ((z.length : Nat) : Int) ≤ 40 by omega)]
      rw [decide_eq_false hl, Bool.false_and] at q
      exact iteF (q _ (Ex.refl _))
  | int i => exact ⟨_, rfl, _, _, _, _, false, rfl, .ty "str", ty, kit_ty (a := "int") (by decide +kernel), false, rfl, iteF (q _ (Ex.refl _))⟩
  | bl i => exact ⟨_, rfl, _, _, _, _, false, rfl, .ty "str", ty, kit_ty (a := "bool") (by decide +kernel), false, rfl, iteF (q _ (Ex.refl _))⟩
  | non => exact ⟨_, rfl, _, _, _, _, false, rfl, .ty "str", ty, kit_ty (a := "NoneType") (by decide +kernel), false, rfl, iteF (q _ (Ex.refl _))⟩
  | lst h => exact ⟨_, rfl, _, _, _, _, false, rfl, .ty "str", ty, kit_ty (a := "list") (by decide +kernel), false, rfl, iteF (q _ (Ex.refl _))⟩
  | dic h => exact ⟨_, rfl, _, _, _, _, false, rfl, .ty "str", ty, kit_ty (a := "dict") (by decide +kernel), false, rfl, iteF (q _ (Ex.refl _))⟩
  | tup h r => exact ⟨_, rfl, _, _, _, _, false, rfl, .ty "str", ty, kit_ty (a := "tuple") (by decide +kernel), false, rfl, iteF (q _ (Ex.refl _))⟩

/-! ### is_number -/
def spNum (K : PySem.W.Frag) : Sp := fun vs H Q _ => ∃ v d, vs = [v] ∧ OdAt K H v d ∧ Q (.bl (numD d)) H
theorem ok_is_number (T : Tx K mg) : FnOk P w K mg base CX0 2 T.f_is_number T.d_is_number ["thing"] (spNum K) := by
  refine T.h_is_number.F.ok sc_is_number (fun vs H Q E h => ?_) (fun cdv A outer s H vs Q E hr h => ?_)
  · obtain ⟨x, d, rfl, _⟩ := h
    rfl
  obtain ⟨v, d, rfl, hv, q⟩ := h
  refine ⟨_, (pss_one (ps_ret (pe_and (cl (ok_is_integer T) T.h_is_integer hr (pa_cons (pv 0) pa_nil)) (pe_one (pe_cmpR op_ge (pv 0) pe_int (nomark _)))))), ?_⟩
  refine ⟨_, rfl, v, d, rfl, hv, intD d, rfl, ?_⟩
  cases hv with
  | int i => exact iteT ⟨_, rfl, _, _, rfl, rfl, q⟩
  | bl i => exact iteF q
  | non => exact iteF q
  | str s => exact iteF q
  | lst h => exact iteF q
  | dic h => exact iteF q
  | tup h r => exact iteF q

/-! ### arguments_of, of what may be a part of a term -/
def spArgs (K : PySem.W.Frag) : Sp := fun vs H Q _ => ∃ v d, vs = [v] ∧ OdAt K H v d ∧ partD d = true ∧ ∀ p ws H', H p = none → Ex H H' → H' p = some (.tup ws) → OdAll K H' ws (argsD d) → Q (.ref p) H'
theorem ok_arguments_of (T : Tx K mg) : FnOk P w K mg base CX0 1 T.f_arguments_of T.d_arguments_of ["part"] (spArgs K) := by
  refine T.h_arguments_of.F.ok sc_arguments_of (fun vs H Q E h => ?_) (fun cdv A outer s H vs Q E hr h => ?_)
  · obtain ⟨v, t, rfl, _⟩ := h
    rfl
  obtain ⟨v, d, rfl, hv, hp, q⟩ := h
  have ty := ty_od hv
  refine ⟨_, (pss_one (ps_ret (pe_ifExp (pt_val (pe_callB call_isi rfl T.b_isinstance (by decide +kernel) (pa_cons (pv 0) (pa_cons (pe_bltn (v := .ty "tuple") (u := .type "tuple") rfl T.b_tuple (by decide +kernel) rfl) pa_nil)))) (pe_slice sl_tup (pv 0) (po_some pe_int) po_none) (pe_tup pa_nil)))), ?_⟩
  cases hv with
  | tup hT hA =>
    refine ⟨_, rfl, _, _, _, _, true, rfl, .ty "tuple", ty, kit_ty (a := "tuple") (by decide +kernel), true, rfl, iteT ?_⟩
    cases hA with
    | nil => cases hp
    | cons h r =>
      refine ⟨_, rfl, _, rfl, _, _, rfl, hT, cut1_ne _ _, fun p hp => ?_⟩
      rw [cut1]
      exact q p _ _ hp (Ex.new hp) upd_same (r.mono (Kind.of (Ex.new hp)))
  | int i => exact ⟨_, rfl, _, _, _, _, false, rfl, .ty "tuple", ty, kit_ty (a := "int") (by decide +kernel), false, rfl, iteF ⟨Nat.zero_le _, fun p hp => q p _ _ hp (Ex.new hp) upd_same .nil⟩⟩
  | bl i => exact ⟨_, rfl, _, _, _, _, false, rfl, .ty "tuple", ty, kit_ty (a := "bool") (by decide +kernel), false, rfl, iteF ⟨Nat.zero_le _, fun p hp => q p _ _ hp (Ex.new hp) upd_same .nil⟩⟩
  | non => exact ⟨_, rfl, _, _, _, _, false, rfl, .ty "tuple", ty, kit_ty (a := "NoneType") (by decide +kernel), false, rfl, iteF ⟨Nat.zero_le _, fun p hp => q p _ _ hp (Ex.new hp) upd_same .nil⟩⟩
  | str s => exact ⟨_, rfl, _, _, _, _, false, rfl, .ty "tuple", ty, kit_ty (a := "str") (by decide +kernel), false, rfl, iteF ⟨Nat.zero_le _, fun p hp => q p _ _ hp (Ex.new hp) upd_same .nil⟩⟩
  | lst h => exact ⟨_, rfl, _, _, _, _, false, rfl, .ty "tuple", ty, kit_ty (a := "list") (by decide +kernel), false, rfl, iteF ⟨Nat.zero_le _, fun p hp => q p _ _ hp (Ex.new hp) upd_same .nil⟩⟩
  | dic h => exact ⟨_, rfl, _, _, _, _, false, rfl, .ty "tuple", ty, kit_ty (a := "dict") (by decide +kernel), false, rfl, iteF ⟨Nat.zero_le _, fun p hp => q p _ _ hp (Ex.new hp) upd_same .nil⟩⟩

/-! ### is_variable, of a term -/
def isVar : Tm → Bool
  | .var _ => true
  | _ => false
def spIsVar (K : PySem.W.Frag) : Sp := fun vs H Q _ => ∃ v t, vs = [v] ∧ Rep K H t v ∧ Ok t ∧ Q (.bl (isVar t)) H
theorem dec_len {n m : Nat} : decide (V.int (n : Int) = V.int (m : Int)) = decide (n = m) := by
  by_cases h : n = m
  · subst h
    simp
  · rw [decide_eq_false h, decide_eq_false]
    intro z
    injection z with z
    omega
theorem ok_is_variable (T : Tx K mg) : FnOk P w K mg base CX0 1 T.f_is_variable T.d_is_variable ["part"] (spIsVar K) := by
  refine T.h_is_variable.F.ok sc_is_variable (fun vs H Q E h => ?_) (fun cdv A outer s H vs Q E hr h => ?_)
  · obtain ⟨v, t, rfl, _⟩ := h
    rfl
  obtain ⟨v, t, rfl, hR, hO, q⟩ := h
  refine ⟨_, (pss_one (ps_ret (pe_and (pe_callB call_isi rfl T.b_isinstance (by decide +kernel) (pa_cons (pv 0) (pa_cons (pe_bltn (v := .ty "tuple") (u := .type "tuple") rfl T.b_tuple (by decide +kernel) rfl) pa_nil))) (pe_one (pe_cmpR op_eq (pe_callB call_len_seq rfl T.b_len (by decide +kernel) (pa_cons (pv 0) pa_nil)) pe_int (nomark _)))))), ?_⟩
  cases t with
  | var k =>
    unfold Rep at hR
    obtain ⟨a, rfl, hT⟩ := hR
    refine ⟨_, rfl, _, _, _, _, true, rfl, .ty "tuple", tyx_tup hT, kit_ty (by decide +kernel), true, rfl, iteT ?_⟩
    exact ⟨_, rfl, a, _, rfl, .inr hT, rfl, q⟩
  | int i =>
    unfold Rep at hR
    subst hR
    exact ⟨_, rfl, _, _, _, _, false, rfl, .ty "tuple", .base (.int i), kit_ty (by decide +kernel), false, rfl, iteF q⟩
  | atom z =>
    unfold Rep at hR
    subst hR
    exact ⟨_, rfl, _, _, _, _, false, rfl, .ty "tuple", .base (.str z), kit_ty (by decide +kernel), false, rfl, iteF q⟩
  | comp f as =>
    unfold Rep at hR
    obtain ⟨a, ws, rfl, hT, hA⟩ := hR
    refine ⟨_, rfl, _, _, _, _, true, rfl, .ty "tuple", tyx_tup hT, kit_ty (by decide +kernel), true, rfl, iteT ?_⟩
    refine ⟨_, rfl, a, _, rfl, .inr hT, rfl, ?_⟩
    have hl := hA.len
    unfold Ok at hO
    have e : decide (V.int (((V.str f :: ws).length : Nat) : Int) = V.int 1) = false := by
      rw [show (V.int 1) = V.int ((1 : Nat) : Int) from rfl, dec_len, decide_eq_false]
      rw [List.length_cons]
      omega
    rw [e]
    exact q
end
end Hm

set_option Elab.async false
set_option linter.all false
set_option maxRecDepth 100000
set_option maxHeartbeats 4000000
namespace Hm
open PySem PySem.Spec PyProof.Rows L2 HT
open Evl (Ex)
section
variable {P : Program} {w : World} {K : PySem.W.Frag} {mg : Str → Option Value} {base : Heap}
theorem dec1 {n : Nat} : decide (V.int (n : Int) = V.int 1) = decide (n = 1) := dec_len (m := 1)
theorem at0 {α : Type} {x : α} {xs : List α} : atI (x :: xs) 0 = some x := atI_nat (j := 0) rfl
theorem ex_none {H H1 : Hp} {p : Addr} (e1 : Ex H H1) (hp : H1 p = none) : H p = none := by
  cases hq : H p with
  | none => rfl
  | some o => rw [e1 _ _ hq] at hp; cases hp
/-! ### _is_part -/
def spPart (K : PySem.W.Frag) : Sp := fun vs H Q _ => ∃ v d, vs = [v] ∧ OdAt K H v d ∧ sizeD d ≤ 60000 ∧ ∀ H', Ex H H' → Q (.bl (partD d)) H'
theorem ok_is_part (T : Tx K mg) : FnOk P w K mg base CX0 3 T.f_is_part T.d_is_part ["thing"] (spPart K) := by
  refine T.h_is_part.F.ok sc_is_part (fun vs H Q E h => ?_) (fun cdv A outer s H vs Q E hr h => ?_)
  · obtain ⟨v, t, rfl, _⟩ := h
    rfl
  obtain ⟨v, d, rfl, hv, hz, q⟩ := h
  obtain ⟨tk, hc_TOO_GREAT⟩ := T.c_TOO_GREAT
  obtain ⟨tk2, hc_MOST_ARGUMENTS⟩ := T.c_MOST_ARGUMENTS
  have ty := ty_od hv
  refine ⟨_, (pss_cons (ps_if (pt_not (pt_val (pe_callB call_isi rfl T.b_isinstance (by decide +kernel) (pa_cons (pv 0) (pa_cons (pe_bltn (v := .ty "tuple") (u := .type "tuple") rfl T.b_tuple (by decide +kernel) rfl) pa_nil)))))
      (pss_one (ps_ret (pe_or (cl (ok_is_atom T) T.h_is_atom hr (pa_cons (pv 0) pa_nil)) (pe_one (pe_and (cl (ok_is_integer T) T.h_is_integer hr (pa_cons (pv 0) pa_nil)) (pe_one (pe_chain op_lt op_lt (pe_un un_neg (pe_glob (v := .int tooGreat) rfl hc_TOO_GREAT ⟨_, rfl⟩)) (pv 0) (pe_glob (v := .int tooGreat) rfl hc_TOO_GREAT ⟨_, rfl⟩))))))))
      pss_nil)
    (pss_cons (ps_if (pt_cmpR op_eq (pe_callB call_len_seq rfl T.b_len (by decide +kernel) (pa_cons (pv 0) pa_nil)) pe_int (nomark _))
      (pss_one (ps_ret (cl (ok_is_number T) T.h_is_number hr (pa_cons (pe_ix ix_tup (pv 0) pe_int (fun _ _ => rfl)) pa_nil))))
      pss_nil)
    (pss_one (ps_ret (pe_and (pe_chain op_le op_le pe_int (pe_callB call_len_seq rfl T.b_len (by decide +kernel) (pa_cons (pv 0) pa_nil)) (pe_op op_add (pe_glob (v := .int 8) rfl hc_MOST_ARGUMENTS ⟨_, rfl⟩) pe_int)) (pe_one (cl (ok_is_atom T) T.h_is_atom hr (pa_cons (pe_ix ix_tup (pv 0) pe_int (fun _ _ => rfl)) pa_nil)))))))), ?_⟩
  cases hv with
  | int i =>
    refine ⟨_, rfl, _, _, _, _, false, rfl, .ty "tuple", ty, kit_ty (a := "int") (by decide +kernel), false, rfl, iteT ?_⟩
    refine ⟨_, rfl, _, _, rfl, .int i, hz, fun H1 e1 => ⟨false, rfl, iteF ⟨_, rfl, _, _, rfl, .int i, true, rfl, iteT ?_⟩⟩⟩
    refine ⟨tooGreat, rfl, _, rfl, _, _, rfl, rfl, _, rfl, ?_⟩
    have ep : partD (.int i) = (decide (-tooGreat < i) && decide (i < tooGreat)) := rfl
    rw [ep] at q
    by_cases c : -tooGreat < i
    · rw [decide_eq_true c] at q ⊢
      rw [Bool.true_and] at q
      exact iteT ⟨_, _, rfl, rfl, q _ e1⟩
    · rw [decide_eq_false c] at q ⊢
      exact iteF (q _ e1)
  | str s =>
    refine ⟨_, rfl, _, _, _, _, false, rfl, .ty "tuple", ty, kit_ty (a := "str") (by decide +kernel), false, rfl, iteT ?_⟩
    refine ⟨_, rfl, _, _, rfl, .str s, hz, fun H1 e1 => ⟨atomD (.str s), rfl, ?_⟩⟩
    have ep : partD (.str s) = atomD (.str s) := rfl
    rw [ep] at q
    cases e : atomD (.str s) with
    | true =>
      rw [e] at q
      exact iteT (q _ e1)
    | false =>
      rw [e] at q
      exact iteF ⟨_, rfl, _, _, rfl, .str s, false, rfl, iteF (q _ e1)⟩
  | bl b =>
    refine ⟨_, rfl, _, _, _, _, false, rfl, .ty "tuple", ty, kit_ty (a := "bool") (by decide +kernel), false, rfl, iteT ?_⟩
    exact ⟨_, rfl, _, _, rfl, .bl b, hz, fun H1 e1 => ⟨false, rfl, iteF ⟨_, rfl, _, _, rfl, .bl b, false, rfl, iteF (q _ e1)⟩⟩⟩
  | non =>
    refine ⟨_, rfl, _, _, _, _, false, rfl, .ty "tuple", ty, kit_ty (a := "NoneType") (by decide +kernel), false, rfl, iteT ?_⟩
    exact ⟨_, rfl, _, _, rfl, .non, hz, fun H1 e1 => ⟨false, rfl, iteF ⟨_, rfl, _, _, rfl, .non, false, rfl, iteF (q _ e1)⟩⟩⟩
  | lst h =>
    refine ⟨_, rfl, _, _, _, _, false, rfl, .ty "tuple", ty, kit_ty (a := "list") (by decide +kernel), false, rfl, iteT ?_⟩
    exact ⟨_, rfl, _, _, rfl, .lst h, hz, fun H1 e1 => ⟨false, rfl, iteF ⟨_, rfl, _, _, rfl, .lst (Evl.ex_l e1 h), false, rfl, iteF (q _ e1)⟩⟩⟩
  | dic h =>
    refine ⟨_, rfl, _, _, _, _, false, rfl, .ty "tuple", ty, kit_ty (a := "dict") (by decide +kernel), false, rfl, iteT ?_⟩
    exact ⟨_, rfl, _, _, rfl, .dic h, hz, fun H1 e1 => ⟨false, rfl, iteF ⟨_, rfl, _, _, rfl, .dic (e1 _ _ h), false, rfl, iteF (q _ e1)⟩⟩⟩
  | @tup a xs ds hT hA =>
    refine ⟨_, rfl, _, _, _, _, true, rfl, .ty "tuple", ty, kit_ty (a := "tuple") (by decide +kernel), true, rfl, iteF ?_⟩
    refine ⟨_, rfl, a, _, rfl, .inr hT, rfl, _, rfl, ?_⟩
    rw [dec1]
    cases hA with
    | nil =>
      rw [decide_eq_false (by decide)]
      exact iteF ⟨_, rfl, a, _, rfl, .inr hT, _, _, rfl, rfl, _, rfl, iteF ⟨_, rfl, iteF (q _ (Ex.refl _))⟩⟩
    | @cons x ws dx dw hx hw =>
      cases hw with
      | nil =>
        rw [decide_eq_true (show [x].length = 1 from rfl)]
        exact iteT ⟨_, rfl, a, _, 0, _, rfl, rfl, hT, at0, _, _, rfl, hx, q _ (Ex.refl _)⟩
      | @cons y vs dy ds hy hr =>
        have hl := hr.len
        have sx : sizeD dx ≤ 60000 := Nat.le_trans (by rw [sizeD, sizesD]; omega) hz
        rw [decide_eq_false (by rw [List.length_cons, List.length_cons]; omega)]
        refine iteF ⟨_, rfl, a, _, rfl, .inr hT, _, _, rfl, rfl, _, rfl, ?_⟩
        rw [decide_eq_true (show (2 : Int) ≤ (((x :: y :: vs).length : Nat) : Int) by rw [List.length_cons, List.length_cons]; omega)]
        refine iteT ⟨_, _, rfl, rfl, _, _, rfl, rfl, _, rfl, ?_⟩
        have ep : partD (.tup (dx :: dy :: ds)) = (decide (ds.length ≤ 7) && atomD dx) := rfl
        rw [ep] at q
        by_cases c : ds.length ≤ 7
        · rw [decide_eq_true (show (((x :: y :: vs).length : Nat) : Int) ≤ (8 : Int) + 1 by rw [List.length_cons, List.length_cons]; omega)]
          rw [decide_eq_true c, Bool.true_and] at q
          exact iteT ⟨_, rfl, a, _, 0, _, rfl, rfl, hT, at0, _, _, rfl, hx, sx, q⟩
        · rw [decide_eq_false (show ¬ (((x :: y :: vs).length : Nat) : Int) ≤ (8 : Int) + 1 by rw [List.length_cons, List.length_cons]; omega)]
          rw [decide_eq_false c, Bool.false_and] at q
          exact iteF (q _ (Ex.refl _))

/-! ### is_term, demand_term -/
theorem list_end {α : Type} (l : List α) : l = [] ∨ ∃ r x, l = r ++ [x] := by
  cases h : l.reverse with
  | nil => exact .inl (by simpa using h)
  | cons x r =>
    refine .inr ⟨r.reverse, x, ?_⟩
    have := congrArg List.reverse h
    simpa using this
theorem last_app {α : Type} (r : List α) (x : α) : (r ++ [x])[(r ++ [x]).length - 1]? = some x := by simp
theorem drop_app {α : Type} (r : List α) (x : α) : (r ++ [x]).dropLast = r := by simp
def spIsT (K : PySem.W.Frag) : Sp := fun vs H Q _ => ∃ v d, vs = [v] ∧ OdAt K H v d ∧ sizeD d ≤ 60000 ∧ ∀ H', Ex H H' → Q (.bl (isT d)) H'
theorem ok_is_term (T : Tx K mg) : FnOk P w K mg base CX0 4 T.f_is_term T.d_is_term ["thing"] (spIsT K) := by
  refine T.h_is_term.F.ok sc_is_term (fun vs H Q E h => ?_) (fun cdv A outer s H vs Q E hr h => ?_)
  · obtain ⟨v, t, rfl, _⟩ := h
    rfl
  obtain ⟨v, d, rfl, hv, hz, q⟩ := h
  refine ⟨_, (pss_cons (ps_set (i := 1) sc_is_term.nd rfl (Or.inl rfl) (pe_lst (pa_cons (pv 0) pa_nil)))
    (pss_cons (ps_while PassesOwn.never (pt_truth (pv 1) (by intro _; rfl))
      (pss_cons (ps_set (i := 2) sc_is_term.nd rfl (Or.inl rfl) (pe_bm0 PySem.F.plainAttrs_list PySem.F.slot_list_pop PySem.F.type_list_pop mt_pop (pv 1)))
    (pss_cons (ps_if (pt_not (pt_val (cl (ok_is_part T) T.h_is_part hr (pa_cons (pv 2) pa_nil))))
      (pss_one (ps_ret pe_bl))
      pss_nil)
    (pss_one (ps_expr (pe_bm PySem.F.plainAttrs_list PySem.F.slot_list_extend PySem.F.type_list_extend mt_extT (pv 1) (pa_cons (cl (ok_arguments_of T) T.h_arguments_of hr (pa_cons (pv 2) pa_nil)) pa_nil)))))))
    (pss_one (ps_ret pe_bl)))), ?_⟩
  refine ⟨_, rfl, (by show 1 ≤ sizeLine; decide), fun l hl => ?_⟩
  refine ⟨fun m σ' H' => ∃ x ds ws, σ' = [some v, some (.ref l), x] ∧ Ex H H' ∧ H' l = some (.lst ws) ∧ OdAll K H' ws ds ∧ isTs ds = isT d ∧ sizesD ds = m ∧ m ≤ 60000,
    ⟨sizeD d, none, [d], [v], rfl, Ex.new hl, upd_same, .cons (hv.mono (Kind.of (Ex.new hl))) .nil, Bool.and_true _, rfl, hz⟩, ?_⟩
  rintro m σ' H' ⟨x, ds, ws, rfl, e1, hL, hRs, hT, rfl, hm⟩
  refine ⟨_, rfl, _, .inl ⟨ws, SqL.of hL, rfl⟩, ?_⟩
  rcases list_end ds with rfl | ⟨ds, d', rfl⟩
  · cases hRs
    have e : isT d = true := hT.symm
    rw [e] at q
    exact iteF (q _ e1)
  · obtain ⟨ws, v', rfl, hR1, hR2⟩ := hRs.last
    have hne : (!(ws ++ [v']).isEmpty) = true := by simp
    rw [hne]
    rw [isTs_app, isTs_cons, isTs_nil, Bool.and_true] at hT
    rw [sizesD_app] at hm ⊢
    have hs1 : sizesD [d'] = sizeD d' := by rw [sizesD, sizesD, Nat.add_zero]
    rw [hs1] at hm ⊢
    refine iteT ⟨fun σ2 H2 => ∃ m', m' < sizesD ds + sizeD d' ∧ ∃ x ds ws, σ2 = [some v, some (.ref l), x] ∧ Ex H H2 ∧ H2 l = some (.lst ws) ∧ OdAll K H2 ws ds ∧ isTs ds = isT d ∧ sizesD ds = m' ∧ m' ≤ 60000, fun _ _ h => h, ?_⟩
    refine ⟨_, rfl, .inl ⟨rfl, _, SqL.of hL⟩, l, _, v', rfl, rfl, hL, last_app _ _, ?_⟩
    rw [drop_app]
    have t1 : Kind K H' (upd H' l (.lst ws)) := Kind.lst hL
    refine ⟨_, rfl, v', d', rfl, hR2.mono t1, by omega, fun H2 e2 => ⟨partD d', rfl, ?_⟩⟩
    have hL2 : H2 l = some (.lst ws) := e2 l _ upd_same
    have e4 : Ex H (upd H' l (.lst ws)) := Ex.mut e1 hl
    rw [isT_eq d'] at hT
    cases hp : partD d' with
    | false =>
      rw [hp, Bool.false_and, Bool.and_false] at hT
      rw [← hT] at q
      exact iteT (q _ (e4.trans e2))
    | true =>
      rw [hp, Bool.true_and] at hT
      refine iteF ⟨_, rfl, .inl ⟨rfl, _, SqL.of hL2⟩, _, rfl, v', d', rfl, (hR2.mono t1).mono (Kind.of e2), hp, fun p us H3 hp3 e3 hU hUs => ?_⟩
      have hL3 : H3 l = some (.lst ws) := e3 l _ hL2
      have hlen := hR1.len
      have hlen2 := hUs.len
      have z1 := len_sizesD ds
      have z2 := len_sizesD (argsD d')
      have z3 := sizeD_args d'
      refine ⟨l, p, ws, us, rfl, rfl, hL3, SqT.of hU, small5 (by omega), sizesD (ds ++ argsD d'), ?_, _, ds ++ argsD d', ws ++ us, rfl, ?_, upd_same, ?_, ?_, rfl, ?_⟩
      · rw [sizesD_app]
        omega
      · exact Ex.mut ((e4.trans e2).trans e3) hl
      · have t3 : Kind K (upd H' l (.lst ws)) (upd H3 l (.lst (ws ++ us))) := ((Kind.of e2).trans (Kind.of e3)).trans (Kind.lst hL3)
        exact ((hR1.mono t1).mono t3).app (hUs.mono (Kind.lst hL3))
      · rw [isTs_app]
        exact hT
      · rw [sizesD_app]
        omega
theorem ok_bad_init (T : Tx K mg) : FnOk P w K mg base CX0 1 T.i_Bad T.d_Bad ["self", "term"] (RG.spIni T.a_Bad "term") := by
  refine T.F_Bad.ok sc_BadTerm_init (fun vs H Q E h => ?_) (fun cdv A outer s H vs Q E hr h => ?_)
  · obtain ⟨a, v, rfl, _⟩ := h
    rfl
  obtain ⟨a, v, rfl, ha, q⟩ := h
  refine ⟨_, (pss_cons (ps_expr (RG.pe_hinit T.e_Horn rfl (pa_cons (pv 0) (pa_cons pe_str pa_nil)))) (pss_one (ps_ost (pv 0) (pv 1)))), ?_⟩
  refine ⟨_, rfl, a, _, [.str "no term"], rfl, by decide, T.e_Bad.oex, ha, _, rfl, _, rfl, a, _, rfl, T.e_Bad.oex, T.e_Bad.noF, .inl ⟨ha, fun d hd ne => q d hd ne⟩⟩
def spDem (K : PySem.W.Frag) (C : Addr) : Sp := fun vs H Q E => ∃ v d, vs = [v] ∧ OdAt K H v d ∧ sizeD d ≤ 60000 ∧ (isT d = true → ∀ u H', Ex H H' → Q u H') ∧ (isT d = false → RG.Comes C "term" v H E)
theorem ok_demand_term (T : Tx K mg) : FnOk P w K mg base (L2.CX P w) 5 T.f_demand_term T.d_demand_term ["term"] (spDem K T.a_Bad) := by
  refine T.h_demand_term.F.okX sc_demand_term (fun vs H Q E h => ?_) (fun cdv A outer s H vs Q E hr h => ?_)
  · obtain ⟨v, t, rfl, _⟩ := h
    rfl
  obtain ⟨v, d, rfl, hv, hz, q, e⟩ := h
  refine ⟨_, (pss_one (ps_if (pt_not (pt_val (cl (ok_is_term T) T.h_is_term hr (pa_cons (pv 0) pa_nil))))
      (pss_one (ps_raise rfl (takes_of rfl rfl rfl rfl) (pmk_oex T.e_Bad.oex T.e_Bad.iC T.e_Bad.tI (ok_bad_init T) (hr.mono (by decide)) T.b_Bad .nil pass0 rfl T.e_Bad.at_ (pa_cons (pv 0) pa_nil))))
      pss_nil)), ?_⟩
  refine ⟨_, rfl, v, d, rfl, hv, hz, fun H' e1 => ⟨isT d, rfl, ?_⟩⟩
  cases c : isT d with
  | true => exact iteF (q c _ _ e1)
  | false => exact iteT ⟨_, rfl, RG.made_err fun dd H2 h1 e2 h2 => e c dd H2 (ex_none e1 h1) (e1.trans e2) h2⟩
end
end Hm

set_option Elab.async false
set_option linter.all false
set_option maxRecDepth 100000
set_option maxHeartbeats 4000000
namespace Hm
open PySem PySem.Spec PyProof.Rows L2 HT
open Evl (Ex)
section
variable {P : Program} {w : World} {K : PySem.W.Frag} {mg : Str → Option Value} {base : Heap}

def spArgsT (K : PySem.W.Frag) : Sp := fun vs H Q _ => ∃ v t, vs = [v] ∧ Rep K H t v ∧ ∀ p ws H', H p = none → Ex H H' → H' p = some (.tup ws) → Reps K H' t.args ws → Q (.ref p) H'
theorem ok_arguments_t (T : Tx K mg) : FnOk P w K mg base CX0 1 T.f_arguments_of T.d_arguments_of ["part"] (spArgsT K) := by
  refine T.h_arguments_of.F.ok sc_arguments_of (fun vs H Q E h => ?_) (fun cdv A outer s H vs Q E hr h => ?_)
  · obtain ⟨v, t, rfl, _⟩ := h
    rfl
  obtain ⟨v, t, rfl, hR, q⟩ := h
  refine ⟨_, (pss_one (ps_ret (pe_ifExp (pt_val (pe_callB call_isi rfl T.b_isinstance (by decide +kernel) (pa_cons (pv 0) (pa_cons (pe_bltn (v := .ty "tuple") (u := .type "tuple") rfl T.b_tuple (by decide +kernel) rfl) pa_nil)))) (pe_slice sl_tup (pv 0) (po_some pe_int) po_none) (pe_tup pa_nil)))), ?_⟩
  cases t with
  | var k =>
    unfold Rep at hR
    obtain ⟨a, rfl, hT⟩ := hR
    refine ⟨_, rfl, _, _, _, _, true, rfl, .ty "tuple", tyx_tup hT, kit_ty (by decide +kernel), true, rfl, iteT ?_⟩
    refine ⟨_, rfl, _, rfl, a, _, rfl, hT, cut1_ne _ _, fun p hp => ?_⟩
    rw [cut1]
    exact q p _ _ hp (Ex.new hp) upd_same Reps.nil
  | int i =>
    unfold Rep at hR
    subst hR
    refine ⟨_, rfl, _, _, _, _, false, rfl, .ty "tuple", .base (.int i), kit_ty (by decide +kernel), false, rfl, iteF ?_⟩
    exact ⟨Nat.zero_le _, fun p hp => q p _ _ hp (Ex.new hp) upd_same Reps.nil⟩
  | atom z =>
    unfold Rep at hR
    subst hR
    refine ⟨_, rfl, _, _, _, _, false, rfl, .ty "tuple", .base (.str z), kit_ty (by decide +kernel), false, rfl, iteF ?_⟩
    exact ⟨Nat.zero_le _, fun p hp => q p _ _ hp (Ex.new hp) upd_same Reps.nil⟩
  | comp f as =>
    unfold Rep at hR
    obtain ⟨a, ws, rfl, hT, hA⟩ := hR
    refine ⟨_, rfl, _, _, _, _, true, rfl, .ty "tuple", tyx_tup hT, kit_ty (by decide +kernel), true, rfl, iteT ?_⟩
    refine ⟨_, rfl, _, rfl, a, _, rfl, hT, cut1_ne _ _, fun p hp => ?_⟩
    rw [cut1]
    exact q p ws _ hp (Ex.new hp) upd_same (hA.mono (Tups.of (Ex.new hp)))

/-! ### is_variable, of a term -/
/-! ### parts_of -/
def spParts (K : PySem.W.Frag) : Sp := fun vs H Q _ => ∃ v t, vs = [v] ∧ Rep K H t v ∧ size t ≤ 50000 ∧ ∀ p ws H', H p = none → Ex H H' → H' p = some (.lst ws) → Reps K H' (pre t) ws → Q (.ref p) H'
theorem ok_parts_of (T : Tx K mg) : FnOk P w K mg base CX0 2 T.f_parts_of T.d_parts_of ["term"] (spParts K) := by
  refine T.h_parts_of.F.ok sc_parts_of (fun vs H Q E h => ?_) (fun cdv A outer s H vs Q E hr h => ?_)
  · obtain ⟨v, t, rfl, _⟩ := h
    rfl
  obtain ⟨v, t, rfl, hR, hz, q⟩ := h
  refine ⟨_, (pss_cons (ps_set (i := 1) sc_parts_of.nd rfl (Or.inl rfl) (pe_lst pa_nil))
    (pss_cons (ps_set (i := 2) sc_parts_of.nd rfl (Or.inl rfl) (pe_lst (pa_cons (pv 0) pa_nil)))
    (pss_cons (ps_while PassesOwn.never (pt_truth (pv 2) (by intro _; rfl))
      (pss_cons (ps_set (i := 3) sc_parts_of.nd rfl (Or.inl rfl) (pe_bm0 PySem.F.plainAttrs_list PySem.F.slot_list_pop PySem.F.type_list_pop mt_pop (pv 2)))
    (pss_cons (ps_expr (pe_bm PySem.F.plainAttrs_list PySem.F.slot_list_append PySem.F.type_list_append mt_append (pv 1) (pa_cons (pv 3) pa_nil)))
    (pss_one (ps_expr (pe_bm PySem.F.plainAttrs_list PySem.F.slot_list_extend PySem.F.type_list_extend mt_extT (pv 2) (pa_cons (pe_revT (cl (ok_arguments_t T) T.h_arguments_of hr (pa_cons (pv 3) pa_nil))) pa_nil)))))))
    (pss_one (ps_ret (pv 1)))))), ?_⟩
  refine ⟨Nat.zero_le _, fun f hf => ?_⟩
  refine ⟨_, rfl, (by show 1 ≤ sizeLine; decide), fun l hl' => ?_⟩
  have hfl : f ≠ l := by
    intro e
    subst e
    rw [upd_same] at hl'
    cases hl'
  have hl : H l = none := by
    rw [upd_ne hfl.symm] at hl'
    exact hl'
  have e0 : Ex H (upd (upd H f (.lst [])) l (.lst [v])) := (Ex.new hf).trans (Ex.new hl')
  refine ⟨fun m σ' H' => ∃ x ts ws ds us, σ' = [some v, some (.ref f), some (.ref l), x] ∧ Ex H H' ∧ H' l = some (.lst ws) ∧ Reps K H' ts ws ∧ H' f = some (.lst us) ∧ Reps K H' ds us ∧ ds ++ pres ts.reverse = pre t ∧ sizes ts = m ∧ sizes ts + ds.length ≤ 50000,
    ⟨size t, none, [t], [v], [], [], rfl, e0, upd_same, Reps.one (hR.mono (Tups.of e0)), (by rw [upd_ne hfl, upd_same]), Reps.nil, ?_, sizes_one t, ?_⟩, ?_⟩
  · show pres [t] = pre t
    rw [pres_cons]
    unfold pres
    rw [List.append_nil]
  · rw [sizes_one]
    exact hz
  rintro m σ' H' ⟨x, ts, ws, ds, us, rfl, e1, hL, hRs, hF, hDs, hpre, rfl, hm⟩
  refine ⟨_, rfl, _, .inl ⟨ws, SqL.of hL, rfl⟩, ?_⟩
  rcases list_end ts with rfl | ⟨ts, t', rfl⟩
  · rw [hRs.nil_inv]
    refine iteF ⟨_, rfl, q f us _ hf e1 hF ?_⟩
    rw [← hpre]
    show Reps K H' (ds ++ pres []) us
    unfold pres
    rw [List.append_nil]
    exact hDs
  · obtain ⟨ws, v', rfl, hR1, hR2⟩ := hRs.last
    have hne : (!(ws ++ [v']).isEmpty) = true := by simp
    rw [hne]
    rw [sizes_app, sizes_one] at hm ⊢
    refine iteT ⟨fun σ2 H2 => ∃ m', m' < sizes ts + size t' ∧ ∃ x ts ws ds us, σ2 = [some v, some (.ref f), some (.ref l), x] ∧ Ex H H2 ∧ H2 l = some (.lst ws) ∧ Reps K H2 ts ws ∧ H2 f = some (.lst us) ∧ Reps K H2 ds us ∧ ds ++ pres ts.reverse = pre t ∧ sizes ts = m' ∧ sizes ts + ds.length ≤ 50000, fun _ _ h => h, ?_⟩
    refine ⟨_, rfl, .inl ⟨rfl, _, SqL.of hL⟩, l, _, v', rfl, rfl, hL, last_app _ _, ?_⟩
    rw [drop_app]
    have t1 : Tups K H' (upd H' l (.lst ws)) := Tups.lst hL
    have hF1 : (upd H' l (.lst ws)) f = some (.lst us) := by rw [upd_ne hfl]; exact hF
    have z0 := hDs.len
    have z4 := size_pos t'
    refine ⟨_, rfl, .inl ⟨rfl, _, SqL.of hF1⟩, _, rfl, f, us, v', rfl, rfl, hF1, small5' (by omega), ?_⟩
    have t2 : Tups K (upd H' l (.lst ws)) (upd (upd H' l (.lst ws)) f (.lst (us ++ [v']))) := Tups.lst hF1
    have hL2 : (upd (upd H' l (.lst ws)) f (.lst (us ++ [v']))) l = some (.lst ws) := by rw [upd_ne hfl.symm, upd_same]
    refine ⟨_, rfl, .inl ⟨rfl, _, SqL.of hL2⟩, _, rfl, v', t', rfl, (hR2.mono t1).mono t2, fun p ys H3 hp e3 hU hUs => ?_⟩
    refine ⟨p, ys, rfl, SqT.of hU, fun p' hp' => ?_⟩
    have e4 := Ex.new (o := HO.tup ys.reverse) hp'
    have hL4 : (upd H3 p' (.tup ys.reverse)) l = some (.lst ws) := e4 l _ (e3 l _ hL2)
    have hF4 : (upd H3 p' (.tup ys.reverse)) f = some (.lst (us ++ [v'])) := e4 f _ (e3 f _ upd_same)
    have hlen := hR1.len
    have hlen2 := hUs.len
    have z1 := len_sizes ts
    have z2 := len_sizes t'.args
    have z3 := size_eq t'
    refine ⟨l, p', ws, ys.reverse, rfl, rfl, hL4, SqT.of upd_same, small5 (by rw [List.length_reverse]; omega), sizes (ts ++ t'.args.reverse), ?_, _, ts ++ t'.args.reverse, ws ++ ys.reverse, ds ++ [t'], us ++ [v'], rfl, ?_, upd_same, ?_, ?_, ?_, ?_, rfl, ?_⟩
    · rw [sizes_app, sizes_rev]
      omega
    · have e5 : Ex H (upd (upd H' l (.lst ws)) f (.lst (us ++ [v']))) := Ex.mut (Ex.mut e1 hl) hf
      exact Ex.mut ((e5.trans e3).trans e4) hl
    · have t3 := ((Tups.of (K := K) e3).trans (Tups.of e4)).trans (Tups.lst (o := HO.lst (ws ++ ys.reverse)) hL4)
      exact Reps.app (((hR1.mono t1).mono t2).mono t3) ((hUs.rev.mono (Tups.of e4)).mono (Tups.lst hL4))
    · rw [upd_ne hfl]
      exact hF4
    · have t3 := ((Tups.of (K := K) e3).trans (Tups.of e4)).trans (Tups.lst (o := HO.lst (ws ++ ys.reverse)) hL4)
      exact Reps.app (((hDs.mono t1).mono t2).mono t3) (Reps.one (((hR2.mono t1).mono t2).mono t3))
    · rw [← hpre, List.reverse_append, List.reverse_append, List.reverse_reverse, pres_app, List.append_assoc]
      show ds ++ ([t'] ++ (pres t'.args ++ pres ts.reverse)) = ds ++ pres (t' :: ts.reverse)
      rw [pres_cons, pre_eq t']
      simp
    · rw [sizes_app, sizes_rev, List.length_append, List.length_singleton]
      omega
end
end Hm

set_option Elab.async false
set_option linter.all false
set_option maxRecDepth 100000
set_option maxHeartbeats 4000000
namespace Hm
open PySem PySem.Spec PyProof.Rows L2 HT
open Evl (Ex)
/-! ### rows in a heap -/
def RwRep (K : PySem.W.Frag) (H : Hp) : Rw → V → Prop
  | .leaf t, v => ∃ a u, v = .ref a ∧ SqT K H a [u, .int 0] ∧ Rep K H t u
  | .node f n, v => ∃ a, v = .ref a ∧ SqT K H a [.str f, .int (n : Int)]
def RwReps (K : PySem.W.Frag) (H : Hp) : List Rw → List V → Prop
  | [], vs => vs = []
  | r :: rs, vs => ∃ v ws, vs = v :: ws ∧ RwRep K H r v ∧ RwReps K H rs ws
section
variable {K : PySem.W.Frag} {H H' : Hp}
theorem RwRep.mono (e : Tups K H H') {r : Rw} {v : V} (h : RwRep K H r v) : RwRep K H' r v := by
  cases r with
  | leaf t =>
    obtain ⟨a, u, e1, q, r⟩ := h
    exact ⟨a, u, e1, e _ _ q, r.mono e⟩
  | node f n =>
    obtain ⟨a, e1, q⟩ := h
    exact ⟨a, e1, e _ _ q⟩
theorem RwReps.mono (e : Tups K H H') : ∀ {rs : List Rw} {vs : List V}, RwReps K H rs vs → RwReps K H' rs vs
  | [], _, h => h
  | _ :: _, _, ⟨v, ws, e1, q, r⟩ => ⟨v, ws, e1, q.mono e, RwReps.mono e r⟩
theorem RwReps.len : ∀ {rs : List Rw} {vs : List V}, RwReps K H rs vs → rs.length = vs.length
  | [], _, h => by
    rw [show _ = [] from h]
    rfl
  | _ :: _, _, ⟨v, ws, e1, q, r⟩ => by rw [e1, List.length_cons, List.length_cons, RwReps.len r]
theorem RwReps.app : ∀ {rs us : List Rw} {vs ws : List V}, RwReps K H rs vs → RwReps K H us ws → RwReps K H (rs ++ us) (vs ++ ws)
  | [], _, _, _, h, r => by
    rw [show _ = [] from h]
    exact r
  | _ :: _, _, _, ys, ⟨v, ws, e1, q, s⟩, r => ⟨v, ws ++ ys, by rw [e1]; rfl, q, RwReps.app s r⟩
theorem RwReps.get : ∀ {rs : List Rw} {vs : List V} {i : Nat} {v : V}, RwReps K H rs vs → vs[i]? = some v → ∃ r, rs[i]? = some r ∧ RwRep K H r v
  | [], _, i, _, h, e => by
    rw [show _ = [] from h] at e
    simp at e
  | r :: rs, _, 0, x, ⟨v, ws, e1, q, s⟩, e => by
    rw [e1] at e
    have e2 : v = x := by simpa using e
    subst e2
    exact ⟨r, rfl, q⟩
  | r :: rs, _, i + 1, _, ⟨v, ws, e1, q, s⟩, e => by
    rw [e1] at e
    obtain ⟨u, h1, h2⟩ := RwReps.get (i := i) s (by simpa using e)
    exact ⟨u, by simpa using h1, h2⟩
end
theorem fold_turn_len : ∀ (rs : List Rw) (D : List Tm), (rs.foldr turn D).length ≤ D.length + rs.length
  | [], _ => Nat.le_refl _
  | r :: rs, D => by
    have ih := fold_turn_len rs D
    rw [List.foldr_cons, List.length_cons]
    cases r with
    | leaf t =>
      show (rs.foldr turn D ++ [t]).length ≤ _
      rw [List.length_append, List.length_singleton]
      omega
    | node f n =>
      show ((rs.foldr turn D).take _ ++ [Tm.comp f _]).length ≤ _
      rw [List.length_append, List.length_singleton, List.length_take]
      omega
theorem rooms_drop {rs : List Rw} {D : List Tm} : ∀ (k : Nat), Rooms rs D → Rooms (rs.drop k) D := by
  induction rs with
  | nil => intro k h; rw [List.drop_nil]; exact h
  | cons r rs ih =>
    intro k h
    cases k with
    | zero => exact h
    | succ k =>
      rw [rooms_cons] at h
      rw [List.drop_succ_cons]
      exact ih k h.1
section
variable {P : Program} {w : World} {K : PySem.W.Frag} {mg : Str → Option Value} {base : Heap}
def spFolded (K : PySem.W.Frag) : Sp := fun vs H Q _ => ∃ r rows us t, vs = [.ref r] ∧ SqL K H r us ∧ RwReps K H rows us ∧ rows.foldr turn [] = [t] ∧ Rooms rows [] ∧ rows.length ≤ 50000 ∧ ∀ v H', Ex H H' → Rep K H' t v → Q v H'
theorem ok_folded (T : Tx K mg) : FnOk P w K mg base CX0 1 T.f_folded T.d_folded ["row"] (spFolded K) := by
  refine T.h_folded.F.ok sc_folded (fun vs H Q E h => ?_) (fun cdv A outer s H vs Q E hr h => ?_)
  · obtain ⟨v, t, _, _, rfl, _⟩ := h
    rfl
  obtain ⟨r, rows, us, t, rfl, hS, hRw, hfold, hrooms, hz, q⟩ := h
  refine ⟨_, (pss_cons (ps_set (i := 1) sc_folded.nd rfl (Or.inl rfl) (pe_lst pa_nil))
    (pss_cons (ps_for PassesOwn.never rfl (pi_reversed rfl T.b_reversed (pa_cons (pv 0) pa_nil)) (pg_tup rfl (pgs_cons (pg_name (i := 2) sc_folded.nd rfl (Or.inl rfl)) (pgs_cons (pg_name (i := 3) sc_folded.nd rfl (Or.inl rfl)) pgs_nil)))
      (pss_one (ps_if (pt_cmpR op_eq (pv 3) pe_int (nomark _))
      (pss_one (ps_expr (pe_bm PySem.F.plainAttrs_list PySem.F.slot_list_append PySem.F.type_list_append mt_append (pv 1) (pa_cons (pv 2) pa_nil))))
      (pss_cons (ps_set (i := 4) sc_folded.nd rfl (Or.inl rfl) (pe_backL (pv 1) (pe_op op_sub (pe_un un_neg (pv 3)) pe_int)))
    (pss_cons (ps_delTail (pv 1) (pe_un un_neg (pv 3)))
    (pss_one (ps_expr (pe_bm PySem.F.plainAttrs_list PySem.F.slot_list_append PySem.F.type_list_append mt_append (pv 1) (pa_cons (pe_tup (pa_cons (pv 2) (StX.pa_star (pv 4) pa_nil))) pa_nil)))))))))
    (pss_one (ps_ret (pe_ix ix_list (pv 1) pe_int (fun _ _ => rfl)))))), ?_⟩
  refine ⟨Nat.zero_le _, fun d hd => ?_⟩
  have e0 : Ex H (upd H d (.lst [])) := Ex.new hd
  have hlen := hRw.len
  refine ⟨_, rfl, r, us, rfl, Evl.ex_l e0 hS, for_it walk_rev (fun i σ' H' => ∃ x2 x3 x4 ws, σ' = [some (.ref r), some (.ref d), x2, x3, x4] ∧ Ex H H' ∧ H' d = some (.lst ws) ∧ Reps K H' ((rows.drop (rows.length - i)).foldr turn []) ws)
    ⟨none, none, none, [], rfl, e0, upd_same, ?_⟩ ?_ ?_ ?_⟩
  · rw [Nat.sub_zero, List.drop_length]
    exact Reps.nil
  · rintro i σ' H' _ ⟨_, _, _, _, _, e1, _⟩
    exact Evl.ex_l e1 hS
  · rintro i x σ' H' H2 hi ⟨x2, x3, x4, ws, rfl, e1, hD, hR⟩ ⟨rfl, hx⟩
    have hRw' := hRw.mono (Tups.of e1)
    obtain ⟨rr, hrr, hrep⟩ := hRw'.get hx
    rw [← hlen] at hrr hi
    have hdrop : rows.drop (rows.length - (i + 1)) = rr :: rows.drop (rows.length - i) := by
      have h1 : rows.length - (i + 1) = rows.length - 1 - i := by omega
      have h2 : rows.length - i = (rows.length - 1 - i) + 1 := by omega
      obtain ⟨hlt, he⟩ := List.getElem?_eq_some_iff.mp hrr
      rw [h1, h2, List.drop_eq_getElem_cons hlt, he]
    have hroom := rooms_drop (rows.length - (i + 1)) hrooms
    rw [hdrop, rooms_cons] at hroom
    have hDl := fold_turn_len (rows.drop (rows.length - i)) []
    have hl1 := hR.len
    rw [List.length_drop, List.length_nil] at hDl
    rw [hdrop, List.foldr_cons]
    generalize hDD : (rows.drop (rows.length - i)).foldr turn [] = DD at *
    cases rr with
    | leaf tt =>
      obtain ⟨a, u, rfl, hT, hu⟩ := hrep
      refine ⟨a, _, rfl, hT, rfl, u, _, rfl, .int 0, _, rfl, rfl, _, rfl, rfl, _, rfl, iteT ?_⟩
      refine ⟨_, rfl, .inl ⟨rfl, _, SqL.of hD⟩, _, rfl, d, ws, u, rfl, rfl, hD, small5' (by omega), _, _, _, _, rfl, Ex.mut e1 hd, upd_same, ?_⟩
      have t1 : Tups K H2 (upd H2 d (.lst (ws ++ [u]))) := Tups.lst hD
      exact Reps.app (hR.mono t1) (Reps.one (hu.mono t1))
    | node f n =>
      obtain ⟨a, rfl, hT⟩ := hrep
      obtain ⟨n1, n2⟩ := hroom.2
      refine ⟨a, _, rfl, hT, rfl, .str f, _, rfl, .int (n : Int), _, rfl, rfl, _, rfl, rfl, _, rfl, ?_⟩
      have hne : decide (V.int (n : Int) = V.int 0) = false := by
        rw [show (V.int 0) = V.int ((0 : Nat) : Int) from rfl, dec_len, decide_eq_false]
        omega
      rw [hne]
      refine iteF ?_
      refine ⟨_, rfl, ⟨_, rfl, _, rfl, _, _, rfl, rfl, _, rfl, d, ws, n, rfl, rfl, SqL.of hD, (by omega), fun p hp => ?_⟩⟩
      have hpd : d ≠ p := ne_of_none hD hp
      have e2 := Ex.new (o := HO.lst (ws.drop (ws.length - n)).reverse) hp
      have hD2 := e2 d _ hD
      refine ⟨_, rfl, ⟨_, rfl, _, rfl, _, rfl, d, ws, n, rfl, rfl, hD2, n1, (by omega), ?_⟩⟩
      have t2 : Tups K H2 (upd (upd H2 p (.lst (ws.drop (ws.length - n)).reverse)) d (.lst (ws.take (ws.length - n)))) := (Tups.of e2).trans (Tups.lst hD2)
      have hD3 : (upd (upd H2 p (.lst (ws.drop (ws.length - n)).reverse)) d (.lst (ws.take (ws.length - n)))) d = some (.lst (ws.take (ws.length - n))) := upd_same
      have hP3 : (upd (upd H2 p (.lst (ws.drop (ws.length - n)).reverse)) d (.lst (ws.take (ws.length - n)))) p = some (.lst (ws.drop (ws.length - n)).reverse) := by rw [upd_ne hpd.symm, upd_same]
      refine ⟨_, rfl, .inl ⟨rfl, _, SqL.of hD3⟩, _, rfl, _, rfl, p, _, rfl, .inr (SqL.of hP3), ?_⟩
      refine ⟨small5 ?_, fun tp htp => ?_⟩
      · show ((V.str f) :: ((ws.drop (ws.length - n)).reverse ++ [])).length ≤ _
        rw [List.length_cons, List.append_nil, List.length_reverse, List.length_drop]
        omega
      have e4 := Ex.new (o := HO.tup ((V.str f) :: ((ws.drop (ws.length - n)).reverse ++ []))) htp
      have hD4 := e4 d _ hD3
      refine ⟨d, _, _, rfl, rfl, hD4, small5' ?_, _, _, _, _, rfl, ?_, upd_same, ?_⟩
      · rw [List.length_take]
        omega
      · have e5 : Ex H (upd (upd H2 p (.lst (ws.drop (ws.length - n)).reverse)) d (.lst (ws.take (ws.length - n)))) := Ex.mut (e1.trans e2) hd
        exact Ex.mut (e5.trans e4) hd
      · have t4 : Tups K H2 (upd (upd (upd (upd H2 p (.lst (ws.drop (ws.length - n)).reverse)) d (.lst (ws.take (ws.length - n)))) tp (.tup ((V.str f) :: ((ws.drop (ws.length - n)).reverse ++ [])))) d (.lst (ws.take (ws.length - n) ++ [V.ref tp]))) := (t2.trans (Tups.of e4)).trans (Tups.lst hD4)
        show Reps K _ (DD.take (DD.length - n) ++ [Tm.comp f (DD.drop (DD.length - n)).reverse]) _
        rw [hl1]
        refine Reps.app ((hR.take _).mono t4) (Reps.one ?_)
        unfold Rep
        refine ⟨tp, (ws.drop (ws.length - n)).reverse, rfl, ?_, ((hR.drop _).rev).mono t4⟩
        refine SqT.of ?_
        rw [upd_ne (ne_of_none hD3 htp).symm, upd_same, List.append_nil]
  · rintro σ' H' ⟨x2, x3, x4, ws, rfl, e1, hD, hR⟩
    rw [← hlen, Nat.sub_self, List.drop_zero, hfold] at hR
    obtain ⟨v, vs2, rfl, hv, hnil⟩ := hR.cons_inv
    refine ⟨_, rfl, d, _, 0, v, rfl, rfl, SqL.of hD, at0, q v _ e1 hv⟩
end
end Hm

set_option Elab.async false
set_option linter.all false
set_option maxRecDepth 100000
set_option maxHeartbeats 4000000
namespace Hm
open PySem PySem.Spec PyProof.Rows L2 HT
open Evl (Ex)
/-- a dict comprehension over a walk -/
theorem dc_it {J : It} {n : Nat} {G : Hp → Prop} {Y : Nat → Hp → V → Hp → Prop} (w : Walk J n G Y) {g : TG} {tt : TT} {tk tv : TE} {vs : List Nat} {σ : L2.St} {H1 : Hp} {D : Addr} {Qd : Hp → Prop} (Pv : Nat → Hp → Prop) (h0 : Pv 0 (upd H1 D (.dK []))) (hG : ∀ i H, i ≤ n → Pv i H → G H)
    (hs : ∀ i x H H', i < n → Pv i H → Y i H x H' → g x (wipe σ vs) H' fun σ2 H2 => wipe σ2 vs = wipe σ vs ∧ tt σ2 H2 fun b H3 =>
      if b = true then tk σ2 H3 fun y H4 => tv σ2 H4 fun z H5 => ∃ kvs k, y = kV k ∧ H5 D = some (.dK kvs) ∧ kvs.length < sizeLine ∧ Pv (i + 1) (upd H5 D (.dK (putK kvs k z))) else Pv (i + 1) H3) (hd : ∀ H, Pv n H → Qd H) :
    ∃ W : Nat → Nat → Hp → Prop, (∃ m, W 0 m (upd H1 D (.dK []))) ∧ ∀ i m H, W i m H →
      (J.stop i H ∧ Qd H) ∨ (J.go i H ∧ ∃ Nx : Hp → Prop, (∀ H', Nx H' → ∃ m', m' < m ∧ W (i + 1) m' H') ∧ ∀ x H', J.yld i H x H' → g x (wipe σ vs) H' fun σ2 H2 => wipe σ2 vs = wipe σ vs ∧ tt σ2 H2 fun b H3 =>
        if b = true then tk σ2 H3 fun y H4 => tv σ2 H4 fun z H5 => ∃ kvs k, y = kV k ∧ H5 D = some (.dK kvs) ∧ kvs.length < sizeLine ∧ Nx (upd H5 D (.dK (putK kvs k z))) else Nx H3) := by
  refine ⟨fun i m H => m = n - i ∧ i ≤ n ∧ Pv i H, ⟨n, by simp, Nat.zero_le _, h0⟩, ?_⟩
  rintro i m H ⟨rfl, hi, p⟩
  have q := hG i H hi p
  by_cases hlt : i < n
  · exact .inr ⟨w.goes i H hlt q, Pv (i + 1), fun H' p' => ⟨n - (i + 1), by omega, rfl, hlt, p'⟩, fun x H' y => hs i x H H' hlt p (w.yields i H x H' hlt q y)⟩
  · have e : i = n := by omega
    subst e
    exact .inl ⟨w.stops H q, hd H p⟩
/-! ### a table for variables -/
def TabRep (K : PySem.W.Frag) (H : Hp) (d : Addr) (g : Int → Tm) : Prop := ∃ kvs, Rd H d (.dK kvs) ∧ ∀ k : Int, (∀ u, valV kvs (Sum.inl k : Key) = some u → Rep K H (g k) u) ∧ (valV kvs (Sum.inl k : Key) = none → g k = .var k)
theorem TabRep.mono {K : PySem.W.Frag} {H H' : Hp} {d : Addr} {g : Int → Tm} (e : Ex H H') (h : TabRep K H d g) : TabRep K H' d g := by
  obtain ⟨kvs, h1, h2⟩ := h
  exact ⟨kvs, Evl.ex_rd e h1, fun k => ⟨fun u hu => ((h2 k).1 u hu).mono (Tups.of e), (h2 k).2⟩⟩
/-! ### numbers as keys of a dict -/
def mkD (acc : List Int) : List (Key × V) := acc.map fun k => ((Sum.inl k : Key), V.bl true)
theorem mkD_val : ∀ (acc : List Int) (k : Int), valV (mkD acc) (Sum.inl k : Key) = if k ∈ acc then some (.bl true) else none
  | [], k => by simp [mkD, valV]
  | a :: acc, k => by
    have ih := mkD_val acc k
    by_cases e : a = k
    · subst e
      show valV (((Sum.inl a : Key), V.bl true) :: mkD acc) (Sum.inl a) = _
      rw [valV_pos rfl, if_pos List.mem_cons_self]
    · show valV (((Sum.inl a : Key), V.bl true) :: mkD acc) (Sum.inl k) = _
      rw [valV_neg (by intro z; injection z with z; exact e z), ih]
      by_cases m : k ∈ acc
      · rw [if_pos m, if_pos (List.mem_cons_of_mem _ m)]
      · rw [if_neg m, if_neg]
        intro z
        rcases List.mem_cons.mp z with z | z
        · exact e z.symm
        · exact m z
theorem mkD_put (acc : List Int) (k : Int) : putK (mkD acc) (Sum.inl k : Key) (.bl true) = mkD (addNew acc k) := by
  unfold addNew
  by_cases m : k ∈ acc
  · rw [if_pos m]
    have h1 : ((mkD acc).any fun kv => decide (kv.1 = (Sum.inl k : Key))) = true := by
      rw [valV_any, mkD_val, if_pos m]
      rfl
    unfold putK
    rw [if_pos h1]
    unfold mkD
    rw [List.map_map]
    apply List.map_congr_left
    intro a _
    show (if (Sum.inl a : Key) = Sum.inl k then ((Sum.inl a : Key), V.bl true) else ((Sum.inl a : Key), V.bl true)) = _
    split <;> rfl
  · rw [if_neg m, putK_new _ (by rw [mkD_val, if_neg m])]
    unfold mkD
    rw [List.map_append]
    rfl
theorem fold_take_succ {α β : Type} (f : α → β → α) (a : α) {l : List β} {i : Nat} {x : β} (h : l[i]? = some x) : (l.take (i + 1)).foldl f a = f ((l.take i).foldl f a) x := by
  rw [List.take_add_one, h]
  simp
section
variable {P : Program} {w : World} {K : PySem.W.Frag} {mg : Str → Option Value} {base : Heap}
def spReplaced (K : PySem.W.Frag) : Sp := fun vs H Q _ => ∃ v t d g, vs = [v, .ref d] ∧ Rep K H t v ∧ Ok t ∧ size t ≤ 50000 ∧ TabRep K H d g ∧ ∀ u H', Ex H H' → Rep K H' (sub g t) u → Q u H'
theorem ok_replaced (T : Tx K mg) : FnOk P w K mg base CX0 3 T.f_replaced T.d_replaced ["term", "table"] (spReplaced K) := by
  refine T.h_replaced.F.ok sc_replaced (fun vs H Q E h => ?_) (fun cdv A outer s H vs Q E hr h => ?_)
  · obtain ⟨v, t, _, _, rfl, _⟩ := h
    rfl
  obtain ⟨v, t, d, g, rfl, hR, hO, hz, hTab, q⟩ := h
  have hu := hu_of hr
  refine ⟨_, (pss_cons (ps_set (i := 2) sc_replaced.nd rfl (Or.inl rfl) (pe_lst pa_nil))
    (pss_cons (ps_for PassesOwn.never rfl (pi_list (cl (ok_parts_of T) T.h_parts_of hr (pa_cons (pv 0) pa_nil))) (pg_name (i := 3) sc_replaced.nd rfl (Or.inl rfl))
      (pss_one (ps_if (pt_val (cl (ok_is_variable T) T.h_is_variable hr (pa_cons (pv 3) pa_nil)))
      (pss_one (ps_expr (pe_bm PySem.F.plainAttrs_list PySem.F.slot_list_append PySem.F.type_list_append mt_append (pv 2) (pa_cons (pe_tup (pa_cons (pe_dget2 hu (pv 1) (pe_ix ix_tup (pv 3) pe_int (fun _ _ => rfl)) (pv 3) ⟨rfl, rfl, rfl, rfl⟩) (pa_cons pe_int pa_nil))) pa_nil))))
      (pss_one (ps_if (pt_val (pe_callB call_isi rfl T.b_isinstance (by decide +kernel) (pa_cons (pv 3) (pa_cons (pe_bltn (v := .ty "tuple") (u := .type "tuple") rfl T.b_tuple (by decide +kernel) rfl) pa_nil))))
      (pss_one (ps_expr (pe_bm PySem.F.plainAttrs_list PySem.F.slot_list_append PySem.F.type_list_append mt_append (pv 2) (pa_cons (pe_tup (pa_cons (pe_ix ix_tup (pv 3) pe_int (fun _ _ => rfl)) (pa_cons (pe_op op_sub (pe_callB call_len_seq rfl T.b_len (by decide +kernel) (pa_cons (pv 3) pa_nil)) pe_int) pa_nil))) pa_nil))))
      (pss_one (ps_expr (pe_bm PySem.F.plainAttrs_list PySem.F.slot_list_append PySem.F.type_list_append mt_append (pv 2) (pa_cons (pe_tup (pa_cons (pv 3) (pa_cons pe_int pa_nil))) pa_nil)))))))))
    (pss_one (ps_ret (cl (ok_folded T) T.h_folded hr (pa_cons (pv 2) pa_nil)))))), ?_⟩
  refine ⟨Nat.zero_le _, fun rr hrr => ?_⟩
  have e0 : Ex H (upd H rr (.lst [])) := Ex.new hrr
  refine ⟨_, rfl, v, t, rfl, hR.mono (Tups.of e0), hz, fun pl ps H1 hpl e1 hL hPs => ?_⟩
  have hne : rr ≠ pl := ne_of_none upd_same hpl
  have hlen := hPs.len
  rw [len_pre] at hlen
  refine ⟨pl, rfl, ⟨ps, SqL.of hL⟩, for_list (fun i σ' H' => ∃ x rs, σ' = [some v, some (.ref d), some (.ref rr), x] ∧ Ex H H' ∧ Tups K H1 H' ∧ H' pl = some (.lst ps) ∧ H' rr = some (.lst rs) ∧ RwReps K H' (((pre t).take i).map (rw1 g)) rs)
    ⟨none, [], rfl, e0.trans e1, Tups.refl _, hL, e1 rr _ upd_same, rfl⟩ (fun i σ' H' _ ⟨_, _, _, _, _, h, _⟩ => SqL.of h) ?_ ?_⟩
  · rintro i x σ' H' hx ⟨x3, rs, rfl, e2, tu, hp, hrs, hRw⟩
    obtain ⟨ti, hti, hrep⟩ := (hPs.mono tu).get hx
    have hOi := oks_get (ok_pre hO) hti
    have hi : i < size t := by
      rw [← len_pre]
      exact (List.getElem?_eq_some_iff.mp hti).1
    have hrl := hRw.len
    rw [List.length_map, List.length_take, len_pre] at hrl
    refine ⟨_, rfl, x, ti, rfl, hrep, hOi, _, rfl, ?_⟩
    rw [tk_succ (rw1 g) hti]
    cases ti with
    | var k =>
      unfold Rep at hrep
      obtain ⟨a, rfl, hT⟩ := hrep
      obtain ⟨kvs, hkv, hval⟩ := hTab.mono e2
      have hres : Rep K H' (g k) ((valV kvs (Sum.inl k : Key)).getD (.ref a)) := by
        cases hv : valV kvs (Sum.inl k : Key) with
        | some u => exact (hval k).1 u hv
        | none =>
          rw [(hval k).2 hv]
          unfold Rep
          exact ⟨a, rfl, hT⟩
      refine iteT ⟨_, rfl, .inl ⟨rfl, _, SqL.of hrs⟩, _, rfl, d, rfl, .inl ⟨kvs, hkv⟩, _, rfl, a, _, 0, _, rfl, rfl, hT, at0, _, rfl, _, .inl ⟨kvs, Sum.inl k, hkv, rfl, rfl⟩, ?_⟩
      refine ⟨(by show 2 ≤ sizeLine; decide), fun tp htp => ?_⟩
      have e3 := Ex.new (o := HO.tup [(valV kvs (Sum.inl k : Key)).getD (.ref a), .int 0]) htp
      have hrs2 := e3 rr _ hrs
      have t3 : Tups K H' (upd (upd H' tp (.tup [(valV kvs (Sum.inl k : Key)).getD (.ref a), .int 0])) rr (.lst (rs ++ [V.ref tp]))) := (Tups.of e3).trans (Tups.lst hrs2)
      refine ⟨rr, rs, _, rfl, rfl, hrs2, small5' (by omega), _, _, rfl, Ex.mut (e2.trans e3) hrr, tu.trans t3, ?_, upd_same, RwReps.app (hRw.mono t3) ⟨_, [], rfl, ⟨tp, (valV kvs (Sum.inl k : Key)).getD (.ref a), rfl, SqT.of ?_, ?_⟩, rfl⟩⟩
      · rw [upd_ne hne.symm]
        exact e3 pl _ hp
      · rw [upd_ne (ne_of_none hrs htp).symm, upd_same]
      · exact hres.mono t3
    | int n =>
      have hrep' := hrep
      unfold Rep at hrep'
      subst hrep'
      refine iteF ⟨_, rfl, _, _, _, _, false, rfl, .ty "tuple", .base (.int n), kit_ty (by decide +kernel), false, rfl, iteF ?_⟩
      refine ⟨_, rfl, .inl ⟨rfl, _, SqL.of hrs⟩, _, rfl, (by show 2 ≤ sizeLine; decide), fun tp htp => ?_⟩
      have e3 := Ex.new (o := HO.tup [.int n, .int 0]) htp
      have hrs2 := e3 rr _ hrs
      have t3 : Tups K H' (upd (upd H' tp (.tup [.int n, .int 0])) rr (.lst (rs ++ [V.ref tp]))) := (Tups.of e3).trans (Tups.lst hrs2)
      refine ⟨rr, rs, _, rfl, rfl, hrs2, small5' (by omega), _, _, rfl, Ex.mut (e2.trans e3) hrr, tu.trans t3, ?_, upd_same, RwReps.app (hRw.mono t3) ⟨_, [], rfl, ⟨tp, .int n, rfl, SqT.of ?_, ?_⟩, rfl⟩⟩
      · rw [upd_ne hne.symm]
        exact e3 pl _ hp
      · rw [upd_ne (ne_of_none hrs htp).symm, upd_same]
      · unfold Rep
        rfl
    | atom n =>
      have hrep' := hrep
      unfold Rep at hrep'
      subst hrep'
      refine iteF ⟨_, rfl, _, _, _, _, false, rfl, .ty "tuple", .base (.str n), kit_ty (by decide +kernel), false, rfl, iteF ?_⟩
      refine ⟨_, rfl, .inl ⟨rfl, _, SqL.of hrs⟩, _, rfl, (by show 2 ≤ sizeLine; decide), fun tp htp => ?_⟩
      have e3 := Ex.new (o := HO.tup [.str n, .int 0]) htp
      have hrs2 := e3 rr _ hrs
      have t3 : Tups K H' (upd (upd H' tp (.tup [.str n, .int 0])) rr (.lst (rs ++ [V.ref tp]))) := (Tups.of e3).trans (Tups.lst hrs2)
      refine ⟨rr, rs, _, rfl, rfl, hrs2, small5' (by omega), _, _, rfl, Ex.mut (e2.trans e3) hrr, tu.trans t3, ?_, upd_same, RwReps.app (hRw.mono t3) ⟨_, [], rfl, ⟨tp, .str n, rfl, SqT.of ?_, ?_⟩, rfl⟩⟩
      · rw [upd_ne hne.symm]
        exact e3 pl _ hp
      · rw [upd_ne (ne_of_none hrs htp).symm, upd_same]
      · unfold Rep
        rfl
    | comp f as =>
      unfold Rep at hrep
      obtain ⟨a, ws, rfl, hT, hA⟩ := hrep
      have hl2 := hA.len
      refine iteF ⟨_, rfl, _, _, _, _, true, rfl, .ty "tuple", tyx_tup hT, kit_ty (by decide +kernel), true, rfl, iteT ?_⟩
      refine ⟨_, rfl, .inl ⟨rfl, _, SqL.of hrs⟩, _, rfl, a, _, 0, _, rfl, rfl, hT, at0, _, rfl, a, _, rfl, .inr hT, _, _, rfl, rfl, (by show 2 ≤ sizeLine; decide), fun tp htp => ?_⟩
      have en : ((V.str f :: ws).length : Int) - 1 = (as.length : Int) := by
        rw [List.length_cons]
        omega
      have e3 := Ex.new (o := HO.tup [.str f, .int (((V.str f :: ws).length : Int) - 1)]) htp
      have hrs2 := e3 rr _ hrs
      have t3 : Tups K H' (upd (upd H' tp (.tup [.str f, .int (((V.str f :: ws).length : Int) - 1)])) rr (.lst (rs ++ [V.ref tp]))) := (Tups.of e3).trans (Tups.lst hrs2)
      refine ⟨rr, rs, _, rfl, rfl, hrs2, small5' (by omega), _, _, rfl, Ex.mut (e2.trans e3) hrr, tu.trans t3, ?_, upd_same, RwReps.app (hRw.mono t3) ⟨_, [], rfl, ⟨tp, rfl, SqT.of ?_⟩, rfl⟩⟩
      · rw [upd_ne hne.symm]
        exact e3 pl _ hp
      · rw [upd_ne (ne_of_none hrs htp).symm, upd_same]
        exact congrArg (fun z => some (HO.tup [V.str f, V.int z])) en
  · rintro σ' H' ⟨x3, rs, rfl, e2, tu, hp, hrs, hRw⟩
    rw [← hlen, List.take_of_length_le (by rw [len_pre]; exact Nat.le_refl _), row_pre] at hRw
    have hl3 : (rowOf g t).length = size t := by rw [← row_pre, List.length_map, len_pre]
    refine ⟨_, rfl, rr, _, rs, sub g t, rfl, SqL.of hrs, hRw, ?_, rooms_row g t [] hO, by omega, fun u H2 e3 hu => q u H2 (e2.trans e3) hu⟩
    rw [fold_row]
    rfl

/-! ### numbers_in -/
def spNums (K : PySem.W.Frag) : Sp := fun vs H Q _ => ∃ v t, vs = [v] ∧ Rep K H t v ∧ Ok t ∧ size t ≤ 50000 ∧ ∀ p H', H p = none → Ex H H' → H' p = some (.lst ((varsOf t).map V.int)) → Q (.ref p) H'
theorem ok_numbers_in (T : Tx K mg) : FnOk P w K mg base CX0 3 T.f_numbers_in T.d_numbers_in ["term"] (spNums K) := by
  refine T.h_numbers_in.F.ok sc_numbers_in (fun vs H Q E h => ?_) (fun cdv A outer s H vs Q E hr h => ?_)
  · obtain ⟨v, t, rfl, _⟩ := h
    rfl
  obtain ⟨v, t, rfl, hR, hO, hz, q⟩ := h
  have hu := hu_of hr
  refine ⟨_, (pss_cons (ps_set (i := 1) sc_numbers_in.nd rfl (Or.inl rfl) pe_dnewK)
    (pss_cons (ps_for PassesOwn.never rfl (pi_list (cl (ok_parts_of T) T.h_parts_of hr (pa_cons (pv 0) pa_nil))) (pg_name (i := 2) sc_numbers_in.nd rfl (Or.inl rfl))
      (pss_one (ps_if (pt_val (cl (ok_is_variable T) T.h_is_variable hr (pa_cons (pv 2) pa_nil)))
      (pss_one (ps_dput hu (pv 1) (pe_ix ix_tup (pv 2) pe_int (fun _ _ => rfl)) pe_bl rfl))
      pss_nil)))
    (pss_one (ps_ret (pe_callTy (call_listD rfl) rfl T.b_list (by decide +kernel) (pa_cons (pv 1) pa_nil)))))), ?_⟩
  intro d hd
  have e0 : Ex H (upd H d (.dK [])) := Ex.new hd
  refine ⟨_, rfl, v, t, rfl, hR.mono (Tups.of e0), hz, fun pl ps H1 hpl e1 hL hPs => ?_⟩
  have hne : d ≠ pl := ne_of_none upd_same hpl
  have hlen := hPs.len
  rw [len_pre] at hlen
  refine ⟨pl, rfl, ⟨ps, SqL.of hL⟩, for_list (fun i σ' H' => ∃ x, σ' = [some v, some (.ref d), x] ∧ Ex H H' ∧ Tups K H1 H' ∧ H' pl = some (.lst ps) ∧ H' d = some (.dK (mkD (((pre t).take i).foldl stepVar []))))
    ⟨none, rfl, e0.trans e1, Tups.refl _, hL, e1 d _ upd_same⟩ (fun i σ' H' _ ⟨_, _, _, _, h, _⟩ => SqL.of h) ?_ ?_⟩
  · rintro i x σ' H' hx ⟨x3, rfl, e2, tu, hp, hD⟩
    obtain ⟨ti, hti, hrep⟩ := (hPs.mono tu).get hx
    have hOi := oks_get (ok_pre hO) hti
    have hi : i < size t := by
      rw [← len_pre]
      exact (List.getElem?_eq_some_iff.mp hti).1
    refine ⟨_, rfl, x, ti, rfl, hrep, hOi, _, rfl, ?_⟩
    have hfold := fold_take_succ stepVar [] hti
    cases ti with
    | var k =>
      unfold Rep at hrep
      obtain ⟨a, rfl, hT⟩ := hrep
      have hl2 := fold_len ((pre t).take i) []
      rw [List.length_nil, List.length_take] at hl2
      refine iteT ⟨_, rfl, _, rfl, a, _, 0, _, rfl, rfl, hT, at0, d, _, rfl, .inl ⟨_, Sum.inl k, hD, rfl, ?_, rfl⟩, ?_⟩
      · unfold mkD
        rw [List.length_map]
        exact small5' (by omega)
      · have t3 : Tups K H' (upd H' d (.dK (putK (mkD (((pre t).take i).foldl stepVar [])) (Sum.inl k : Key) (.bl true)))) := tups_dk hD
        refine ⟨_, rfl, Ex.mut e2 hd, tu.trans t3, ?_, ?_⟩
        · rw [upd_ne hne.symm]
          exact hp
        · rw [upd_same, hfold, mkD_put]
          rfl
    | int n => exact iteF ⟨_, rfl, e2, tu, hp, by rw [hfold]; exact hD⟩
    | atom n => exact iteF ⟨_, rfl, e2, tu, hp, by rw [hfold]; exact hD⟩
    | comp f as => exact iteF ⟨_, rfl, e2, tu, hp, by rw [hfold]; exact hD⟩
  · rintro σ' H' ⟨x3, rfl, e2, tu, hp, hD⟩
    rw [← hlen, List.take_of_length_le (by rw [len_pre]; exact Nat.le_refl _)] at hD
    refine ⟨_, rfl, d, _, rfl, .inl hD, fun p hp2 => q p _ (Evl.fresh_back e2 hp2) (e2.trans (Ex.new hp2)) ?_⟩
    rw [upd_same]
    unfold mkD
    rw [List.map_map]
    rfl
end
end Hm

set_option Elab.async false
set_option linter.all false
set_option maxRecDepth 100000
set_option maxHeartbeats 4000000
namespace Hm
open PySem PySem.Spec PyProof.Rows L2 HT
open Evl (Ex)
/-- a comprehension of two walks: the outer one -/
theorem lc2_it {J : It} {n : Nat} {G : Hp → Prop} {Y : Nat → Hp → V → Hp → Prop} (w : Walk J n G Y) {g : TG} {tt : TT} {vs : List Nat} {σ : L2.St} {H1 : Hp} {D : Addr} {Qd : Hp → Prop} {In : L2.St → Hp → (Hp → Prop) → Prop}
    (Pv : Nat → Hp → Prop) (h0 : Pv 0 (upd H1 D (.lst []))) (hG : ∀ i H, i ≤ n → Pv i H → G H)
    (hs : ∀ i x H H', i < n → Pv i H → Y i H x H' → g x (wipe σ vs) H' fun σ2 H2 => wipe σ2 vs = wipe σ vs ∧ tt σ2 H2 fun b H3 => if b = true then In σ2 H3 (Pv (i + 1)) else Pv (i + 1) H3) (hd : ∀ H, Pv n H → Qd H) :
    ∃ W : Nat → Nat → Hp → Prop, (∃ m, W 0 m (upd H1 D (.lst []))) ∧ ∀ i m H, W i m H →
      (J.stop i H ∧ Qd H) ∨ (J.go i H ∧ ∃ Nx : Hp → Prop, (∀ H', Nx H' → ∃ m', m' < m ∧ W (i + 1) m' H') ∧ ∀ x H', J.yld i H x H' → g x (wipe σ vs) H' fun σ2 H2 => wipe σ2 vs = wipe σ vs ∧ tt σ2 H2 fun b H3 => if b = true then In σ2 H3 Nx else Nx H3) := by
  refine ⟨fun i m H => m = n - i ∧ i ≤ n ∧ Pv i H, ⟨n, by simp, Nat.zero_le _, h0⟩, ?_⟩
  rintro i m H ⟨rfl, hi, p⟩
  have q := hG i H hi p
  by_cases hlt : i < n
  · exact .inr ⟨w.goes i H hlt q, Pv (i + 1), fun H' p' => ⟨n - (i + 1), by omega, rfl, hlt, p'⟩, fun x H' y => hs i x H H' hlt p (w.yields i H x H' hlt q y)⟩
  · have e : i = n := by omega
    subst e
    exact .inl ⟨w.stops H q, hd H p⟩
/-- .. the inner one -/
theorem in_it {J1 : It} {n : Nat} {G : Hp → Prop} {Y : Nat → Hp → V → Hp → Prop} (w : Walk J1 n G Y) {g1 : TG} {tt1 : TT} {te : TE} {vs1 : List Nat} {σ2 : L2.St} {H4 : Hp} {D : Addr} {Nx : Hp → Prop}
    (Pv : Nat → Hp → Prop) (h0 : Pv 0 H4) (hG : ∀ i H, i ≤ n → Pv i H → G H)
    (hs : ∀ i x H H', i < n → Pv i H → Y i H x H' → g1 x (wipe σ2 vs1) H' fun σ3 H5 => wipe σ3 vs1 = wipe σ2 vs1 ∧ tt1 σ3 H5 fun b H6 =>
        if b = true then te σ3 H6 fun y H7 => ∃ acc, H7 D = some (.lst acc) ∧ acc.length < sizeLine ∧ Pv (i + 1) (upd H7 D (.lst (acc ++ [y]))) else Pv (i + 1) H6) (hd : ∀ H, Pv n H → Nx H) :
    ∃ W1 : Nat → Nat → Hp → Prop, (∃ m, W1 0 m H4) ∧ ∀ j k H, W1 j k H →
      (J1.stop j H ∧ Nx H) ∨ (J1.go j H ∧ ∃ Nx1 : Hp → Prop, (∀ H', Nx1 H' → ∃ k', k' < k ∧ W1 (j + 1) k' H') ∧ ∀ x H', J1.yld j H x H' → g1 x (wipe σ2 vs1) H' fun σ3 H5 => wipe σ3 vs1 = wipe σ2 vs1 ∧ tt1 σ3 H5 fun b H6 =>
        if b = true then te σ3 H6 fun y H7 => ∃ acc, H7 D = some (.lst acc) ∧ acc.length < sizeLine ∧ Nx1 (upd H7 D (.lst (acc ++ [y]))) else Nx1 H6) := by
  refine ⟨fun i m H => m = n - i ∧ i ≤ n ∧ Pv i H, ⟨n, by simp, Nat.zero_le _, h0⟩, ?_⟩
  rintro i m H ⟨rfl, hi, p⟩
  have q := hG i H hi p
  by_cases hlt : i < n
  · exact .inr ⟨w.goes i H hlt q, Pv (i + 1), fun H' p' => ⟨n - (i + 1), by omega, rfl, hlt, p'⟩, fun x H' y => hs i x H H' hlt p (w.yields i H x H' hlt q y)⟩
  · have e : i = n := by omega
    subst e
    exact .inl ⟨w.stops H q, hd H p⟩
/-- a term with its variables numbered anew -/
def rg (xs : List Int) (k : Int) : Tm := if k ∈ xs then .var ((xs.idxOf k : Nat) : Int) else .var k
def renum (t : Tm) : Tm := sub (rg (varsOf t)) t
theorem idx_at {xs : List Int} (hn : xs.Nodup) {j : Nat} {k : Int} (h : xs[j]? = some k) : xs.idxOf k = j := by
  obtain ⟨hj, e⟩ := List.getElem?_eq_some_iff.mp h
  have hm : k ∈ xs := e ▸ List.getElem_mem hj
  have h2 : xs.idxOf k < xs.length := List.idxOf_lt_length_of_mem hm
  have h3 : xs[xs.idxOf k]? = some k := by
    rw [List.getElem?_eq_getElem h2, List.getElem_idxOf h2]
  exact nd_ix hn h3 h
section
variable {P : Program} {w : World} {K : PySem.W.Frag} {mg : Str → Option Value} {base : Heap}
/-- a def that may raise, where it does not -/
theorem calm {k : Nat} {f : Addr} {fd : FuncData} {ps : List Str} {sp sp0 : Sp} (F : FnOk P w K mg base (L2.CX P w) k f fd ps sp) (h : ∀ vs H Q E, sp0 vs H Q E → sp vs H Q fun _ _ _ => False) : FnOk P w K mg base CX0 k f fd ps sp0 :=
  ⟨fun vs H Q E q => F.len vs H Q _ (h vs H Q E q), fun A outer s H args us vs Q E hr he hb hv hs => codeAny_mono (F.run A outer s H args us vs Q _ hr he hb hv (h vs H Q E hs)) fun r s' z => by
    cases r with
    | ok fl => cases fl <;> exact z
    | error e =>
      obtain ⟨_, _, _, _, _, _, _, _, _, _, _, _, z⟩ := z
      exact z⟩
def spDem0 (K : PySem.W.Frag) : Sp := fun vs H Q _ => ∃ v t, vs = [v] ∧ Rep K H t v ∧ Ok t ∧ size t ≤ 1400 ∧ ∀ u H', Ex H H' → Q u H'
theorem ok_dem0 (T : Tx K mg) : FnOk P w K mg base CX0 5 T.f_demand_term T.d_demand_term ["term"] (spDem0 K) := calm (ok_demand_term T) fun vs H Q E ⟨v, t, e, hR, hO, hz, q⟩ =>
  ⟨v, odT t, e, od_rep hR, by have := sizeD_tm hO; omega, fun _ u H' e2 => q u H' e2, fun z => by rw [isT_tm hO] at z; cases z⟩
def spRen (K : PySem.W.Frag) : Sp := fun vs H Q _ => ∃ v t, vs = [v] ∧ Rep K H t v ∧ Ok t ∧ size t ≤ 1400 ∧ ∀ u H', Ex H H' → Rep K H' (renum t) u → Q u H'
theorem putK_len (kvs : List (Key × V)) (k : Key) (v : V) : (putK kvs k v).length ≤ kvs.length + 1 := by
  unfold putK
  split
  · rw [List.length_map]
    omega
  · rw [List.length_append, List.length_singleton]
    exact Nat.le_refl _
theorem ok_renumbered (T : Tx K mg) : FnOk P w K mg base CX0 6 T.f_renumbered T.d_renumbered ["term"] (spRen K) := by
  refine T.h_renumbered.F.ok sc_renumbered (fun vs H Q E h => ?_) (fun cdv A outer s H vs Q E hr h => ?_)
  · obtain ⟨v, t, rfl, _⟩ := h
    rfl
  obtain ⟨v, t, rfl, hR, hO, hz, q⟩ := h
  refine ⟨_, (pss_cons (ps_expr (cl (ok_dem0 T) T.h_demand_term hr (pa_cons (pv 0) pa_nil)))
    (pss_one (ps_ret (cl (ok_replaced T) T.h_replaced hr (pa_cons (pv 0) (pa_cons (pe_dc (own := [("place", 1), ("k", 2)]) (g := gTup K 2 (gCons (gName 1) (gCons (gName 2) gNil))) rfl sc_renumbered.nd (pi_enum rfl T.b_enumerate (pa_cons (cl (ok_numbers_in T) T.h_numbers_in hr (pa_cons (pv 0) pa_nil)) pa_nil)) (blkOk_by (own := [("place", 1), ("k", 2)]) (N := ["term", "place", "k"]) (sc := defScope s_renumbered) (by decide +kernel)) (fun _ _ _ _ _ => pg_tup rfl (pgs_cons (pg_name (i := 1) sc_renumbered.nd rfl (Or.inl rfl)) (pgs_cons (pg_name (i := 2) sc_renumbered.nd rfl (Or.inl rfl)) pgs_nil))) (fun _ _ _ _ _ => pts_nil) (fun _ _ _ _ _ => (pv 2)) (fun _ _ _ _ _ => (pe_tup (pa_cons (pv 1) pa_nil)))) pa_nil)))))), ?_⟩
  have hz' : size t ≤ 50000 := by omega
  refine ⟨_, rfl, v, t, rfl, hR, hO, hz, fun _ H1 e1 => ?_⟩
  refine ⟨_, rfl, _, rfl, v, t, rfl, hR.mono (Tups.of e1), hO, hz', fun pl H2 hpl e2 hL => ?_⟩
  have hnd := varsOf_nodup t
  have hvl := varsOf_len t
  generalize hxs : varsOf t = xs at *
  refine ⟨pl, xs.map V.int, rfl, SqL.of hL, fun D hD => dc_it walk_enum (fun i H' => Ex H2 H' ∧ ∃ kvs, H' D = some (.dK kvs) ∧ kvs.length ≤ i ∧
      (∀ k u, valV kvs (Sum.inl k : Key) = some u → ∃ j : Nat, j < i ∧ xs[j]? = some k ∧ Rep K H' (.var (j : Int)) u) ∧ (∀ k, valV kvs (Sum.inl k : Key) = none → ∀ j : Nat, j < i → xs[j]? ≠ some k))
    ⟨Ex.new hD, [], upd_same, Nat.le_refl _, fun k u h => by simp [valV] at h, fun k _ j hj => absurd hj (Nat.not_lt_zero _)⟩ (fun i H' _ h => Evl.ex_l h.1 (SqL.of hL)) ?_ ?_⟩
  · rintro i x H3 H4 hi ⟨e3, kvs, hK, hkl, hk1, hk2⟩ ⟨TT, x1, x2, rfl, hTT, rfl, hx1, hx2⟩
    have e4 := Ex.new (o := HO.tup [x1, x2]) hTT
    have hx1' : x1 = .int (i : Int) := (Option.some.inj hx1).symm
    subst hx1'
    rw [List.length_map] at hi
    obtain ⟨k, hk, rfl⟩ : ∃ k, xs[i]? = some k ∧ x2 = .int k := by
      have hx3 : (xs.map V.int)[i]? = some x2 := hx2
      rw [List.getElem?_map, List.getElem?_eq_getElem hi] at hx3
      rw [List.getElem?_eq_getElem hi]
      exact ⟨_, rfl, (Option.some.inj hx3).symm⟩
    refine ⟨TT, _, rfl, SqT.of upd_same, rfl, _, _, rfl, _, _, rfl, rfl, rfl, yesI ⟨_, rfl, _, rfl, (by show 1 ≤ sizeLine; decide), fun tp htp => ?_⟩⟩
    have e5 := Ex.new (o := HO.tup [V.int (i : Int)]) htp
    have hK5 := e5 D _ (e4 D _ hK)
    refine ⟨kvs, Sum.inl k, rfl, hK5, small5' (by omega), Ex.mut ((e3.trans e4).trans e5) hD, _, upd_same, Nat.le_trans (putK_len _ _ _) (by omega), fun k' u hu => ?_, fun k' hn j hj => ?_⟩
    · have tK : Tups K H3 (upd (upd (upd H3 TT (.tup [.int (i : Int), .int k])) tp (.tup [V.int (i : Int)])) D (.dK (putK kvs (Sum.inl k : Key) (.ref tp)))) := ((Tups.of e4).trans (Tups.of e5)).trans (tups_dk hK5)
      rw [valV_put] at hu
      by_cases hkk : (Sum.inl k' : Key) = Sum.inl k
      · rw [if_pos hkk] at hu
        injection hkk with hkk
        subst hkk
        have := Option.some.inj hu
        subst this
        refine ⟨i, Nat.lt_succ_self _, hk, ?_⟩
        unfold Rep
        refine ⟨tp, rfl, SqT.of ?_⟩
        rw [upd_ne (ne_of_none (e4 D _ hK) htp).symm, upd_same]
      · rw [if_neg hkk] at hu
        obtain ⟨j, hj, h1, h2⟩ := hk1 k' u hu
        exact ⟨j, by omega, h1, h2.mono tK⟩
    · rw [valV_put] at hn
      by_cases hkk : (Sum.inl k' : Key) = Sum.inl k
      · rw [if_pos hkk] at hn
        cases hn
      · rw [if_neg hkk] at hn
        by_cases hji : j = i
        · subst hji
          rw [hk]
          intro z
          exact hkk (by rw [Option.some.inj z])
        · exact hk2 k' hn j (by omega)
  · rintro H3 ⟨e3, kvs, hK, hkl, hk1, hk2⟩
    rw [List.length_map] at hk1 hk2
    refine ⟨v, t, D, rg xs, rfl, ((hR.mono (Tups.of e1)).mono (Tups.of e2)).mono (Tups.of e3), hO, hz', ⟨kvs, .inl hK, fun k => ⟨fun u hu => ?_, fun hn => ?_⟩⟩, fun u H4 e4 hu => q u H4 (((e1.trans e2).trans e3).trans e4) ?_⟩
    · obtain ⟨j, hj, h1, h2⟩ := hk1 k u hu
      have hm : k ∈ xs := List.mem_of_getElem? h1
      unfold rg
      rw [if_pos hm, idx_at hnd h1]
      exact h2
    · have hm : ¬ k ∈ xs := fun hm => by
        obtain ⟨j, hj, h1⟩ := List.getElem_of_mem hm
        exact hk2 k hn j hj (by rw [List.getElem?_eq_getElem hj, h1])
      unfold rg
      rw [if_neg hm]
    · unfold renum
      rw [hxs]
      exact hu
/-- the arguments of a term stay where they were told -/
theorem reps_vals {K : PySem.W.Frag} {H H' : Hp} {ts : List Tm} {ws : List V} (h : Reps K H ts ws) (e : Tups K H H') : Reps K H' ts ws := h.mono e
end
end Hm

set_option Elab.async false
set_option linter.all false
set_option maxRecDepth 100000
set_option maxHeartbeats 4000000
namespace Hm
open PySem PySem.Spec PyProof.Rows L2 HT
open Evl (Ex)
/-! ## two more operators -/
def CPowW (i j : Int) : Prop := 0 ≤ j ∧ (Builtin.Int.intBits i : Int) * j ≤ 2 ^ 27
def rMulS : R2 := fun x y H Q => ∃ z k, x = .str z ∧ y = .int k ∧ 2 ≤ k ∧ k ≤ 1000 ∧ z.length = 1 ∧ (⟨(List.replicate k.toNat z.cps).foldl (· ++ ·) #[]⟩ : Str).length ≤ sizeLine ∧ Q (.str ⟨(List.replicate k.toNat z.cps).foldl (· ++ ·) #[]⟩) H
section
variable {X : Cx}
theorem op_powW : OpR X (binaryOp .Pow) (rI CPowW fun i j => .int (i ^ j.toNat)) := opI fun _ _ _ _ _ _ _ hc q => pow_int hc.1 hc.2 q
theorem op_mulS : OpR X (binaryOp .Mult) rMulS := by
  intro pins s σ H x y v u Q I rx ry h
  obtain ⟨z, k, rfl, rfl, h1, h2, hz, hl, q⟩ := h
  obtain ⟨t, rfl⟩ := rx
  obtain ⟨t', rfl⟩ := ry
  have hk : ¬ k < 1 := by omega
  have hk1 : ¬ ((k == 1 || z.length == 0) = true) := by
    rw [Bool.or_eq_true]
    rintro (e | e)
    · have := eq_of_beq e
      omega
    · have := eq_of_beq e
      omega
  refine PySem.P.mul_str ?_ (fun _ _ => ?_) (fun _ _ => ?_) ?_
  · rw [decide_eq_false (by omega), decide_eq_false (by omega)]
    rfl
  · rw [hz]
    have : (2 ^ 63 - 1 : Int) / k ≥ 1 := (Int.le_ediv_iff_mul_le (by omega)).mpr (by omega)
    omega
  · rw [hz]
    unfold Builtin.Str.tooLong
    exact decide_eq_false (by rw [sizeLine_eq]; omega)
  · rw [if_neg hk, if_neg hk1]
    exact ⟨hl, ⟨.str _, H, I.tok _, ⟨_, rfl⟩, q⟩⟩
end
/-! ## draws: a well is a list of three numbers that changes; what is drawn is any number that may come -/
/-- so many draws more may come -/
def Well (b : Nat) (H : Hp) (a : Addr) : Prop := ∃ x y z : Int, H a = some (.lst [.int x, .int y, .int z]) ∧ 0 ≤ z ∧ z + (b : Int) ≤ 1000000
theorem Well.le {b c : Nat} {H : Hp} {a : Addr} (h : Well b H a) (n : c ≤ b) : Well c H a := by
  obtain ⟨x, y, z, h, h1, h2⟩ := h
  exact ⟨x, y, z, h, h1, by omega⟩
/-- all but the well is as it was -/
structure Dr (b : Nat) (a : Addr) (H H' : Hp) : Prop where
  well : Well b H' a
  keep : ∀ c o, c ≠ a → H c = some o → H' c = some o
theorem Dr.le {b c : Nat} {a : Addr} {H H' : Hp} (h : Dr b a H H') (n : c ≤ b) : Dr c a H H' := ⟨h.well.le n, h.keep⟩
theorem Dr.ex {b : Nat} {a : Addr} {H H' : Hp} (h : Well b H a) (e : Ex H H') : Dr b a H H' := by
  obtain ⟨x, y, z, h, h1, h2⟩ := h
  exact ⟨⟨x, y, z, e _ _ h, h1, h2⟩, fun b o _ q => e b o q⟩
theorem Dr.trans {b c : Nat} {a : Addr} {H H1 H2 : Hp} (p : Dr b a H H1) (q : Dr c a H1 H2) : Dr c a H H2 := ⟨q.well, fun b o n h => q.keep b o n (p.keep b o n h)⟩
theorem Dr.tups {K : PySem.W.Frag} {b c : Nat} {a : Addr} {H H' : Hp} (h : Well b H a) (d : Dr c a H H') : Tups K H H' := fun b ys q => by
  obtain ⟨x, y, z, h, _⟩ := h
  rcases q with (q | ⟨ob, q⟩) | q
  · exact .inl (.inl (d.keep _ _ (ne_of q h (by intro z; cases z)) q))
  · exact .inl (.inr ⟨ob, d.keep _ _ (ne_of q h (by intro z; cases z)) q⟩)
  · exact .inr q
theorem Dr.sql {K : PySem.W.Frag} {b : Nat} {a l : Addr} {xs : List V} {H H' : Hp} (d : Dr b a H H') (n : l ≠ a) (h : SqL K H l xs) : SqL K H' l xs := by
  rcases h with (h | ⟨o, h⟩) | h
  · exact .inl (.inl (d.keep _ _ n h))
  · exact .inl (.inr ⟨o, d.keep _ _ n h⟩)
  · exact .inr h
theorem Dr.upd {b : Nat} {a : Addr} {H : Hp} {x y z : Int} (h1 : 0 ≤ z) (h2 : z + (b : Int) ≤ 1000000) : Dr b a H (upd H a (.lst [.int x, .int y, .int z])) := ⟨⟨x, y, z, upd_same, h1, h2⟩, fun b o n h => by rw [upd_ne n]; exact h⟩
theorem Well.ne {b : Nat} {H : Hp} {a p : Addr} (h : Well b H a) (hp : H p = none) : p ≠ a := by
  obtain ⟨x, y, z, h, _⟩ := h
  exact (ne_of_none h hp).symm
theorem Dr.free {b c : Nat} {a p : Addr} {H H' : Hp} (h : Well c H a) (d : Dr b a H H') (hp : H' p = none) : H p = none := by
  cases hq : H p with
  | none => rfl
  | some o =>
    by_cases e : p = a
    · subst e
      obtain ⟨x, y, z, w, _⟩ := d.well
      rw [w] at hp
      cases hp
    · rw [d.keep p o e hq] at hp
      cases hp
section
variable {P : Program} {w : World} {K : PySem.W.Frag} {mg : Str → Option Value} {base : Heap}
def spDraw : Sp := fun vs H Q _ => ∃ a m b, vs = [.ref a, .int m] ∧ Well (b + 1) H a ∧ 0 < m ∧ m < 1073741824 ∧ ∀ d H', 0 ≤ d → d < m → Dr b a H H' → Q (.int d) H'
theorem mod_in {x m : Int} (h : 0 < m) : 0 ≤ x % m ∧ x % m < m := ⟨Int.emod_nonneg x (by omega), Int.emod_lt_of_pos x h⟩
theorem ok_law_draw (T : Tx K mg) : FnOk P w K mg base CX0 1 T.f_law_draw T.d_law_draw ["_law_well_here", "_law_many"] spDraw := by
  refine T.h_law_draw.F.ok sc_law_draw (fun vs H Q E h => ?_) (fun cdv A outer s H vs Q E hr h => ?_)
  · obtain ⟨v, t, b, rfl, _⟩ := h
    rfl
  obtain ⟨a, m, b, rfl, ⟨x, y, z, hW, hz0, hzb⟩, h0, h1, q⟩ := h
  refine ⟨_, (pss_cons (ps_if (pt_cmpR op_gt (pe_ix ix_list (pv 0) pe_int (fun _ _ => rfl)) pe_int (nomark _))
      (pss_cons (ps_set (i := 2) sc_law_draw.nd rfl (Or.inl rfl) (pe_op op_mod (pe_callTy call_int1 rfl T.b_int (by decide +kernel) (pa_cons (pe_ix ix_list (pv 0) pe_int (fun _ _ => rfl)) pa_nil)) (pv 1)))
    (pss_cons (ps_asg (pe_op op_fdiv (pe_ix ix_list (pv 0) pe_int (fun _ _ => rfl)) (pv 1)) (pg_sub (pv 0) pe_int set_list))
    (pss_one (ps_ret (pv 2)))))
      pss_nil)
    (pss_cons (ps_asg (pe_op op_add (pe_ix ix_list (pv 0) pe_int (fun _ _ => rfl)) pe_int) (pg_sub (pv 0) pe_int set_list))
    (pss_cons (ps_set (i := 3) sc_law_draw.nd rfl (Or.inl rfl) (pe_op op_mod (pe_callTy call_int1 rfl T.b_int (by decide +kernel) (pa_cons (pe_op op_fdivW (pe_ix ix_list (pv 0) pe_int (fun _ _ => rfl)) pe_int) pa_nil)) pe_int))
    (pss_cons (ps_set (i := 4) sc_law_draw.nd rfl (Or.inl rfl) (pe_op op_add (pe_op op_add (pe_op op_add (pe_op op_mod (pe_callTy call_int1 rfl T.b_int (by decide +kernel) (pa_cons (pe_ix ix_list (pv 0) pe_int (fun _ _ => rfl)) pa_nil)) pe_int) (pe_op op_mul pe_int (pe_ix ix_list (pv 0) pe_int (fun _ _ => rfl)))) (pv 3)) pe_int))
    (pss_cons (ps_set (i := 5) sc_law_draw.nd rfl (Or.inl rfl) (pe_op op_mod (pe_callTy call_int1 rfl T.b_int (by decide +kernel) (pa_cons (pe_op op_pow (pv 4) pe_int) pa_nil)) pe_int))
    (pss_cons (ps_set (i := 5) sc_law_draw.nd rfl (Or.inl rfl) (pe_op op_mod (pe_callTy call_int1 rfl T.b_int (by decide +kernel) (pa_cons (pe_op op_mul (pv 5) (pe_op op_add (pe_op op_add (pe_op op_fdiv (pv 5) pe_int) pe_int) (pe_ix ix_list (pv 0) pe_int (fun _ _ => rfl)))) pa_nil)) pe_int))
    (pss_one (ps_ret (pe_op op_mod (pe_callTy call_int1 rfl T.b_int (by decide +kernel) (pa_cons (pe_op op_mod (pe_callTy call_int1 rfl T.b_int (by decide +kernel) (pa_cons (pe_op op_mul (pv 5) (pe_op op_add (pe_op op_fdiv (pv 5) pe_int) pe_int)) pa_nil)) pe_int) pa_nil)) (pv 1)))))))))), ?_⟩
  refine ⟨_, rfl, a, _, 0, _, rfl, rfl, SqL.of hW, at0, _, _, rfl, rfl, _, rfl, ?_⟩
  refine ite2 (fun _ => ?_) (fun _ => ?_)
  · refine ⟨_, rfl, a, _, 0, _, rfl, rfl, SqL.of hW, at0, .inl ⟨_, rfl, _, rfl, _, _, rfl, rfl, h0, ?_⟩⟩
    refine ⟨_, rfl, a, _, 0, _, rfl, rfl, SqL.of hW, at0, _, rfl, _, _, rfl, rfl, ⟨h0, h1⟩, ?_⟩
    refine ⟨_, rfl, a, _, 0, 0, rfl, rfl, hW, rfl, ?_⟩
    refine ⟨_, rfl, q _ _ (mod_in h0).1 (mod_in h0).2 (Dr.upd hz0 (by omega))⟩
  · refine ⟨_, rfl, a, _, 2, _, rfl, rfl, SqL.of hW, rfl, _, _, rfl, rfl, ?_⟩
    refine ⟨_, rfl, a, _, 2, 2, rfl, rfl, hW, rfl, ?_⟩
    have hW2 : (upd H a (.lst ([V.int x, .int y, .int z].set 2 (.int (z + 1))))) a = some (.lst [.int x, .int y, .int (z + 1)]) := upd_same
    refine ⟨_, rfl, a, _, 1, _, rfl, rfl, SqL.of hW2, rfl, _, _, rfl, rfl, ⟨by decide, by decide +kernel⟩, .inl ⟨_, rfl, _, _, rfl, rfl, (show (0 : Int) < 65521 by decide), ?_⟩⟩
    have b0 := mod_in (x := y / 2147483629) (show (0 : Int) < 65521 by decide)
    generalize y / 2147483629 % 65521 = sa at *
    refine ⟨_, rfl, a, _, 1, _, rfl, rfl, SqL.of hW2, rfl, .inl ⟨_, rfl, _, _, rfl, rfl, (show (0 : Int) < 2147483629 by decide), ?_⟩⟩
    have b1 := mod_in (x := y) (show (0 : Int) < 2147483629 by decide)
    generalize y % 2147483629 = ya at *
    refine ⟨_, rfl, a, _, 2, _, rfl, rfl, SqL.of hW2, rfl, _, _, rfl, rfl, .inl ⟨by decide, by decide⟩, _, _, rfl, rfl, _, rfl, _, _, rfl, rfl, _, _, rfl, rfl, ?_⟩
    refine ⟨_, rfl, _, _, rfl, rfl, ⟨by decide, by decide, by omega⟩, .inl ⟨_, rfl, _, _, rfl, rfl, (show (0 : Int) < 2147483647 by decide), ?_⟩⟩
    have b2 := mod_in (x := (ya + 7919 * (z + 1) + sa + 1) ^ (5 : Int).toNat) (show (0 : Int) < 2147483647 by decide)
    generalize (ya + 7919 * (z + 1) + sa + 1) ^ (5 : Int).toNat % 2147483647 = n1 at *
    refine ⟨_, rfl, _, rfl, _, _, rfl, rfl, ⟨by decide, by decide⟩, _, _, rfl, rfl, _, rfl, a, _, 2, _, rfl, rfl, SqL.of hW2, rfl, _, _, rfl, rfl, _, _, rfl, rfl, .inl ⟨by omega, by omega⟩, .inl ⟨_, rfl, _, _, rfl, rfl, (show (0 : Int) < 2147483629 by decide), ?_⟩⟩
    have b3 := mod_in (x := n1 * (n1 / 1009 + 69621 + (z + 1))) (show (0 : Int) < 2147483629 by decide)
    generalize n1 * (n1 / 1009 + 69621 + (z + 1)) % 2147483629 = n2 at *
    refine ⟨_, rfl, _, rfl, _, _, rfl, rfl, ⟨by decide, by decide⟩, _, _, rfl, rfl, _, _, rfl, rfl, .inl ⟨by omega, by omega⟩, .inl ⟨_, rfl, _, _, rfl, rfl, (show (0 : Int) < 2147483399 by decide), .inl ⟨_, rfl, _, rfl, _, _, rfl, rfl, h0, ?_⟩⟩⟩
    exact q _ _ (mod_in h0).1 (mod_in h0).2 (Dr.upd (by omega) (by omega))
/-- one of some, any of them -/
def spOne (K : PySem.W.Frag) : Sp := fun vs H Q _ => ∃ a l xs b, vs = [.ref a, .ref l] ∧ Well (b + 1) H a ∧ l ≠ a ∧ SqL K H l xs ∧ xs ≠ [] ∧ xs.length ≤ 1000 ∧ ∀ x H', x ∈ xs → Dr b a H H' → Q x H'
theorem ok_law_one (T : Tx K mg) : FnOk P w K mg base CX0 2 T.f_law_one T.d_law_one ["_law_well_here", "_law_some"] (spOne K) := by
  refine T.h_law_one.F.ok sc_law_one (fun vs H Q E h => ?_) (fun cdv A outer s H vs Q E hr h => ?_)
  · obtain ⟨v, t, _, _, rfl, _⟩ := h
    rfl
  obtain ⟨a, l, xs, b, rfl, hW, hne, hL, hx, hz, q⟩ := h
  have hpos : 0 < xs.length := List.length_pos_iff.mpr hx
  refine ⟨_, (pss_one (ps_ret (pe_ix ix_list (pv 1) (cl (ok_law_draw T) T.h_law_draw hr (pa_cons (pv 0) (pa_cons (pe_callB call_len_seq rfl T.b_len (by decide +kernel) (pa_cons (pv 1) pa_nil)) pa_nil))) (fun _ _ => rfl)))), ?_⟩
  refine ⟨_, rfl, _, rfl, _, rfl, l, xs, rfl, .inl hL, a, _, b, rfl, hW, by omega, by omega, fun d H' h1 h2 dr => ?_⟩
  obtain ⟨k, rfl⟩ := Int.eq_ofNat_of_zero_le h1
  have hk : k < xs.length := by omega
  exact ⟨l, xs, _, xs[k], rfl, rfl, dr.sql hne hL, atI_nat (List.getElem?_eq_getElem hk), q _ _ (List.getElem_mem hk) dr⟩
end
end Hm

set_option Elab.async false
set_option linter.all false
set_option maxRecDepth 100000
set_option maxHeartbeats 1000000
namespace Hm
open PySem PySem.Spec PyProof.Rows L2 HT
open Evl (Ex)
/-! ## goals: control constructs, leaves, bodies -/
def consL : List (Str × Nat) := [(",", 2), (";", 2), ("->", 2), ("*->", 2), ("\\+", 1), ("once", 1), ("ignore", 1), ("forall", 2)]
def isCon : Tm → Bool
  | .comp f as => decide ((f, as.length) ∈ consL)
  | .var _ => false
  | .int _ => false
  | .atom _ => false
def isInt : Tm → Bool
  | .int _ => true
  | .var _ => false
  | .atom _ => false
  | .comp _ _ => false
mutual
def leaves : Tm → List Tm
  | .comp f as => if isCon (.comp f as) = true then leavesL as else [.comp f as]
  | .var k => [.var k]
  | .int i => [.int i]
  | .atom s => [.atom s]
def leavesL : List Tm → List Tm
  | [] => []
  | t :: ts => leaves t ++ leavesL ts
end
theorem leavesL_cons (t : Tm) (ts : List Tm) : leavesL (t :: ts) = leaves t ++ leavesL ts := by rw [leavesL]
theorem leavesL_nil : leavesL [] = [] := by rw [leavesL]
theorem leavesL_app : ∀ xs ys : List Tm, leavesL (xs ++ ys) = leavesL xs ++ leavesL ys
  | [], ys => by rw [leavesL_nil]; rfl
  | x :: xs, ys => by
    show leavesL (x :: (xs ++ ys)) = _
    rw [leavesL_cons, leavesL_cons, leavesL_app xs ys, List.append_assoc]
theorem leaves_con {t : Tm} (h : isCon t = true) : leaves t = leavesL t.args := by
  cases t with
  | comp f as => rw [leaves, if_pos h]; rfl
  | var k => cases h
  | int i => cases h
  | atom s => cases h
theorem leaves_not {t : Tm} (h : isCon t = false) : leaves t = [t] := by
  cases t with
  | comp f as => rw [leaves, if_neg (by rw [h]; decide)]
  | var k => rw [leaves]
  | int i => rw [leaves]
  | atom s => rw [leaves]
mutual
def body : Tm → Bool
  | .comp f as => if isCon (.comp f as) = true then bodyL as else true
  | .var _ => true
  | .int _ => false
  | .atom _ => true
def bodyL : List Tm → Bool
  | [] => true
  | t :: ts => body t && bodyL ts
end
theorem bodyL_cons (t : Tm) (ts : List Tm) : bodyL (t :: ts) = (body t && bodyL ts) := by rw [bodyL]
mutual
theorem body_leaves : ∀ t : Tm, (leaves t).any isInt = !body t
  | .comp f as => by
    by_cases h : isCon (.comp f as) = true
    · rw [leaves, if_pos h, body, if_pos h]
      exact bodyL_leaves as
    · rw [leaves, if_neg h, body, if_neg h]
      rfl
  | .var k => by rw [leaves, body]; rfl
  | .int i => by rw [leaves, body]; rfl
  | .atom s => by rw [leaves, body]; rfl
theorem bodyL_leaves : ∀ ts : List Tm, (leavesL ts).any isInt = !bodyL ts
  | [] => by rw [leavesL, bodyL]; rfl
  | t :: ts => by rw [leavesL, bodyL, List.any_append, body_leaves t, bodyL_leaves ts, Bool.not_and]
end
def wl : Tm → Tm
  | .var k => .comp "call" [.var k]
  | .int i => .int i
  | .atom s => .atom s
  | .comp f as => .comp f as
mutual
def wc : Tm → Tm
  | .comp f as => if isCon (.comp f as) = true then .comp f (wcs as) else .comp f as
  | .var k => .comp "call" [.var k]
  | .int i => .int i
  | .atom s => .atom s
def wcs : List Tm → List Tm
  | [] => []
  | t :: ts => wc t :: wcs ts
end
theorem wcs_len : ∀ ts : List Tm, (wcs ts).length = ts.length
  | [] => by rw [wcs]
  | t :: ts => by rw [wcs, List.length_cons, List.length_cons, wcs_len ts]
mutual
def wrow : Tm → List Rw
  | .comp f as => if isCon (.comp f as) = true then .node f as.length :: wrows as else [.leaf (.comp f as)]
  | .var k => [.leaf (.comp "call" [.var k])]
  | .int i => [.leaf (.int i)]
  | .atom s => [.leaf (.atom s)]
def wrows : List Tm → List Rw
  | [] => []
  | t :: ts => wrow t ++ wrows ts
end
theorem wrows_nil : wrows [] = [] := by rw [wrows]
theorem wrows_cons (t : Tm) (ts : List Tm) : wrows (t :: ts) = wrow t ++ wrows ts := by rw [wrows]
theorem wrows_app : ∀ xs ys : List Tm, wrows (xs ++ ys) = wrows xs ++ wrows ys
  | [], ys => by rw [wrows_nil]; rfl
  | x :: xs, ys => by
    show wrows (x :: (xs ++ ys)) = _
    rw [wrows_cons, wrows_cons, wrows_app xs ys, List.append_assoc]
theorem wrow_con {f : Str} {as : List Tm} (h : isCon (.comp f as) = true) : wrow (.comp f as) = .node f as.length :: wrows as := by rw [wrow, if_pos h]
theorem wrow_not {t : Tm} (h : isCon t = false) : wrow t = [.leaf (wl t)] := by
  cases t with
  | comp f as => rw [wrow, if_neg (by rw [h]; decide)]; rfl
  | var k => rw [wrow]; rfl
  | int i => rw [wrow]; rfl
  | atom s => rw [wrow]; rfl
mutual
theorem fold_wrow : ∀ (t : Tm) (D : List Tm), (wrow t).foldr turn D = D ++ [wc t]
  | .var _, _ => by rw [wrow, wc]; rfl
  | .int _, _ => by rw [wrow, wc]; rfl
  | .atom _, _ => by rw [wrow, wc]; rfl
  | .comp f as, D => by
    by_cases h : isCon (.comp f as) = true
    · rw [wrow, if_pos h, wc, if_pos h, List.foldr_cons, fold_wrows as D]
      unfold turn
      have hl : (D ++ (wcs as).reverse).length - as.length = D.length := by
        rw [List.length_append, List.length_reverse, wcs_len]
        omega
      dsimp only
      rw [hl, List.take_left' rfl, List.drop_left' rfl, List.reverse_reverse]
    · rw [wrow, if_neg h, wc, if_neg h]
      rfl
theorem fold_wrows : ∀ (ts : List Tm) (D : List Tm), (wrows ts).foldr turn D = D ++ (wcs ts).reverse
  | [], D => by rw [wrows, wcs]; simp
  | t :: ts, D => by
    rw [wrows, wcs, List.foldr_append, fold_wrows ts D, fold_wrow t, List.reverse_cons, List.append_assoc]
end
mutual
theorem rooms_wrow : ∀ (t : Tm) (D : List Tm), Ok t → Rooms (wrow t) D
  | .var _, _, _ => by rw [wrow]; exact ⟨trivial, trivial⟩
  | .int _, _, _ => by rw [wrow]; exact ⟨trivial, trivial⟩
  | .atom _, _, _ => by rw [wrow]; exact ⟨trivial, trivial⟩
  | .comp f as, D, h => by
    unfold Ok at h
    by_cases c : isCon (.comp f as) = true
    · rw [wrow, if_pos c]
      refine ⟨rooms_wrows as D h.2.2.2, h.2.1, ?_⟩
      rw [fold_wrows as D, List.length_append, List.length_reverse, wcs_len]
      omega
    · rw [wrow, if_neg c]
      exact ⟨trivial, trivial⟩
theorem rooms_wrows : ∀ (ts : List Tm) (D : List Tm), Oks ts → Rooms (wrows ts) D
  | [], _, _ => by rw [wrows]; exact trivial
  | t :: ts, D, h => by
    rw [oks_cons] at h
    rw [wrows]
    exact rooms_app.mpr ⟨rooms_wrows ts D h.2, rooms_wrow t _ h.1⟩
end
mutual
theorem wrow_len : ∀ t : Tm, (wrow t).length ≤ size t
  | .var _ => by rw [wrow]; exact Nat.le_refl _
  | .int _ => by rw [wrow]; exact Nat.le_refl _
  | .atom _ => by rw [wrow]; exact Nat.le_refl _
  | .comp f as => by
    have := wrows_len as
    rw [size]
    by_cases c : isCon (.comp f as) = true
    · rw [wrow, if_pos c, List.length_cons]
      omega
    · rw [wrow, if_neg c]
      show 1 ≤ _
      omega
theorem wrows_len : ∀ ts : List Tm, (wrows ts).length ≤ sizes ts
  | [] => by rw [wrows]; exact Nat.zero_le _
  | t :: ts => by
    have h1 := wrow_len t
    have h2 := wrows_len ts
    rw [wrows, List.length_append, sizes_cons]
    omega
end
mutual
theorem leaves_len : ∀ t : Tm, (leaves t).length ≤ size t
  | .var _ => by rw [leaves]; exact Nat.le_refl _
  | .int _ => by rw [leaves]; exact Nat.le_refl _
  | .atom _ => by rw [leaves]; exact Nat.le_refl _
  | .comp f as => by
    have := leavesL_len as
    rw [size]
    by_cases c : isCon (.comp f as) = true
    · rw [leaves, if_pos c]
      omega
    · rw [leaves, if_neg c]
      show 1 ≤ _
      omega
theorem leavesL_len : ∀ ts : List Tm, (leavesL ts).length ≤ sizes ts
  | [] => by rw [leavesL]; exact Nat.zero_le _
  | t :: ts => by
    have h1 := leaves_len t
    have h2 := leavesL_len ts
    rw [leavesL, List.length_append, sizes_cons]
    omega
end
theorem call_ok : AtomOk "call" := ⟨by decide +kernel, by decide +kernel⟩
mutual
theorem ok_wc : ∀ {t : Tm}, Ok t → Ok (wc t)
  | .var k, h => by
    rw [wc]
    unfold Ok
    exact ⟨call_ok, by show 1 ≤ 1; decide, by show 1 ≤ 8; decide, by rw [oks_cons]; exact ⟨h, trivial⟩⟩
  | .int _, h => by rw [wc]; exact h
  | .atom _, h => by rw [wc]; exact h
  | .comp f as, h => by
    by_cases c : isCon (.comp f as) = true
    · rw [wc, if_pos c]
      unfold Ok at h ⊢
      rw [wcs_len]
      exact ⟨h.1, h.2.1, h.2.2.1, ok_wcs h.2.2.2⟩
    · rw [wc, if_neg c]
      exact h
theorem ok_wcs : ∀ {ts : List Tm}, Oks ts → Oks (wcs ts)
  | [], _ => by rw [wcs]; exact trivial
  | t :: ts, h => by
    rw [oks_cons] at h
    rw [wcs, oks_cons]
    exact ⟨ok_wc h.1, ok_wcs h.2⟩
end
mutual
theorem size_wc : ∀ t : Tm, size (wc t) ≤ 2 * size t
  | .var k => by rw [wc]; show 1 + (1 + 0) ≤ 2 * 1; decide
  | .int _ => by rw [wc]; show 1 ≤ 2 * 1; decide
  | .atom _ => by rw [wc]; show 1 ≤ 2 * 1; decide
  | .comp f as => by
    have := sizes_wcs as
    by_cases c : isCon (.comp f as) = true
    · rw [wc, if_pos c, size, size]
      omega
    · rw [wc, if_neg c]
      omega
theorem sizes_wcs : ∀ ts : List Tm, sizes (wcs ts) ≤ 2 * sizes ts
  | [] => by rw [wcs]; exact Nat.zero_le _
  | t :: ts => by
    have h1 := size_wc t
    have h2 := sizes_wcs ts
    rw [wcs, sizes_cons, sizes_cons]
    omega
end
/-! ## clauses -/
def callable : Tm → Bool
  | .atom _ => true
  | .comp _ _ => true
  | .var _ => false
  | .int _ => false
def sides : Tm → Tm × Tm
  | .comp f [a, b] => if f = ":-" then (a, b) else (.comp f [a, b], .atom "true")
  | .comp f as => (.comp f as, .atom "true")
  | .var k => (.var k, .atom "true")
  | .int i => (.int i, .atom "true")
  | .atom s => (.atom s, .atom "true")
theorem true_ok : AtomOk "true" := ⟨by decide +kernel, by decide +kernel⟩
theorem neck_ok : AtomOk ":-" := ⟨by decide +kernel, by decide +kernel⟩
theorem sides_is (t : Tm) : (∃ a b, t = .comp ":-" [a, b] ∧ sides t = (a, b)) ∨ ((∀ a b, t ≠ .comp ":-" [a, b]) ∧ sides t = (t, .atom "true")) := by
  match t with
  | .comp f [a, b] =>
    by_cases h : f = ":-"
    · subst h
      refine .inl ⟨a, b, rfl, ?_⟩
      unfold sides
      exact if_pos rfl
    · refine .inr ⟨fun x y e => ?_, ?_⟩
      · injection e with e1 _
        exact h e1
      · unfold sides
        exact if_neg h
  | .comp f [] => exact .inr ⟨(fun x y e => by injection e with _ e2; cases e2), (by unfold sides; rfl)⟩
  | .comp f [a] => exact .inr ⟨(fun x y e => by injection e with _ e2; injection e2 with _ e3; cases e3), (by unfold sides; rfl)⟩
  | .comp f (a :: b :: c :: r) => exact .inr ⟨(fun x y e => by injection e with _ e2; injection e2 with _ e3; injection e3 with _ e4; cases e4), (by unfold sides; rfl)⟩
  | .var k => exact .inr ⟨(fun x y e => by cases e), (by unfold sides; rfl)⟩
  | .int i => exact .inr ⟨(fun x y e => by cases e), (by unfold sides; rfl)⟩
  | .atom s => exact .inr ⟨(fun x y e => by cases e), (by unfold sides; rfl)⟩
theorem ok_sides {t : Tm} (h : Ok t) : Ok (sides t).1 ∧ Ok (sides t).2 := by
  rcases sides_is t with ⟨a, b, rfl, e⟩ | ⟨_, e⟩
  · rw [e]
    unfold Ok at h
    have h4 := h.2.2.2
    rw [oks_cons, oks_cons] at h4
    exact ⟨h4.1, h4.2.1⟩
  · rw [e]
    exact ⟨h, true_ok⟩
theorem size_sides (t : Tm) : size (sides t).1 + size (sides t).2 ≤ size t + 1 := by
  rcases sides_is t with ⟨a, b, rfl, e⟩ | ⟨_, e⟩
  · rw [e, size, sizes_cons, sizes_cons]
    show size a + size b ≤ _
    omega
  · rw [e]
    exact Nat.le_refl _
end Hm

set_option Elab.async false
set_option linter.all false
set_option maxRecDepth 100000
set_option maxHeartbeats 1000000
namespace Hm
open PySem PySem.Spec PyProof.Rows L2 HT
open Evl (Ex)
/-! ## what stands behind the top: also the table of constructs -/
structure Ty (P : Program) (w : World) (K : PySem.W.Frag) (mg : Str → Option Value) extends Tx K mg where
  kvs : List NKV
  kn : KNd K P w a_Cons kvs
  ks : kvs.map (·.1) = consL.map fun p => kFN p.1 (p.2 : Int)
theorem valN_con {kvs : List NKV} {l : List (Str × Nat)} (h : kvs.map (·.1) = l.map fun p => kFN p.1 (p.2 : Int)) (f : Str) (n : Nat) : (valN kvs (kFN f (n : Int))).isSome = decide ((f, n) ∈ l) := by
  induction kvs generalizing l with
  | nil =>
    cases l with
    | nil => rfl
    | cons p l => cases h
  | cons e es ih =>
    cases l with
    | nil => cases h
    | cons p l =>
      rw [List.map_cons, List.map_cons] at h
      injection h with h1 h2
      have i2 := ih h2
      unfold valN at i2 ⊢
      rw [List.find?_cons]
      by_cases c : e.1 = kFN f (n : Int)
      · rw [decide_eq_true c]
        have : p = (f, n) := by
          rw [c] at h1
          obtain ⟨a, b⟩ := p
          injection h1 with h1
          injection h1 with h3 h4
          injection h4 with h4 _
          injection h3 with h3
          injection h3 with h3
          injection h4 with h4
          injection h4 with h4
          subst h3
          rw [show b = n by omega]
        rw [this]
        simp
      · rw [decide_eq_false c, i2]
        have : (f, n) ≠ p := fun z => c (by rw [h1, ← z])
        simp [this]
theorem valN_int {kvs : List NKV} {l : List (Str × Nat)} (h : kvs.map (·.1) = l.map fun p => kFN p.1 (p.2 : Int)) (k n : Int) : (valN kvs (.tup [.leaf (.inl k), .leaf (.inl n)])).isSome = false := by
  induction kvs generalizing l with
  | nil => rfl
  | cons e es ih =>
    cases l with
    | nil => cases h
    | cons p l =>
      rw [List.map_cons, List.map_cons] at h
      injection h with h1 h2
      have i2 := ih h2
      unfold valN at i2 ⊢
      rw [List.find?_cons]
      have c : ¬ e.1 = .tup [.leaf (.inl k), .leaf (.inl n)] := fun z => by
        rw [z] at h1
        injection h1 with h1
        injection h1 with h3 h4
        injection h3 with h3
        cases h3
      rw [decide_eq_false c, i2]
section
variable {P : Program} {w : World} {K : PySem.W.Frag} {mg : Str → Option Value} {base : Heap}
def isTup : Tm → Bool
  | .var _ => true
  | .comp _ _ => true
  | .int _ => false
  | .atom _ => false
def isAtom : Tm → Bool
  | .var _ => false
  | .comp _ _ => false
  | .int _ => false
  | .atom _ => true
theorem isi_tup {H : Hp} {t : Tm} {v : V} (hR : Rep K H t v) : ∃ tv, TyX K H v tv ∧ PySem.W.kitOne K tv (.type "tuple") = some (isTup t) := by
  have h := ty_od (od_rep hR)
  cases t with
  | var k => exact ⟨_, h, kit_ty (a := "tuple") (show kitB "tuple" "tuple" = some true by decide +kernel)⟩
  | int k => exact ⟨_, h, kit_ty (a := "int") (show kitB "int" "tuple" = some false by decide +kernel)⟩
  | atom k => exact ⟨_, h, kit_ty (a := "str") (show kitB "str" "tuple" = some false by decide +kernel)⟩
  | comp k as => exact ⟨_, h, kit_ty (a := "tuple") (show kitB "tuple" "tuple" = some true by decide +kernel)⟩
theorem isi_str {H : Hp} {t : Tm} {v : V} (hR : Rep K H t v) : ∃ tv, TyX K H v tv ∧ PySem.W.kitOne K tv (.type "str") = some (isAtom t) := by
  have h := ty_od (od_rep hR)
  cases t with
  | var k => exact ⟨_, h, kit_ty (a := "tuple") (show kitB "tuple" "str" = some false by decide +kernel)⟩
  | int k => exact ⟨_, h, kit_ty (a := "int") (show kitB "int" "str" = some false by decide +kernel)⟩
  | atom k => exact ⟨_, h, kit_ty (a := "str") (show kitB "str" "str" = some true by decide +kernel)⟩
  | comp k as => exact ⟨_, h, kit_ty (a := "tuple") (show kitB "tuple" "str" = some false by decide +kernel)⟩
theorem isi_int {H : Hp} {t : Tm} {v : V} (hR : Rep K H t v) : ∃ tv, TyX K H v tv ∧ PySem.W.kitOne K tv (.type "int") = some (isInt t) := by
  have h := ty_od (od_rep hR)
  cases t with
  | var k => exact ⟨_, h, kit_ty (a := "tuple") (show kitB "tuple" "int" = some false by decide +kernel)⟩
  | int k => exact ⟨_, h, kit_ty (a := "int") (show kitB "int" "int" = some true by decide +kernel)⟩
  | atom k => exact ⟨_, h, kit_ty (a := "str") (show kitB "str" "int" = some false by decide +kernel)⟩
  | comp k as => exact ⟨_, h, kit_ty (a := "tuple") (show kitB "tuple" "int" = some false by decide +kernel)⟩
theorem isT_of {p : Bool} {α : Type} {A B : Prop} (h : p = true) (a : A) : if p = true then A else B := by rw [if_pos h]; exact a
/-- a compound term or a variable, as a tuple -/
theorem tup_of {H : Hp} {t : Tm} {v : V} (hR : Rep K H t v) (h : isTup t = true) : ∃ a x xs, v = .ref a ∧ SqT K H a (x :: xs) ∧ ((∃ f as, t = .comp f as ∧ x = .str f ∧ Reps K H as xs) ∨ (∃ k, t = .var k ∧ x = .int k ∧ xs = [])) := by
  cases t with
  | var k =>
    unfold Rep at hR
    obtain ⟨a, rfl, hT⟩ := hR
    exact ⟨a, _, _, rfl, hT, .inr ⟨k, rfl, rfl, rfl⟩⟩
  | int k => cases h
  | atom k => cases h
  | comp f as =>
    unfold Rep at hR
    obtain ⟨a, ws, rfl, hT, hA⟩ := hR
    exact ⟨a, _, _, rfl, hT, .inl ⟨f, as, rfl, rfl, hA⟩⟩
/-! ### the key of a compound term or a variable -/
def spKeyOf (K : PySem.W.Frag) : Sp := fun vs H Q _ => ∃ v t, vs = [v] ∧ Rep K H t v ∧ ((∃ f as, t = .comp f as ∧ ∀ p H', H p = none → Ex H H' → H' p = some (.tup [.str f, .int (as.length : Int)]) → Q (.ref p) H') ∨
  (∃ k, t = .var k ∧ ∀ p H', H p = none → Ex H H' → H' p = some (.tup [.int k, .int 0]) → Q (.ref p) H'))
theorem ok_key_of (T : Tx K mg) : FnOk P w K mg base CX0 1 T.f_key_of T.d_key_of ["term"] (spKeyOf K) := by
  refine T.h_key_of.F.ok sc_key_of (fun vs H Q E h => ?_) (fun cdv A outer s H vs Q E hr h => ?_)
  · obtain ⟨v, t, rfl, _⟩ := h
    rfl
  obtain ⟨v, t, rfl, hR, q⟩ := h
  refine ⟨_, (pss_one (ps_ret (pe_ifExp (pt_val (pe_callB call_isi rfl T.b_isinstance (by decide +kernel) (pa_cons (pv 0) (pa_cons (pe_bltn (v := .ty "tuple") (u := .type "tuple") rfl T.b_tuple (by decide +kernel) rfl) pa_nil)))) (pe_tup (pa_cons (pe_ix ix_tup (pv 0) pe_int (fun _ _ => rfl)) (pa_cons (pe_op op_sub (pe_callB call_len_seq rfl T.b_len (by decide +kernel) (pa_cons (pv 0) pa_nil)) pe_int) pa_nil))) (pe_tup (pa_cons (pv 0) (pa_cons pe_int pa_nil)))))), ?_⟩
  have ht : isTup t = true := by
    rcases q with ⟨f, as, rfl, _⟩ | ⟨k, rfl, _⟩ <;> rfl
  obtain ⟨tv, y1, y2⟩ := isi_tup hR
  refine ⟨_, rfl, _, _, tv, _, isTup t, rfl, .ty "tuple", y1, y2, isTup t, rfl, ?_⟩
  rw [ht]
  obtain ⟨a, x, xs, rfl, hT, c⟩ := tup_of hR ht
  refine iteT ⟨_, rfl, a, _, 0, _, rfl, rfl, hT, at0, _, rfl, a, _, rfl, .inr hT, _, _, rfl, rfl, (by show 2 ≤ sizeLine; decide), fun p hp => ?_⟩
  rcases c with ⟨f, as, rfl, rfl, hA⟩ | ⟨k, rfl, rfl, rfl⟩
  · rcases q with ⟨f', as', e, q⟩ | ⟨k, e, _⟩
    · cases e
      refine q p _ hp (Ex.new hp) ?_
      rw [upd_same, hA.len]
      show some (HO.tup [V.str f, V.int (((xs.length + 1 : Nat) : Int) - 1)]) = _
      rw [show (((xs.length + 1 : Nat) : Int) - 1) = (xs.length : Int) by omega]
    · cases e
  · rcases q with ⟨f', as', e, _⟩ | ⟨k', e, q⟩
    · cases e
    · cases e
      exact q p _ hp (Ex.new hp) upd_same
def spCon (K : PySem.W.Frag) : Sp := fun vs H Q _ => ∃ v t, vs = [v] ∧ Rep K H t v ∧ Ok t ∧ ∀ H', Ex H H' → Q (.bl (isCon t)) H'
theorem kok_fn {f : Str} (h : AtomOk f) (n : Int) : KOk (kFN f n) := ⟨Nat.le_of_ble_eq_true rfl, by
  show ((PyData.str f).canLay0 && (true && true)) = true
  rw [strOk_of h]
  rfl⟩
theorem kok_in (k n : Int) : KOk (.tup [.leaf (.inl k), .leaf (.inl n)]) := ⟨Nat.le_of_ble_eq_true rfl, rfl⟩
theorem krep_fn {H : Hp} {p : Addr} {f : Str} {n : Int} (h : SqT K H p [.str f, .int n]) : KRep K H (kFN f n) (.ref p) := by
  unfold KRep
  refine ⟨p, _, rfl, h, ?_⟩
  unfold KReps
  refine ⟨_, _, rfl, by unfold KRep; rfl, ?_⟩
  unfold KReps
  refine ⟨_, _, rfl, by unfold KRep; rfl, ?_⟩
  unfold KReps
  rfl
theorem krep_in {H : Hp} {p : Addr} {k n : Int} (h : SqT K H p [.int k, .int n]) : KRep K H (.tup [.leaf (.inl k), .leaf (.inl n)]) (.ref p) := by
  unfold KRep
  refine ⟨p, _, rfl, h, ?_⟩
  unfold KReps
  refine ⟨_, _, rfl, by unfold KRep; rfl, ?_⟩
  unfold KReps
  refine ⟨_, _, rfl, by unfold KRep; rfl, ?_⟩
  unfold KReps
  rfl
theorem ok_is_construct (T : Ty P w K mg) : FnOk P w K mg base CX0 2 T.f_is_construct T.d_is_construct ["goal"] (spCon K) := by
  refine T.h_is_construct.F.ok sc_is_construct (fun vs H Q E h => ?_) (fun cdv A outer s H vs Q E hr h => ?_)
  · obtain ⟨v, t, rfl, _⟩ := h
    rfl
  obtain ⟨v, t, rfl, hR, hO, q⟩ := h
  have hu := hr.units
  have hu2 : (A.deeper (envOfC "is_construct" (defScope s_is_construct) s.heap.objs.size T.f_is_construct cdv)).units + 16 < cLine := by omega
  refine ⟨_, (pss_one (ps_ret (pe_and (pe_callB call_isi rfl T.b_isinstance (by decide +kernel) (pa_cons (pv 0) (pa_cons (pe_bltn (v := .ty "tuple") (u := .type "tuple") rfl T.b_tuple (by decide +kernel) rfl) pa_nil))) (pe_one (pe_cmpR (op_in_kn hu2 T.kn) (cl (ok_key_of T.toTx) T.h_key_of hr (pa_cons (pv 0) pa_nil)) (pe_glob (v := .ref T.a_Cons) rfl T.m_Cons rfl) (by rfl)))))), ?_⟩
  obtain ⟨tv, y1, y2⟩ := isi_tup hR
  refine ⟨_, rfl, _, _, tv, _, isTup t, rfl, .ty "tuple", y1, y2, isTup t, rfl, ?_⟩
  cases ht : isTup t with
  | false =>
    refine iteF ?_
    have : isCon t = false := by cases t <;> first | rfl | cases ht
    rw [this] at q
    exact q H (Ex.refl _)
  | true =>
    refine iteT ⟨_, rfl, v, t, rfl, hR, ?_⟩
    cases t with
    | comp f as =>
      refine .inl ⟨f, as, rfl, fun p H' hp e hT => ⟨p, _, rfl, rfl, krep_fn (SqT.of hT), kok_fn ?_ _, ?_⟩⟩
      · unfold Ok at hO
        exact hO.1
      · rw [valN_con T.ks]
        exact q H' e
    | var k =>
      refine .inr ⟨k, rfl, fun p H' hp e hT => ⟨p, _, rfl, rfl, krep_in (SqT.of hT), kok_in _ _, ?_⟩⟩
      rw [valN_int T.ks]
      exact q H' e
    | int k => cases ht
    | atom k => cases ht
end
end Hm

set_option Elab.async false
set_option linter.all false
set_option maxRecDepth 100000
set_option maxHeartbeats 0
noncomputable section
namespace K21H
open PySem PySem.W PySem.Calls PyProof.Rows HandSHeadRun L2
open Hm (s_BadTerm_init s_NoClause_init)
/-- what is looked at: all objects -/

def frK (g : Addr → Option Obj) : PySem.W.Frag := He.frG g (List.range 346)
def fnD (x : Str) (st : Stmt) : He.FnD := ⟨(x, none), x, x, defArgs st, defBody st, defScope st⟩
def fnI (C q : Str) (st : Stmt) : He.FnD := ⟨(C, some "__init__"), "__init__", q, defArgs st, defBody st, defScope st⟩
def fn : List He.FnD := [fnD "is_integer" Hm.s_is_integer, fnD "is_sign" Hm.s_is_sign, fnD "is_atom" Hm.s_is_atom, fnD "is_number" Hm.s_is_number, fnD "is_term" Hm.s_is_term, fnD "_is_part" Hm.s_is_part, fnD "demand_term" Hm.s_demand_term, fnD "is_variable" Hm.s_is_variable, fnD "arguments_of" Hm.s_arguments_of, fnD "parts_of" Hm.s_parts_of, fnD "folded" Hm.s_folded, fnD "replaced" Hm.s_replaced, fnD "numbers_in" Hm.s_numbers_in, fnD "renumbered" Hm.s_renumbered, fnD "is_callable" Hm.s_is_callable, fnD "is_body" Hm.s_is_body, fnD "is_clause" Hm.s_is_clause, fnD "stored" Hm.s_stored, fnD "sides_of" Hm.s_sides_of, fnD "key_of" Hm.s_key_of, fnD "is_construct" Hm.s_is_construct, fnD "leaves_of" Hm.s_leaves_of, fnD "has_goals" Hm.s_has_goals, fnD "with_calls" Hm.s_with_calls, fnD "_law_cell_at" Hm.s_law_cell_at, fnD "_law_well" Hm.s_law_well, fnD "_law_draw" Hm.s_law_draw, fnD "_law_one" Hm.s_law_one, fnD "_law_numbers" Hm.s_law_numbers, fnD "_law_put" Hm.s_law_put, fnD "_law_anew" Hm.s_law_anew, fnD "_law_is_construct" Hm.s_law_is_construct, fnD "_law_is_body" Hm.s_law_is_body, fnD "_law_is_goal" Hm.s_law_is_goal, fnD "_law_with_calls" Hm.s_law_with_calls, fnD "_law_atom" Hm.s_law_atom, fnD "_law_part" Hm.s_law_part, fnD "_law_due" Hm.s_law_due, fnD "_law_said" Hm.s_law_said, fnD "_law_right" Hm.s_law_right, fnD "law" Hm.s_law, fnI "BadTerm" "BadTerm.__init__" s_BadTerm_init, fnI "NoClause" "NoClause.__init__" s_NoClause_init]
def fa : List He.Fa := [.glo "is_integer", .keep "is_integer", .glo "is_sign", .keep "is_sign", .glo "is_atom", .keep "is_atom", .glo "is_number", .keep "is_number", .glo "is_term", .keep "is_term", .glo "_is_part", .keep "_is_part", .glo "demand_term", .keep "demand_term", .glo "is_variable", .keep "is_variable", .glo "arguments_of", .keep "arguments_of", .glo "parts_of", .keep "parts_of", .glo "folded", .keep "folded", .glo "replaced", .keep "replaced", .glo "numbers_in", .keep "numbers_in", .glo "renumbered", .keep "renumbered", .glo "is_callable", .keep "is_callable", .glo "is_body", .keep "is_body", .glo "is_clause", .keep "is_clause", .glo "stored", .keep "stored", .glo "sides_of", .keep "sides_of", .glo "key_of", .keep "key_of", .glo "is_construct", .keep "is_construct", .glo "leaves_of", .keep "leaves_of", .glo "has_goals", .keep "has_goals", .glo "with_calls", .keep "with_calls", .glo "_law_cell_at", .keep "_law_cell_at", .glo "_law_well", .keep "_law_well", .glo "_law_draw", .keep "_law_draw", .glo "_law_one", .keep "_law_one", .glo "_law_numbers", .keep "_law_numbers", .glo "_law_put", .keep "_law_put", .glo "_law_anew", .keep "_law_anew", .glo "_law_is_construct", .keep "_law_is_construct", .glo "_law_is_body", .keep "_law_is_body", .glo "_law_is_goal", .keep "_law_is_goal", .glo "_law_with_calls", .keep "_law_with_calls", .glo "_law_atom", .keep "_law_atom", .glo "_law_part", .keep "_law_part", .glo "_law_due", .keep "_law_due", .glo "_law_said", .keep "_law_said", .glo "_law_right", .keep "_law_right", .glo "law", .keep "law", .free "all", .free "any", .free "bool", .free "enumerate", .free "int", .free "isinstance", .free "len", .free "list", .free "ord", .free "range", .free "repr", .free "reversed", .free "str", .free "tuple", .int "MOST_SIGNS" 40, .int "MOST_ARGUMENTS" 8, .int "BARRED_SIGN" 37, .int "TOO_GREAT" Hm.tooGreat, .glo "HornError", .glo "BadTerm", .glo "NoClause", .glo "CONSTRUCTS"]
def exB (K : PySem.W.Frag) : Bool := Hk.baseB K "HornError" && (Hk.errB K "BadTerm" "term" && (Hk.errB K "NoClause" "why" && (Hk.isB K (He.ga K "BadTerm") && (Hk.isB K (He.ga K "NoClause") && (Hk.kitB K "BadTerm" "HornError" && (Hk.kitB K "NoClause" "HornError" && (PySem.W.keepIn K (.ref (He.fAd K ("BadTerm", some "__init__"))) && PySem.W.keepIn K (.ref (He.fAd K ("NoClause", some "__init__"))))))))))
abbrev Al : Type := He.Al × Bool × Hk.EnV
def obsA (K : PySem.W.Frag) : Al := (He.obsE fa fn K, exB K, Hk.enO K (He.ga K "CONSTRUCTS"))
def valA (w : World) : Al := (He.valE fn, true, some (Hm.consL.map (fun p => some (p.1, (p.2 : Int))), Hm.consL.map (fun p => Hm.kh P w (Hm.kFN p.1 (p.2 : Int)))))
def hk : PySem.W.Hook where
  α := Al
  obs := fun s => obsA (frK s.heap.get?)
  val := valA
  says := fun w h => ∃ K : PySem.W.Frag, K.In h ∧ obsA K = valA w
  of := fun _ _ e => ⟨_, He.frG_in, e⟩
  keeps := fun _ _ _ ⟨Kx, hx, cx⟩ k => ⟨Kx, PySem.W.Frag.In.keeps hx k, cx⟩
def ob (s : SharedT) : Al := obsA (frK (getT s))
theorem ob_eq (s : SharedT) : ob s = hk.obs s.abs := by
  have e : getT s = s.abs.heap.get? := funext (getT_eq s)
  unfold ob
  rw [e]
  rfl
abbrev Rw : OpenRow := OpenLaw.row PySem.Challenge.rw_hornmill_k21_bodies_and_clauses
abbrev qv : Program := view P [53]
def loose0 : List PySem.Str := ["__name__", "HornError", "BadTerm", "NoClause", "MOST_SIGNS", "MOST_ARGUMENTS", "BARRED_SIGN", "TOO_GREAT", "is_integer", "is_sign", "is_atom", "is_number", "is_term", "_is_part", "demand_term", "is_variable", "arguments_of", "parts_of", "folded", "replaced", "numbers_in", "renumbered", "is_callable", "CONSTRUCTS", "is_body", "is_clause", "stored", "sides_of", "key_of", "is_construct"]
def loose1 : List PySem.Str := ["leaves_of", "has_goals", "with_calls", "_law_cell_at", "_law_well", "_law_draw", "_law_one", "_law_numbers", "_law_put", "_law_anew", "_law_is_construct", "_law_is_body", "_law_is_goal", "_law_with_calls", "_law_atom", "_law_part", "_law_due", "_law_said", "_law_right"]
def loose : List PySem.Str := loose0 ++ loose1
def r4 (w : World) (os : OsState) : Option (SharedT × (R × List Int × Obs × Obs)) := (all w os).bind fun y => (goF (stepQ (denQ tabQ) P w) 11 (bootAnn w) 3000 y.1.2.1 ⟨(execsQ (body.drop 27) env).wrap doneF (leaveH env) id id, cE, y.1.2.2.2, B⟩).map fun s => (s, y)
def lk (w : World) (z : SharedT × (R × List Int × Obs × Obs)) := (looksF P (boot_heap w.params) z.1.abs, seenQ qv loose (importedModules P.main.body) (fun s => xlAt qv [] s && recOk Rw.toRowW.records s) z.1.abs)
def lw := (true, openGood qv loose)
def valT (l : List Int) : Al := (He.valE fn, true, some (Hm.consL.map (fun p => some (p.1, (p.2 : Int))), l))

theorem fin_f (w : World) (os : OsState) : (r4 (w.withFollow row false) os).map (fun z => (lk (w.withFollow row false) z, ob z.1, z.2.2.2.1)) = (r4 (w.withFollow row false) os).map (fun z => (lw, valT z.2.2.1, z.2.2.2.2)) := by kernel_rfl
theorem is_f (w : World) (os : OsState) : (r4 (w.withFollow row false) os).isSome = true := by kernel_rfl
theorem fin_t (w : World) (os : OsState) : (r4 (w.withFollow row true) os).map (fun z => (lk (w.withFollow row true) z, ob z.1, z.2.2.2.1)) = (r4 (w.withFollow row true) os).map (fun z => (lw, valT z.2.2.1, z.2.2.2.2)) := by kernel_rfl
theorem is_t (w : World) (os : OsState) : (r4 (w.withFollow row true) os).isSome = true := by kernel_rfl
end K21H

end
set_option Elab.async false
set_option linter.all false
set_option maxRecDepth 100000
set_option maxHeartbeats 4000000
noncomputable section
namespace K21H
open PySem PySem.W PySem.Calls PyProof.Rows HandSHeadRun
/-- the head's equation from a run of so many steps at each world -/
theorem left_any {p q : Program} {lo : List PySem.Str} {Xt : Shared → Bool} {α : Type} {Yf : Shared → α} {Ya : World → α} {N : Nat}
    (e : opening p = plainProg p.main.scope.names) (hN : Nat.ble 600 N = true) (f : ∀ s, fenceModules? p s = some s)
    (run : ∀ (w : World) (os : OsState), ∃ s M, M ≤ N ∧ topRun treeTable p w (boot_heap w.params).objs.size (bootAnn w) M ⟨boot_heap w.params, #[], boot_drawn, boot_toks, os⟩ (topStub p) = some s ∧ looksF p (boot_heap w.params) s = true ∧ openSeen q lo (importedModules p.main.body) Xt true s = openGood q lo ∧ Yf s = Ya w) :
    LeftO p q lo Xt Yf Ya N true := fun w => by
  obtain ⟨sb, eb, ev⟩ := Option.map_eq_some_iff.mp (boot_open e hN f w)
  obtain ⟨hp, gn, dr, tk, ox⟩ := sb
  simp only [Prod.mk.injEq] at ev
  obtain ⟨v1, v2, v3, v4⟩ := ev
  subst v1 v2 v3 v4
  obtain ⟨sE, M, hM, hr, q1, q2, q3⟩ := run w ox
  have hr2 := topRun_mono (N - M) _ _ _ _ hr
  rw [Nat.add_sub_of_le hM] at hr2
  have htop : topFrom treeTable p w N ⟨boot_heap w.params, Array.mk [], boot_drawn, boot_toks, ox⟩ = some sE := by
    unfold topFrom
    dsimp only
    rw [boot_ns]
    refine Eq.trans (b := (some sE).bind fun s₁ => match looksF p (boot_heap w.params) s₁ with
      | true => some s₁
      | false => none) (congrArg (fun z => Option.bind z _) hr2) ?_
    show (match looksF p (boot_heap w.params) sE with
      | true => some sE
      | false => none) = some sE
    rw [q1]
  unfold openEnds
  rw [eb, Option.bind_some, htop, Option.map_some, q2, q3]
theorem block0 : blockStart body env = Sem.pure () := by kernel_rfl
theorem size11 (w : World) : (boot_heap w.params).objs.size = 11 := by kernel_rfl
def Run (w : World) (os : OsState) : Prop := ∃ s M, M ≤ 20100000 ∧ topRun treeTable P w (boot_heap w.params).objs.size (bootAnn w) M ⟨boot_heap w.params, #[], boot_drawn, boot_toks, os⟩ (topStub P) = some s ∧ looksF P (boot_heap w.params) s = true ∧
  openSeen qv loose (importedModules P.main.body) (fun s => xlAt qv [] s && recOk Rw.toRowW.records s) true s = openGood qv loose ∧ hk.obs s = hk.val w
theorem hash_kh (w : World) (f : Str) (n : Nat) (hn : hashInt (n : Int) = n) : reduceHash (tupW [PyData.keyHash w.params f, (n : Int)]) = Hm.kh P w (Hm.kFN f (n : Int)) := by
  rw [tupW_eq]
  unfold Hm.kh Hm.khs Hm.khs Hm.khs Hm.kh
  show _ = reduceHash (Builtin.Tuple.tupleHashOf [PyData.keyHash w.params f, hashInt (n : Int)])
  rw [hn]
theorem run_of {w : World} {os : OsState} (hs : (r4 w os).isSome = true) (hf : (r4 w os).map (fun z => (lk w z, ob z.1, z.2.2.2.1)) = (r4 w os).map (fun z => (lw, valT z.2.2.1, z.2.2.2.2))) (ht : (r1 w os).map (fun r => r.2) = some ⟨denQ tabQ cE, cE, p0, B⟩) : Run w os := by
  obtain ⟨⟨sE, y⟩, h4⟩ := Option.isSome_iff_exists.mp hs
  rw [h4] at hf
  have hf1 : (lk w (sE, y), ob sE, y.2.2.1) = (lw, valT y.2.1, y.2.2.2) := Option.some.inj hf
  obtain ⟨f1, f2⟩ := Prod.mk.inj hf1
  obtain ⟨f2, f3⟩ := Prod.mk.inj f2
  unfold r4 at h4
  obtain ⟨y', hall, h5⟩ := Option.bind_eq_some_iff.mp h4
  obtain ⟨s', hgo, h6⟩ := Option.map_eq_some_iff.mp h5
  obtain ⟨rfl, rfl⟩ := Prod.mk.inj h6
  obtain ⟨hl, r, hr, g1, g2, g3, g4, D⟩ := disp hall f3
  unfold r2 at hr
  obtain ⟨ra, hra, hsg⟩ := Option.bind_eq_some_iff.mp hr
  rw [hra] at ht
  have hth : ra.2 = ⟨denQ tabQ cE, cE, p0, B⟩ := Option.some.inj ht
  unfold r1 at hra
  obtain ⟨s0, hs0, hgK⟩ := Option.bind_eq_some_iff.mp hra
  have e0 : s0.abs = ⟨boot_heap w.params, #[], boot_drawn, boot_toks, os⟩ := by
    unfold startK at hs0
    cases ep : putAll (boot_heap w.params).objs.toList .nil 0 with
    | none =>
      rw [ep] at hs0
      cases hs0
    | some tn =>
      obtain ⟨t, n⟩ := tn
      rw [ep] at hs0
      have hs1 : frNat n (fun n => some (bootT w os (t, n))) = some s0 := hs0
      rw [frNat_eq] at hs1
      have hs2 := Option.some.inj hs1
      rw [← hs2]
      exact congrArg (fun h : Heap => (⟨h, #[], boot_drawn, boot_toks, os⟩ : Shared)) (putAll_heap ep)
  rw [← stepQ_eq, ← denQ_eq, ← tabQ_eq] at hgK hsg hgo
  rw [← denQ_eq, ← tabQ_eq] at hth
  rw [← execsQ_eq] at hsg hgo
  have k1 := goK_ok hgK
  rw [hth, e0] at k1
  obtain ⟨rf, rs, rc, rp⟩ := r
  obtain rfl : rf = .next := g1
  obtain rfl : rc = cE := g2
  have k2 := sgK_ok hsg
  have k3 := goF_ok hgo
  obtain ⟨n, hn, kD⟩ := D (fun f => match f with | .next => (execs (body.drop 27) env).wrap doneF (leaveH env) id id | f => doneF f) (leaveH env)
  have k4 : topRun treeTable P w 11 (bootAnn w) (n + 3000) rs.abs (restOf (stD :: body.drop 27) env cE rp [topFrame p0]) = some s'.abs := by
    unfold restOf
    rw [execs_cons_wrap]
    exact kD 3000 _ k3
  have k5 := piece_app (env := env) k2 k4
  have k6 : topRun treeTable P w 11 (bootAnn w) (3000 + (n + 3000)) ra.1.abs (restOf body env cE p0 [topFrame p0]) = some s'.abs := by
    rw [body_26]
    exact k5
  have kb : segRun treeTable P w 11 (bootAnn w) 1 1 ra.1.abs (blockOf body env cE p0 [topFrame p0]) = some (.next, ra.1.abs, cE, p0) := by
    unfold blockOf
    rw [block0]
    rfl
  have k7 := piece_block (env := env) kb k6
  have k8 := go_top k1 k7
  refine ⟨s'.abs, 12 + (1 + (3000 + (n + 3000))), by omega, ?_, ?_, ?_, ?_⟩
  · rw [size11]
    exact k8
  · exact congrArg (·.1) f1
  · rw [seenQ_eq]
    exact congrArg (·.2) f1
  · rw [← ob_eq, f2, hl]
    unfold valT
    show (He.valE fn, true, some (Hm.consL.map (fun p => some (p.1, (p.2 : Int))), _)) = valA w
    unfold valA
    have eh : Hm.consL.map (fun p => Hm.kh P w (Hm.kFN p.1 (p.2 : Int))) = Hm.consL.map (fun p => reduceHash (tupW [PyData.keyHash w.params p.1, (p.2 : Int)])) := by
      refine List.map_congr_left fun p hp => (hash_kh w p.1 p.2 ?_).symm
      revert p
      decide
    rw [eh]
    rfl
theorem runs (w : World) (os : OsState) : Run w os := byRow2 row (P := fun w => Run w os) (fun w => run_of (is_f w os) (fin_f w os) (r1_th _ os)) (fun w => run_of (is_t w os) (fin_t w os) (r1_th _ os)) w
theorem left : LeftO P qv loose (fun s => xlAt qv [] s && recOk Rw.toRowW.records s) hk.obs hk.val 20100000 true :=
  left_any (by kernel_rfl) (by decide) (fun s => by kernel_rfl) runs
end K21H

end
set_option Elab.async false
set_option linter.all false
set_option maxRecDepth 100000
set_option maxHeartbeats 1000000
namespace Hm
open PySem PySem.Spec PyProof.Rows L2 HT
open Evl (Ex)
theorem oks_rev : ∀ {xs : List Tm}, Oks xs → Oks xs.reverse
  | [], h => h
  | x :: xs, h => by
    rw [oks_cons] at h
    rw [List.reverse_cons]
    exact oks_app.mpr ⟨oks_rev h.2, by rw [oks_cons]; exact ⟨h.1, trivial⟩⟩
section
variable {P : Program} {w : World} {K : PySem.W.Frag} {mg : Str → Option Value} {base : Heap}
def spLeaves (K : PySem.W.Frag) : Sp := fun vs H Q _ => ∃ v t, vs = [v] ∧ Rep K H t v ∧ Ok t ∧ size t ≤ 50000 ∧ ∀ p ws H', H p = none → Ex H H' → H' p = some (.lst ws) → Reps K H' (leaves t) ws → Q (.ref p) H'
theorem ok_leaves_of (T : Ty P w K mg) : FnOk P w K mg base CX0 3 T.f_leaves_of T.d_leaves_of ["goal"] (spLeaves K) := by
  refine T.h_leaves_of.F.ok sc_leaves_of (fun vs H Q E h => ?_) (fun cdv A outer s H vs Q E hr h => ?_)
  · obtain ⟨v, t, rfl, _⟩ := h
    rfl
  obtain ⟨v, t, rfl, hR, hO, hz, q⟩ := h
  refine ⟨_, (pss_cons (ps_set (i := 1) sc_leaves_of.nd rfl (Or.inl rfl) (pe_lst pa_nil))
    (pss_cons (ps_set (i := 2) sc_leaves_of.nd rfl (Or.inl rfl) (pe_lst (pa_cons (pv 0) pa_nil)))
    (pss_cons (ps_while PassesOwn.never (pt_truth (pv 2) (by intro _; rfl))
      (pss_cons (ps_set (i := 3) sc_leaves_of.nd rfl (Or.inl rfl) (pe_bm0 PySem.F.plainAttrs_list PySem.F.slot_list_pop PySem.F.type_list_pop mt_pop (pv 2)))
    (pss_one (ps_if (pt_val (cl (ok_is_construct T) T.h_is_construct hr (pa_cons (pv 3) pa_nil)))
      (pss_one (ps_expr (pe_bm PySem.F.plainAttrs_list PySem.F.slot_list_extend PySem.F.type_list_extend mt_extT (pv 2) (pa_cons (pe_revT0 (pv 3)) pa_nil))))
      (pss_one (ps_expr (pe_bm PySem.F.plainAttrs_list PySem.F.slot_list_append PySem.F.type_list_append mt_append (pv 1) (pa_cons (pv 3) pa_nil))))))))
    (pss_one (ps_ret (pv 1)))))), ?_⟩
  refine ⟨Nat.zero_le _, fun f hf => ?_⟩
  refine ⟨_, rfl, (by show 1 ≤ sizeLine; decide), fun l hl' => ?_⟩
  have hfl : f ≠ l := by
    intro e
    subst e
    rw [upd_same] at hl'
    cases hl'
  have hl : H l = none := by
    rw [upd_ne hfl.symm] at hl'
    exact hl'
  have e0 : Ex H (upd (upd H f (.lst [])) l (.lst [v])) := (Ex.new hf).trans (Ex.new hl')
  refine ⟨fun m σ' H' => ∃ x ts ws ds us, σ' = [some v, some (.ref f), some (.ref l), x] ∧ Ex H H' ∧ H' l = some (.lst ws) ∧ Reps K H' ts ws ∧ H' f = some (.lst us) ∧ Reps K H' ds us ∧ ds ++ leavesL ts.reverse = leaves t ∧ Oks ts ∧ sizes ts = m ∧ sizes ts + ds.length ≤ 50000,
    ⟨size t, none, [t], [v], [], [], rfl, e0, upd_same, Reps.one (hR.mono (Tups.of e0)), (by rw [upd_ne hfl, upd_same]), Reps.nil, ?_, (by rw [oks_cons]; exact ⟨hO, trivial⟩), sizes_one t, ?_⟩, ?_⟩
  · show leavesL [t] = leaves t
    rw [leavesL_cons, leavesL_nil, List.append_nil]
  · rw [sizes_one]
    exact hz
  rintro m σ' H' ⟨x, ts, ws, ds, us, rfl, e1, hL, hRs, hF, hDs, hpre, hO2, rfl, hm⟩
  refine ⟨_, rfl, _, .inl ⟨ws, SqL.of hL, rfl⟩, ?_⟩
  rcases list_end ts with rfl | ⟨ts, t', rfl⟩
  · rw [hRs.nil_inv]
    refine iteF ⟨_, rfl, q f us _ hf e1 hF ?_⟩
    rw [← hpre]
    show Reps K H' (ds ++ leavesL []) us
    rw [leavesL_nil, List.append_nil]
    exact hDs
  · obtain ⟨ws, v', rfl, hR1, hR2⟩ := hRs.last
    have hne : (!(ws ++ [v']).isEmpty) = true := by simp
    rw [hne]
    rw [sizes_app, sizes_one] at hm ⊢
    refine iteT ⟨fun σ2 H2 => ∃ m', m' < sizes ts + size t' ∧ ∃ x ts ws ds us, σ2 = [some v, some (.ref f), some (.ref l), x] ∧ Ex H H2 ∧ H2 l = some (.lst ws) ∧ Reps K H2 ts ws ∧ H2 f = some (.lst us) ∧ Reps K H2 ds us ∧ ds ++ leavesL ts.reverse = leaves t ∧ Oks ts ∧ sizes ts = m' ∧ sizes ts + ds.length ≤ 50000, fun _ _ h => h, ?_⟩
    refine ⟨_, rfl, .inl ⟨rfl, _, SqL.of hL⟩, l, _, v', rfl, rfl, hL, last_app _ _, ?_⟩
    rw [drop_app]
    have t1 : Tups K H' (upd H' l (.lst ws)) := Tups.lst hL
    have hF1 : (upd H' l (.lst ws)) f = some (.lst us) := by rw [upd_ne hfl]; exact hF
    have z0 := hDs.len
    have z4 := size_pos t'
    have hO3 := oks_app.mp hO2
    have hOt : Ok t' := by
      have := hO3.2
      rw [oks_cons] at this
      exact this.1
    have z1 := len_sizes ts
    have hlen := hR1.len
    have e2 : Ex H (upd H' l (.lst ws)) := Ex.mut e1 hl
    refine ⟨_, rfl, v', t', rfl, hR2.mono t1, hOt, fun H2 e3 => ⟨isCon t', rfl, ?_⟩⟩
    have hF2 := e3 f _ hF1
    have hL2 : H2 l = some (.lst ws) := e3 l _ upd_same
    have hR1' := (hR1.mono t1).mono (Tups.of (K := K) e3)
    have hR2' := (hR2.mono t1).mono (Tups.of (K := K) e3)
    have hDs' := (hDs.mono t1).mono (Tups.of (K := K) e3)
    cases hc : isCon t' with
    | true =>
      refine iteT ?_
      have hrep := hR2'
      cases t' with
      | comp g as =>
        unfold Rep at hrep
        obtain ⟨a, ys, rfl, hT, hA⟩ := hrep
        refine ⟨_, rfl, .inl ⟨rfl, _, SqL.of hL2⟩, _, rfl, a, _, rfl, hT, (by rw [List.length_cons]; omega), fun p hp => ?_⟩
        have e4 := Ex.new (o := HO.tup (List.drop 1 (V.str g :: ys)).reverse) hp
        have hL4 := e4 l _ hL2
        have hF4 := e4 f _ hF2
        have z5 := hA.len
        have z6 := len_sizes as
        have z7 : size (.comp g as) = 1 + sizes as := by rw [size]
        refine ⟨l, p, ws, ys.reverse, rfl, rfl, hL4, SqT.of upd_same, small5 (by rw [List.length_reverse]; omega), sizes (ts ++ as.reverse), ?_, _, ts ++ as.reverse, ws ++ ys.reverse, ds, us, rfl, ?_, upd_same, ?_, ?_, ?_, ?_, ?_, rfl, ?_⟩
        · rw [sizes_app, sizes_rev]
          omega
        · exact Ex.mut ((e2.trans e3).trans e4) hl
        · exact Reps.app ((hR1'.mono (Tups.of e4)).mono (Tups.lst hL4)) ((hA.rev.mono (Tups.of e4)).mono (Tups.lst hL4))
        · rw [upd_ne hfl]
          exact hF4
        · exact (hDs'.mono (Tups.of e4)).mono (Tups.lst hL4)
        · rw [← hpre, List.reverse_append, List.reverse_append, List.reverse_reverse, leavesL_app]
          show ds ++ (leavesL as ++ leavesL ts.reverse) = ds ++ leavesL (.comp g as :: ts.reverse)
          rw [leavesL_cons, leaves_con hc]
          rfl
        · exact oks_app.mpr ⟨hO3.1, oks_rev (ok_args hOt)⟩
        · rw [sizes_app, sizes_rev]
          omega
      | var k => cases hc
      | int k => cases hc
      | atom k => cases hc
    | false =>
      refine iteF ⟨_, rfl, .inl ⟨rfl, _, SqL.of hF2⟩, _, rfl, f, us, v', rfl, rfl, hF2, small5' (by omega), sizes ts, by omega, _, ts, ws, ds ++ [t'], us ++ [v'], rfl, Ex.mut (e2.trans e3) hf, ?_, hR1'.mono (Tups.lst hF2), upd_same, Reps.app (hDs'.mono (Tups.lst hF2)) (Reps.one (hR2'.mono (Tups.lst hF2))), ?_, hO3.1, rfl, ?_⟩
      · rw [upd_ne hfl.symm]
        exact hL2
      · rw [← hpre, List.reverse_append]
        show ds ++ [t'] ++ leavesL ts.reverse = ds ++ leavesL (t' :: ts.reverse)
        rw [leavesL_cons, leaves_not hc, List.append_assoc]
      · rw [List.length_append, List.length_singleton]
        omega
def spGoals (K : PySem.W.Frag) : Sp := fun vs H Q _ => ∃ v t, vs = [v] ∧ Rep K H t v ∧ Ok t ∧ size t ≤ 50000 ∧ ∀ H', Ex H H' → Q (.bl (body t)) H'
end
end Hm

set_option Elab.async false
set_option linter.all false
set_option maxRecDepth 100000
set_option maxHeartbeats 1000000
namespace Hm
open PySem PySem.Spec PyProof.Rows L2 HT
open Evl (Ex)
section
variable {P : Program} {w : World} {K : PySem.W.Frag} {mg : Str → Option Value} {base : Heap}
theorem ok_has_goals (T : Ty P w K mg) : FnOk P w K mg base CX0 4 T.f_has_goals T.d_has_goals ["term"] (spGoals K) := by
  refine T.h_has_goals.F.ok sc_has_goals (fun vs H Q E h => ?_) (fun cdv A outer s H vs Q E hr h => ?_)
  · obtain ⟨v, t, rfl, _⟩ := h
    rfl
  obtain ⟨v, t, rfl, hR, hO, hz, q⟩ := h
  refine ⟨_, (pss_one (ps_ret (pe_not (pe_callB (cr_any rfl) rfl T.b_any (by decide +kernel) (pa_cons (pe_lc (own := [("leaf", 1)]) (g := gName 1) rfl sc_has_goals.nd (pi_list (cl (ok_leaves_of T) T.h_leaves_of hr (pa_cons (pv 0) pa_nil))) (blkOk_by (own := [("leaf", 1)]) (N := ["term", "leaf"]) (sc := defScope s_has_goals) (by decide +kernel)) (fun _ _ _ _ _ => pg_name (i := 1) sc_has_goals.nd rfl (Or.inl rfl)) (fun _ _ _ _ _ => pts_nil) (fun _ _ _ _ _ => (pe_callB (show CallR _ (.builtin "isinstance") (rIsi K) from call_isi) rfl T.b_isinstance (by decide +kernel) (pa_cons (pv 1) (pa_cons (pe_bltn (v := .ty "int") (u := .type "int") rfl T.b_int (by decide +kernel) rfl) pa_nil))))) pa_nil))))), ?_⟩
  have ll := leaves_len t
  refine ⟨_, rfl, v, t, rfl, hR, hO, hz, fun p ws H1 hp e1 hL hRs => ?_⟩
  have hlen := hRs.len
  refine ⟨p, rfl, ⟨_, SqL.of hL⟩, fun D hD => lc_it walk_list (fun i H' => Ex H1 H' ∧ H' D = some (.lst (((leaves t).take i).map fun t => V.bl (isInt t)))) ⟨Ex.new hD, upd_same⟩ (fun i H' _ h => SqL.of (h.1 _ _ hL)) ?_ ?_⟩
  · rintro i x H2 H3 hi ⟨e2, hD2⟩ ⟨rfl, hx⟩
    obtain ⟨t', ht', hR'⟩ := (hRs.mono (Tups.of e2)).get hx
    obtain ⟨tv, y1, y2⟩ := isi_int hR'
    refine ⟨rfl, yesI ⟨_, rfl, _, _, tv, _, isInt t', rfl, .ty "int", y1, y2, _, hD2, ?_, Ex.mut e2 hD, ?_⟩⟩
    · rw [List.length_map, List.length_take]
      exact small5' (by omega)
    · rw [upd_same, tk_succ (x := t') (h := ht')]
  · rintro H2 ⟨e2, hD2⟩
    refine ⟨D, (leaves t).map isInt, rfl, SqL.of ?_, ?_⟩
    · rw [hD2, ← hlen, List.take_length, List.map_map]
      rfl
    · have : ((leaves t).map isInt).any id = !body t := by
        rw [List.any_map, ← body_leaves t]
        rfl
      rw [this]
      refine ⟨_, rfl, ?_⟩
      rw [Bool.not_not]
      exact q _ (e1.trans e2)
def spCallable (K : PySem.W.Frag) : Sp := fun vs H Q _ => ∃ v t, vs = [v] ∧ Rep K H t v ∧ Ok t ∧ Q (.bl (callable t)) H
theorem ok_is_callable (T : Tx K mg) : FnOk P w K mg base CX0 1 T.f_is_callable T.d_is_callable ["term"] (spCallable K) := by
  refine T.h_is_callable.F.ok sc_is_callable (fun vs H Q E h => ?_) (fun cdv A outer s H vs Q E hr h => ?_)
  · obtain ⟨v, t, rfl, _⟩ := h
    rfl
  obtain ⟨v, t, rfl, hR, hO, q⟩ := h
  refine ⟨_, (pss_one (ps_ret (pe_or (pe_callB call_isi rfl T.b_isinstance (by decide +kernel) (pa_cons (pv 0) (pa_cons (pe_bltn (v := .ty "str") (u := .type "str") rfl T.b_str (by decide +kernel) rfl) pa_nil))) (pe_one (pe_and (pe_callB call_isi rfl T.b_isinstance (by decide +kernel) (pa_cons (pv 0) (pa_cons (pe_bltn (v := .ty "tuple") (u := .type "tuple") rfl T.b_tuple (by decide +kernel) rfl) pa_nil))) (pe_one (pe_cmpR op_gt (pe_callB call_len_seq rfl T.b_len (by decide +kernel) (pa_cons (pv 0) pa_nil)) pe_int (nomark _)))))))), ?_⟩
  obtain ⟨tv, y1, y2⟩ := isi_str hR
  obtain ⟨tw, z1, z2⟩ := isi_tup hR
  refine ⟨_, rfl, _, _, tv, _, isAtom t, rfl, .ty "str", y1, y2, isAtom t, rfl, ?_⟩
  cases ha : isAtom t with
  | true =>
    have : callable t = true := by cases t <;> first | rfl | cases ha
    rw [this] at q
    exact iteT q
  | false =>
    refine iteF ⟨_, rfl, _, _, tw, _, isTup t, rfl, .ty "tuple", z1, z2, isTup t, rfl, ?_⟩
    cases ht : isTup t with
    | false =>
      have : callable t = false := by cases t <;> first | rfl | (cases ha; done) | (cases ht; done)
      rw [this] at q
      exact iteF q
    | true =>
      cases t with
      | var k =>
        unfold Rep at hR
        obtain ⟨a, rfl, hT⟩ := hR
        exact iteT ⟨_, rfl, a, _, rfl, .inr hT, _, _, rfl, rfl, q⟩
      | comp f as =>
        unfold Rep at hR
        obtain ⟨a, ws, rfl, hT, hA⟩ := hR
        have hl := hA.len
        unfold Ok at hO
        refine iteT ⟨_, rfl, a, _, rfl, .inr hT, _, _, rfl, rfl, ?_⟩
        have : decide ((1 : Int) < ((V.str f :: ws).length : Int)) = true := decide_eq_true (by rw [List.length_cons]; omega)
        show Q (V.bl (decide ((1 : Int) < ((V.str f :: ws).length : Int)))) H
        rw [this]
        exact q
      | int k => cases ht
      | atom k => cases ha
def spSides (K : PySem.W.Frag) : Sp := fun vs H Q _ => ∃ v t, vs = [v] ∧ Rep K H t v ∧ Ok t ∧ ∀ p x y H', H p = none → Ex H H' → H' p = some (.tup [x, y]) → Rep K H' (sides t).1 x → Rep K H' (sides t).2 y → Q (.ref p) H'
theorem rep_true {H : Hp} : Rep K H (.atom "true") (.str "true") := by unfold Rep; rfl
theorem dec_3 {n : Nat} : decide (V.int (n : Int) = V.int 3) = decide (n = 3) := dec_len (m := 3)
theorem dec_str {x y : Str} : decide (V.str x = V.str y) = decide (x = y) := by
  by_cases h : x = y
  · rw [decide_eq_true h, decide_eq_true (by rw [h])]
  · rw [decide_eq_false h, decide_eq_false (fun z => h (by injection z))]
theorem ok_sides_of (T : Tx K mg) : FnOk P w K mg base CX0 1 T.f_sides_of T.d_sides_of ["term"] (spSides K) := by
  refine T.h_sides_of.F.ok sc_sides_of (fun vs H Q E h => ?_) (fun cdv A outer s H vs Q E hr h => ?_)
  · obtain ⟨v, t, rfl, _⟩ := h
    rfl
  obtain ⟨v, t, rfl, hR, hO, q⟩ := h
  refine ⟨_, (pss_cons (ps_if (PW.pt (pw_and (pt_val (pe_callB call_isi rfl T.b_isinstance (by decide +kernel) (pa_cons (pv 0) (pa_cons (pe_bltn (v := .ty "tuple") (u := .type "tuple") rfl T.b_tuple (by decide +kernel) rfl) pa_nil)))) (pw_and (pt_cmpR op_eq (pe_callB call_len_seq rfl T.b_len (by decide +kernel) (pa_cons (pv 0) pa_nil)) pe_int (nomark _)) (pw_and1 (pt_cmpR op_eq (pe_ix ix_tup (pv 0) pe_int (fun _ _ => rfl)) pe_str (nomark _))))))
      (pss_one (ps_ret (pe_tup (pa_cons (pe_ix ix_tup (pv 0) pe_int (fun _ _ => rfl)) (pa_cons (pe_ix ix_tup (pv 0) pe_int (fun _ _ => rfl)) pa_nil)))))
      pss_nil)
    (pss_one (ps_ret (pe_tup (pa_cons (pv 0) (pa_cons pe_str pa_nil)))))), ?_⟩
  obtain ⟨tw, z1, z2⟩ := isi_tup hR
  have not_ : (∀ a b, t ≠ .comp ":-" [a, b]) → ∀ p, H p = none → Q (.ref p) (upd H p (.tup [v, .str "true"])) := fun hn p hp => by
    rcases sides_is t with ⟨a, b, rfl, _⟩ | ⟨_, e⟩
    · exact absurd rfl (hn a b)
    · rw [e] at q
      exact q p _ _ _ hp (Ex.new hp) upd_same (hR.mono (Tups.of (Ex.new hp))) rep_true
  refine ⟨_, rfl, _, _, tw, _, isTup t, rfl, .ty "tuple", z1, z2, isTup t, rfl, ?_⟩
  cases ht : isTup t with
  | false => exact iteF (iteF ⟨_, rfl, (by show 2 ≤ sizeLine; decide), not_ (fun a b e => by rw [e] at ht; cases ht)⟩)
  | true =>
    cases t with
    | var k =>
      unfold Rep at hR
      obtain ⟨a, rfl, hT⟩ := hR
      exact iteT ⟨_, rfl, a, _, rfl, .inr hT, rfl, false, rfl, iteF (iteF ⟨_, rfl, (by show 2 ≤ sizeLine; decide), not_ (fun a b e => by cases e)⟩)⟩
    | comp f as =>
      have hR0 := hR
      unfold Rep at hR
      obtain ⟨a, ws, rfl, hT, hA⟩ := hR
      have hl := hA.len
      refine iteT ⟨_, rfl, a, _, rfl, .inr hT, rfl, decide ((V.str f :: ws).length = 3), congrArg V.bl dec_3, ?_⟩
      by_cases h3 : (V.str f :: ws).length = 3
      · rw [decide_eq_true h3]
        refine iteT ⟨_, rfl, a, _, 0, _, rfl, rfl, hT, at0, rfl, decide (f = ":-"), congrArg V.bl dec_str, ?_⟩
        by_cases hf : f = ":-"
        · rw [decide_eq_true hf]
          subst hf
          rw [List.length_cons] at h3
          obtain ⟨s1, t1, rfl⟩ : ∃ s1 t1, as = [s1, t1] := by
            match as, (show as.length = 2 by omega) with
            | [s1, t1], _ => exact ⟨s1, t1, rfl⟩
          obtain ⟨x', w1, rfl, hx, r1⟩ := hA.cons_inv
          obtain ⟨y', w2, rfl, hy, r2⟩ := r1.cons_inv
          rw [r2.nil_inv] at hT
          have e : sides (.comp ":-" [s1, t1]) = (s1, t1) := by
            rcases sides_is (.comp ":-" [s1, t1]) with ⟨a, b, e1, e2⟩ | ⟨hn, _⟩
            · injection e1 with _ e3
              injection e3 with e4 e5
              injection e5 with e6 _
              rw [e2, e4, e6]
            · exact absurd rfl (hn s1 t1)
          rw [e] at q
          refine iteT ⟨_, rfl, a, _, 1, _, rfl, rfl, hT, rfl, _, rfl, a, _, 2, _, rfl, rfl, hT, rfl, (by show 2 ≤ sizeLine; decide), fun p hp => ?_⟩
          exact q p _ _ _ hp (Ex.new hp) upd_same (hx.mono (Tups.of (Ex.new hp))) (hy.mono (Tups.of (Ex.new hp)))
        · rw [decide_eq_false hf]
          exact iteF ⟨_, rfl, (by show 2 ≤ sizeLine; decide), not_ (fun a b e => by injection e with e1 _; exact hf e1)⟩
      · rw [decide_eq_false h3]
        refine iteF (iteF ⟨_, rfl, (by show 2 ≤ sizeLine; decide), not_ (fun a b e => ?_)⟩)
        injection e with _ e2
        subst e2
        exact h3 (by rw [List.length_cons, ← hl]; rfl)
    | int k => cases ht
    | atom k => cases ht
end
end Hm

set_option Elab.async false
set_option linter.all false
set_option maxRecDepth 100000
set_option maxHeartbeats 1000000
namespace Hm
open PySem PySem.Spec PyProof.Rows L2 HT
open Evl (Ex)
section
variable {P : Program} {w : World} {K : PySem.W.Frag} {mg : Str → Option Value} {base : Heap}
theorem rwr_nil {H : Hp} : RwReps K H [] [] := by unfold RwReps; rfl
theorem rwr_one {H : Hp} {r : Rw} {v : V} (h : RwRep K H r v) : RwReps K H [r] [v] := by
  exact ⟨v, [], rfl, h, rwr_nil⟩
theorem rwr_node {H : Hp} {a : Addr} {g : Str} {n : Nat} (h : SqT K H a [.str g, .int (n : Int)]) : RwRep K H (.node g n) (.ref a) := by
  exact ⟨a, rfl, h⟩
theorem rwr_leaf {H : Hp} {a : Addr} {t : Tm} {u : V} (h : SqT K H a [u, .int 0]) (r : Rep K H t u) : RwRep K H (.leaf t) (.ref a) := ⟨a, u, rfl, h, r⟩
def spWith (K : PySem.W.Frag) : Sp := fun vs H Q _ => ∃ v t, vs = [v] ∧ Rep K H t v ∧ Ok t ∧ size t ≤ 50000 ∧ ∀ u H', Ex H H' → Rep K H' (wc t) u → Q u H'
theorem ok_with_calls (T : Ty P w K mg) : FnOk P w K mg base CX0 3 T.f_with_calls T.d_with_calls ["goal"] (spWith K) := by
  refine T.h_with_calls.F.ok sc_with_calls (fun vs H Q E h => ?_) (fun cdv A outer s H vs Q E hr h => ?_)
  · obtain ⟨v, t, rfl, _⟩ := h
    rfl
  obtain ⟨v, t, rfl, hR, hO, hz, q⟩ := h
  refine ⟨_, (pss_cons (ps_set (i := 1) sc_with_calls.nd rfl (Or.inl rfl) (pe_lst pa_nil))
    (pss_cons (ps_set (i := 2) sc_with_calls.nd rfl (Or.inl rfl) (pe_lst (pa_cons (pv 0) pa_nil)))
    (pss_cons (ps_while PassesOwn.never (pt_truth (pv 2) (by intro _; rfl))
      (pss_cons (ps_set (i := 3) sc_with_calls.nd rfl (Or.inl rfl) (pe_bm0 PySem.F.plainAttrs_list PySem.F.slot_list_pop PySem.F.type_list_pop mt_pop (pv 2)))
    (pss_one (ps_if (pt_val (cl (ok_is_construct T) T.h_is_construct hr (pa_cons (pv 3) pa_nil)))
      (pss_cons (ps_expr (pe_bm PySem.F.plainAttrs_list PySem.F.slot_list_append PySem.F.type_list_append mt_append (pv 1) (pa_cons (cl (ok_key_of T.toTx) T.h_key_of hr (pa_cons (pv 3) pa_nil)) pa_nil)))
    (pss_one (ps_expr (pe_bm PySem.F.plainAttrs_list PySem.F.slot_list_extend PySem.F.type_list_extend mt_extT (pv 2) (pa_cons (pe_revT0 (pv 3)) pa_nil)))))
      (pss_one (ps_expr (pe_bm PySem.F.plainAttrs_list PySem.F.slot_list_append PySem.F.type_list_append mt_append (pv 1) (pa_cons (pe_tup (pa_cons (pe_ifExp (pt_val (cl (ok_is_variable T.toTx) T.h_is_variable hr (pa_cons (pv 3) pa_nil))) (pe_tup (pa_cons pe_str (pa_cons (pv 3) pa_nil))) (pv 3)) (pa_cons pe_int pa_nil))) pa_nil))))))))
    (pss_one (ps_ret (cl (ok_folded T.toTx) T.h_folded hr (pa_cons (pv 1) pa_nil))))))), ?_⟩
  refine ⟨Nat.zero_le _, fun f hf => ?_⟩
  refine ⟨_, rfl, (by show 1 ≤ sizeLine; decide), fun l hl' => ?_⟩
  have hfl : f ≠ l := by
    intro e
    subst e
    rw [upd_same] at hl'
    cases hl'
  have hl : H l = none := by
    rw [upd_ne hfl.symm] at hl'
    exact hl'
  have e0 : Ex H (upd (upd H f (.lst [])) l (.lst [v])) := (Ex.new hf).trans (Ex.new hl')
  refine ⟨fun m σ' H' => ∃ x ts ws ds us, σ' = [some v, some (.ref f), some (.ref l), x] ∧ Ex H H' ∧ H' l = some (.lst ws) ∧ Reps K H' ts ws ∧ H' f = some (.lst us) ∧ RwReps K H' ds us ∧ ds ++ wrows ts.reverse = wrow t ∧ Oks ts ∧ sizes ts = m ∧ sizes ts + ds.length ≤ 50000,
    ⟨size t, none, [t], [v], [], [], rfl, e0, upd_same, Reps.one (hR.mono (Tups.of e0)), (by rw [upd_ne hfl, upd_same]), rwr_nil, ?_, (by rw [oks_cons]; exact ⟨hO, trivial⟩), sizes_one t, ?_⟩, ?_⟩
  · show wrows [t] = wrow t
    rw [wrows_cons, wrows_nil, List.append_nil]
  · rw [sizes_one]
    exact hz
  rintro m σ' H' ⟨x, ts, ws, ds, us, rfl, e1, hL, hRs, hF, hDs, hpre, hO2, rfl, hm⟩
  refine ⟨_, rfl, _, .inl ⟨ws, SqL.of hL, rfl⟩, ?_⟩
  rcases list_end ts with rfl | ⟨ts, t', rfl⟩
  · rw [hRs.nil_inv]
    have hw : ds = wrow t := by
      rw [← hpre]
      show ds = ds ++ wrows []
      rw [wrows_nil, List.append_nil]
    subst hw
    have hl2 := wrow_len t
    exact iteF ⟨_, rfl, f, wrow t, us, wc t, rfl, SqL.of hF, hDs, by rw [fold_wrow]; rfl, rooms_wrow t [] hO, by omega, fun u H2 e2 hu => q u H2 (e1.trans e2) hu⟩
  · obtain ⟨ws, v', rfl, hR1, hR2⟩ := hRs.last
    have hne : (!(ws ++ [v']).isEmpty) = true := by simp
    rw [hne]
    rw [sizes_app, sizes_one] at hm ⊢
    refine iteT ⟨fun σ2 H2 => ∃ m', m' < sizes ts + size t' ∧ ∃ x ts ws ds us, σ2 = [some v, some (.ref f), some (.ref l), x] ∧ Ex H H2 ∧ H2 l = some (.lst ws) ∧ Reps K H2 ts ws ∧ H2 f = some (.lst us) ∧ RwReps K H2 ds us ∧ ds ++ wrows ts.reverse = wrow t ∧ Oks ts ∧ sizes ts = m' ∧ sizes ts + ds.length ≤ 50000, fun _ _ h => h, ?_⟩
    refine ⟨_, rfl, .inl ⟨rfl, _, SqL.of hL⟩, l, _, v', rfl, rfl, hL, last_app _ _, ?_⟩
    rw [drop_app]
    have t1 : Tups K H' (upd H' l (.lst ws)) := Tups.lst hL
    have hF1 : (upd H' l (.lst ws)) f = some (.lst us) := by rw [upd_ne hfl]; exact hF
    have z0 := hDs.len
    have z4 := size_pos t'
    have hO3 := oks_app.mp hO2
    have hOt : Ok t' := by
      have := hO3.2
      rw [oks_cons] at this
      exact this.1
    have z1 := len_sizes ts
    have hlen := hR1.len
    have e2 : Ex H (upd H' l (.lst ws)) := Ex.mut e1 hl
    refine ⟨_, rfl, v', t', rfl, hR2.mono t1, hOt, fun H2 e3 => ⟨isCon t', rfl, ?_⟩⟩
    have hF2 := e3 f _ hF1
    have hL2 : H2 l = some (.lst ws) := e3 l _ upd_same
    have hR1' := (hR1.mono t1).mono (Tups.of (K := K) e3)
    have hR2' := (hR2.mono t1).mono (Tups.of (K := K) e3)
    have hDs' := (hDs.mono t1).mono (Tups.of (K := K) e3)
    cases hc : isCon t' with
    | true =>
      refine iteT ?_
      have hrep := hR2'
      cases t' with
      | comp g as =>
        refine ⟨_, rfl, .inl ⟨rfl, _, SqL.of hF2⟩, _, rfl, v', _, rfl, hR2', .inl ⟨g, as, rfl, fun kp H3 hkp e3b hK => ?_⟩⟩
        have hF3 := e3b f _ hF2
        have hL3 := e3b l _ hL2
        unfold Rep at hrep
        obtain ⟨a, ys, rfl, hT, hA⟩ := hrep
        have z5 := hA.len
        have z6 := len_sizes as
        have z7 : size (.comp g as) = 1 + sizes as := by rw [size]
        refine ⟨f, us, _, rfl, rfl, hF3, small5' (by omega), ?_⟩
        have t3 : Tups K H3 (upd H3 f (.lst (us ++ [V.ref kp]))) := Tups.lst hF3
        have hL3' : (upd H3 f (.lst (us ++ [V.ref kp]))) l = some (.lst ws) := by rw [upd_ne hfl.symm]; exact hL3
        have hF3' : (upd H3 f (.lst (us ++ [V.ref kp]))) f = some (.lst (us ++ [V.ref kp])) := upd_same
        have ex3 : Ex H (upd H3 f (.lst (us ++ [V.ref kp]))) := Ex.mut ((e2.trans e3).trans e3b) hf
        have tt3 : Tups K H2 (upd H3 f (.lst (us ++ [V.ref kp]))) := (Tups.of e3b).trans t3
        have hT' := tt3 _ _ hT
        have hDs3 : RwReps K (upd H3 f (.lst (us ++ [V.ref kp]))) (ds ++ [.node g as.length]) (us ++ [V.ref kp]) := RwReps.app (hDs'.mono tt3) (rwr_one (rwr_node (t3 _ _ (SqT.of hK))))
        have hR3 := hR1'.mono tt3
        have hA3 := hA.mono tt3
        generalize upd H3 f (.lst (us ++ [V.ref kp])) = H4 at *
        refine ⟨_, rfl, .inl ⟨rfl, _, SqL.of hL3'⟩, _, rfl, a, _, rfl, hT', (by rw [List.length_cons]; omega), fun p hp => ?_⟩
        have e4 := Ex.new (o := HO.tup (List.drop 1 (V.str g :: ys)).reverse) hp
        have hL4 := e4 l _ hL3'
        have hF4 := e4 f _ hF3'
        refine ⟨l, p, ws, ys.reverse, rfl, rfl, hL4, SqT.of upd_same, small5 (by rw [List.length_reverse]; omega), sizes (ts ++ as.reverse), ?_, _, ts ++ as.reverse, ws ++ ys.reverse, _, _, rfl, ?_, upd_same, ?_, ?_, (hDs3.mono (Tups.of e4)).mono (Tups.lst hL4), ?_, ?_, rfl, ?_⟩
        · rw [sizes_app, sizes_rev]
          omega
        · exact Ex.mut (ex3.trans e4) hl
        · exact Reps.app ((hR3.mono (Tups.of e4)).mono (Tups.lst hL4)) ((hA3.rev.mono (Tups.of e4)).mono (Tups.lst hL4))
        · rw [upd_ne hfl]
          exact hF4
        · rw [← hpre, List.reverse_append, List.reverse_append, List.reverse_reverse, wrows_app]
          show ds ++ [.node g as.length] ++ (wrows as ++ wrows ts.reverse) = ds ++ wrows (.comp g as :: ts.reverse)
          rw [wrows_cons, wrow_con hc, List.append_assoc]
          rfl
        · exact oks_app.mpr ⟨hO3.1, oks_rev (ok_args hOt)⟩
        · rw [sizes_app, sizes_rev, List.length_append, List.length_singleton]
          omega
      | var k => cases hc
      | int k => cases hc
      | atom k => cases hc
    | false =>
      refine iteF ⟨_, rfl, .inl ⟨rfl, _, SqL.of hF2⟩, ?_⟩
      refine ⟨_, rfl, v', t', rfl, hR2', hOt, isVar t', rfl, ?_⟩
      have fin : ∀ (H3 : Hp) (u : V) (p : Addr), Ex H2 H3 → Rep K H3 (wl t') u → H3 p = none → ∃ (l2 : Addr) (xs : List V) (y : V), V.ref f = V.ref l2 ∧ [V.ref p] = [y] ∧ (upd H3 p (.tup [u, .int 0])) l2 = some (.lst xs) ∧ xs.length < sizeLine ∧
          ∃ m', m' < sizes ts + size t' ∧ ∃ (x1 : Option V) (ts1 : List Tm) (ws1 : List V) (ds1 : List Rw) (us1 : List V), [some v, some (.ref f), some (.ref l), some v'] = [some v, some (.ref f), some (.ref l), x1] ∧ Ex H (upd (upd H3 p (.tup [u, .int 0])) l2 (.lst (xs ++ [y]))) ∧ (upd (upd H3 p (.tup [u, .int 0])) l2 (.lst (xs ++ [y]))) l = some (.lst ws1) ∧ Reps K (upd (upd H3 p (.tup [u, .int 0])) l2 (.lst (xs ++ [y]))) ts1 ws1 ∧ (upd (upd H3 p (.tup [u, .int 0])) l2 (.lst (xs ++ [y]))) f = some (.lst us1) ∧ RwReps K (upd (upd H3 p (.tup [u, .int 0])) l2 (.lst (xs ++ [y]))) ds1 us1 ∧ ds1 ++ wrows ts1.reverse = wrow t ∧ Oks ts1 ∧ sizes ts1 = m' ∧ sizes ts1 + ds1.length ≤ 50000 := fun H3 u p e5 hu hp => by
        have e6 := Ex.new (o := HO.tup [u, .int 0]) hp
        have e56 := e5.trans e6
        have hF6 := e56 f _ hF2
        have hL6 := e56 l _ hL2
        have tt : Tups K H2 (upd (upd H3 p (.tup [u, .int 0])) f (.lst (us ++ [V.ref p]))) := (Tups.of e56).trans (Tups.lst hF6)
        refine ⟨f, us, _, rfl, rfl, hF6, small5' (by omega), sizes ts, by omega, _, ts, ws, ds ++ [.leaf (wl t')], us ++ [.ref p], rfl, Ex.mut ((e2.trans e3).trans e56) hf, ?_, hR1'.mono tt, upd_same, RwReps.app (hDs'.mono tt) (rwr_one (rwr_leaf ((Tups.lst hF6) _ _ (SqT.of upd_same)) ((hu.mono (Tups.of e6)).mono (Tups.lst hF6)))), ?_, hO3.1, rfl, ?_⟩
        · rw [upd_ne hfl.symm]
          exact hL6
        · rw [← hpre, List.reverse_append]
          show ds ++ [.leaf (wl t')] ++ wrows ts.reverse = ds ++ wrows (t' :: ts.reverse)
          rw [wrows_cons, wrow_not hc, List.append_assoc]
        · rw [List.length_append, List.length_singleton]
          omega
      cases t' with
      | var k =>
        refine iteT ⟨_, rfl, (by show 2 ≤ sizeLine; decide), fun p1 hp1 => ⟨(by show 2 ≤ sizeLine; decide), fun p hp => fin _ (.ref p1) p (Ex.new hp1) ?_ hp⟩⟩
        show Rep K _ (.comp "call" [.var k]) _
        unfold Rep
        exact ⟨p1, _, rfl, SqT.of upd_same, Reps.one (hR2'.mono (Tups.of (Ex.new hp1)))⟩
      | int k => exact iteF ⟨_, rfl, (by show 2 ≤ sizeLine; decide), fun p hp => fin _ v' p (Ex.refl _) hR2' hp⟩
      | atom k => exact iteF ⟨_, rfl, (by show 2 ≤ sizeLine; decide), fun p hp => fin _ v' p (Ex.refl _) hR2' hp⟩
      | comp g as => exact iteF ⟨_, rfl, (by show 2 ≤ sizeLine; decide), fun p hp => fin _ v' p (Ex.refl _) hR2' hp⟩
end
end Hm

set_option Elab.async false
set_option linter.all false
set_option maxRecDepth 100000
set_option maxHeartbeats 1000000
namespace Hm
open PySem PySem.Spec PyProof.Rows L2 HT
open Evl (Ex)
section
variable {P : Program} {w : World} {K : PySem.W.Frag} {mg : Str → Option Value} {base : Heap}
def spIniS (C : Addr) (f : Str) : Sp := fun vs H Q E => (∃ a z, vs = [.ref a, .str z] ∧ z.length ≤ 1000) ∧ RG.spIni C f vs H Q E
theorem ok_noc_init (T : Tx K mg) : FnOk P w K mg base CX0 1 T.i_Noc T.d_Noc ["self", "why"] (spIniS T.a_Noc "why") := by
  refine T.F_Noc.ok sc_NoClause_init (fun vs H Q E h => ?_) (fun cdv A outer s H vs Q E hr h => ?_)
  · obtain ⟨⟨a, v, rfl, _⟩, _⟩ := h
    rfl
  obtain ⟨⟨a, z, rfl, hz⟩, a', v', e, ha, q⟩ := h
  cases e
  refine ⟨_, (pss_cons (ps_expr (RG.pe_hinit T.e_Horn rfl (pa_cons (pv 0) (pa_cons (pe_joined (PJ.cons pe_str (PJ.cons (pe_fmt (pv 1)) PJ.nil))) pa_nil)))) (pss_one (ps_ost (pv 0) (pv 1)))), ?_⟩
  refine ⟨_, rfl, _, rfl, by decide +kernel, _, rfl, .inl ⟨z, rfl, small5 (by omega), z, rfl, ?_, a, _, [.str (Str.empty ++ "no clause: " ++ z)], rfl, by show 1 ≤ 1000; decide, T.e_Noc.oex, ha, _, rfl, _, rfl, a, _, rfl, T.e_Noc.oex, T.e_Noc.noF, .inl ⟨ha, fun d hd ne => q d hd ne⟩⟩⟩
  rw [PySem.Str.length_append, PySem.Str.length_append]
  have e1 : Str.empty.length = 0 := rfl
  have e2 : ("no clause: " : Str).length = 11 := by decide +kernel
  rw [e1, e2]
  exact small5 (by omega)
theorem made_noc {C : Addr} {z : Str} {H : Hp} {Q : XK} (hz : z.length ≤ 1000) (q : RG.Comes C "why" (.str z) H Q) : ([V.str z].length ≤ 1000 ∧ ∀ a, H a = none → spIniS C "why" (.ref a :: ([V.str z] ++ [])) (upd H a (exo a C none))
    (fun u H2 => u = .non ∧ ∃ (d : Addr) (fs : List (Str × V)), H2 a = some (exo a C (some d)) ∧ H2 d = some (exd d fs) ∧ H d = none ∧ Q (.ref C) (some d) (upd (del H2 a) d (.xd fs))) (fun _ _ _ => False)) := by
  have h := RG.made_err (C := C) (f := "why") (v := .str z) (H := H) (Q := Q) fun d H' h1 e h2 => q d H' h1 e h2
  exact ⟨h.1, fun a ha => ⟨⟨a, z, rfl, hz⟩, h.2 a ha⟩⟩
def spIsB (K : PySem.W.Frag) (f : Tm → Bool) : Sp := fun vs H Q _ => ∃ v, vs = [v] ∧ ((∃ t, Rep K H t v ∧ Ok t ∧ size t ≤ 1400 ∧ ∀ H', Ex H H' → Q (.bl (f t)) H') ∨ ∃ d, OdAt K H v d ∧ sizeD d ≤ 60000 ∧ isT d = false ∧ ∀ H', Ex H H' → Q (.bl false) H')
theorem ok_is_body (T : Ty P w K mg) : FnOk P w K mg base CX0 5 T.f_is_body T.d_is_body ["term"] (spIsB K body) := by
  refine T.h_is_body.F.ok sc_is_body (fun vs H Q E h => ?_) (fun cdv A outer s H vs Q E hr h => ?_)
  · obtain ⟨v, rfl, _⟩ := h
    rfl
  obtain ⟨v, rfl, h⟩ := h
  refine ⟨_, (pss_one (ps_ret (pe_and (cl (ok_is_term T.toTx) T.h_is_term hr (pa_cons (pv 0) pa_nil)) (pe_one (cl (ok_has_goals T) T.h_has_goals hr (pa_cons (pv 0) pa_nil)))))), ?_⟩
  rcases h with ⟨t, hR, hO, hz, q⟩ | ⟨d, hd, hz, ht, q⟩
  · refine ⟨_, rfl, v, odT t, rfl, od_rep hR, by have := sizeD_tm hO; omega, fun H1 e1 => ⟨isT (odT t), rfl, ?_⟩⟩
    rw [isT_tm hO]
    exact iteT ⟨_, rfl, v, t, rfl, hR.mono (Tups.of e1), hO, by omega, fun H2 e2 => q H2 (e1.trans e2)⟩
  · refine ⟨_, rfl, v, d, rfl, hd, hz, fun H1 e1 => ⟨isT d, rfl, ?_⟩⟩
    rw [ht]
    exact iteF (q H1 e1)
def clauseB (t : Tm) : Bool := callable (sides t).1 && body (sides t).2
theorem ok_is_clause (T : Ty P w K mg) : FnOk P w K mg base CX0 5 T.f_is_clause T.d_is_clause ["term"] (spIsB K clauseB) := by
  refine T.h_is_clause.F.ok sc_is_clause (fun vs H Q E h => ?_) (fun cdv A outer s H vs Q E hr h => ?_)
  · obtain ⟨v, rfl, _⟩ := h
    rfl
  obtain ⟨v, rfl, h⟩ := h
  refine ⟨_, (pss_cons (ps_if (pt_not (pt_val (cl (ok_is_term T.toTx) T.h_is_term hr (pa_cons (pv 0) pa_nil))))
      (pss_one (ps_ret pe_bl))
      pss_nil)
    (pss_cons (ps_asg (cl (ok_sides_of T.toTx) T.h_sides_of hr (pa_cons (pv 0) pa_nil)) (pg_tup rfl (pgs_cons (pg_name (i := 1) sc_is_clause.nd rfl (Or.inl rfl)) (pgs_cons (pg_name (i := 2) sc_is_clause.nd rfl (Or.inl rfl)) pgs_nil))))
    (pss_one (ps_ret (pe_and (cl (ok_is_callable T.toTx) T.h_is_callable hr (pa_cons (pv 1) pa_nil)) (pe_one (cl (ok_has_goals T) T.h_has_goals hr (pa_cons (pv 2) pa_nil)))))))), ?_⟩
  rcases h with ⟨t, hR, hO, hz, q⟩ | ⟨d, hd, hz, ht, q⟩
  · refine ⟨_, rfl, v, odT t, rfl, od_rep hR, by have := sizeD_tm hO; omega, fun H1 e1 => ⟨isT (odT t), rfl, ?_⟩⟩
    rw [isT_tm hO]
    have hsz := size_sides t
    have hp1 := size_pos (sides t).1
    refine iteF ⟨_, rfl, v, t, rfl, hR.mono (Tups.of e1), hO, fun p x y H2 hp e2 hT hx hy => ?_⟩
    refine ⟨p, _, rfl, SqT.of hT, rfl, _, _, rfl, _, _, rfl, rfl, ?_⟩
    have oks := ok_sides hO
    have hp2 := size_pos (sides t).2
    refine ⟨_, rfl, x, _, rfl, hx, oks.1, callable (sides t).1, rfl, ?_⟩
    unfold clauseB at q
    cases hc : callable (sides t).1 with
    | true =>
      rw [hc, Bool.true_and] at q
      exact iteT ⟨_, rfl, y, _, rfl, hy, oks.2, by omega, fun H3 e3 => q H3 ((e1.trans e2).trans e3)⟩
    | false =>
      rw [hc, Bool.false_and] at q
      exact iteF (q H2 (e1.trans e2))
  · refine ⟨_, rfl, v, d, rfl, hd, hz, fun H1 e1 => ⟨isT d, rfl, ?_⟩⟩
    rw [ht]
    exact iteT (q H1 e1)
/-- what stored gives -/
inductive Out where
  | err (z : Str)
  | ok (t : Tm)
def outc (t : Tm) : Out := if callable (sides t).1 = false then .err "head" else if body (sides t).2 = false then .err "body" else .ok (renum (.comp ":-" [(sides t).1, wc (sides t).2]))
def OutOf (K : PySem.W.Frag) (H : Hp) (v : V) (o : Out) : Prop := (∃ t, Rep K H t v ∧ Ok t ∧ size t ≤ 690 ∧ o = outc t) ∨ ∃ d, OdAt K H v d ∧ sizeD d ≤ 60000 ∧ isT d = false ∧ o = .err "head"
def spStored (K : PySem.W.Frag) (C : Addr) : Sp := fun vs H Q E => ∃ v o, vs = [v] ∧ OutOf K H v o ∧ (∀ z, o = .err z → RG.Comes C "why" (.str z) H E) ∧ ∀ t, o = .ok t → ∀ u H', Ex H H' → Rep K H' t u → Q u H'
theorem ok_stored (T : Ty P w K mg) : FnOk P w K mg base (L2.CX P w) 8 T.f_stored T.d_stored ["clause"] (spStored K T.a_Noc) := by
  refine T.h_stored.F.okX sc_stored (fun vs H Q E h => ?_) (fun cdv A outer s H vs Q E hr h => ?_)
  · obtain ⟨v, _, rfl, _⟩ := h
    rfl
  obtain ⟨v, o, rfl, h, qe, qt⟩ := h
  refine ⟨_, (pss_cons (ps_if (pt_not (pt_val (cl (ok_is_term T.toTx) T.h_is_term hr (pa_cons (pv 0) pa_nil))))
      (pss_one (ps_raise rfl (takes_of rfl rfl rfl rfl) (pmk_oex T.e_Noc.oex T.e_Noc.iC T.e_Noc.tI (ok_noc_init T.toTx) (hr.mono (by decide)) T.b_Noc .nil pass0 rfl T.e_Noc.at_ (pa_cons pe_str pa_nil))))
      pss_nil)
    (pss_cons (ps_asg (cl (ok_sides_of T.toTx) T.h_sides_of hr (pa_cons (pv 0) pa_nil)) (pg_tup rfl (pgs_cons (pg_name (i := 1) sc_stored.nd rfl (Or.inl rfl)) (pgs_cons (pg_name (i := 2) sc_stored.nd rfl (Or.inl rfl)) pgs_nil))))
    (pss_cons (ps_if (pt_not (pt_val (cl (ok_is_callable T.toTx) T.h_is_callable hr (pa_cons (pv 1) pa_nil))))
      (pss_one (ps_raise rfl (takes_of rfl rfl rfl rfl) (pmk_oex T.e_Noc.oex T.e_Noc.iC T.e_Noc.tI (ok_noc_init T.toTx) (hr.mono (by decide)) T.b_Noc .nil pass0 rfl T.e_Noc.at_ (pa_cons pe_str pa_nil))))
      pss_nil)
    (pss_cons (ps_if (pt_not (pt_val (cl (ok_has_goals T) T.h_has_goals hr (pa_cons (pv 2) pa_nil))))
      (pss_one (ps_raise rfl (takes_of rfl rfl rfl rfl) (pmk_oex T.e_Noc.oex T.e_Noc.iC T.e_Noc.tI (ok_noc_init T.toTx) (hr.mono (by decide)) T.b_Noc .nil pass0 rfl T.e_Noc.at_ (pa_cons pe_str pa_nil))))
      pss_nil)
    (pss_one (ps_ret (cl (ok_renumbered T.toTx) T.h_renumbered hr (pa_cons (pe_tup (pa_cons pe_str (pa_cons (pv 1) (pa_cons (cl (ok_with_calls T) T.h_with_calls hr (pa_cons (pv 2) pa_nil)) pa_nil)))) pa_nil)))))))), ?_⟩
  rcases h with ⟨t, hR, hO, hz, rfl⟩ | ⟨d, hd, hz, ht, rfl⟩
  · refine ⟨_, rfl, v, odT t, rfl, od_rep hR, by have := sizeD_tm hO; omega, fun H1 e1 => ⟨isT (odT t), rfl, ?_⟩⟩
    rw [isT_tm hO]
    have hsz := size_sides t
    have hp1 := size_pos (sides t).1
    have hp2 := size_pos (sides t).2
    have hs2 := size_wc (sides t).2
    refine iteF ⟨_, rfl, v, t, rfl, hR.mono (Tups.of e1), hO, fun p x y H2 hp e2 hT hx hy => ?_⟩
    refine ⟨p, _, rfl, SqT.of hT, rfl, _, _, rfl, _, _, rfl, rfl, ?_⟩
    have oks := ok_sides hO
    refine ⟨_, rfl, x, _, rfl, hx, oks.1, callable (sides t).1, rfl, ?_⟩
    have e12 := e1.trans e2
    cases hc : callable (sides t).1 with
    | false => exact iteT (made_noc (by decide) fun dd H3 h1 e3 h2 => qe "head" (if_pos hc) dd H3 (ex_none e12 h1) (e12.trans e3) h2)
    | true =>
      refine iteF ⟨_, rfl, y, _, rfl, hy, oks.2, by omega, fun H3 e3 => ⟨body (sides t).2, rfl, ?_⟩⟩
      have e13 := e12.trans e3
      have hc' : ¬ callable (sides t).1 = false := by rw [hc]; decide
      cases hb : body (sides t).2 with
      | false => exact iteT (made_noc (by decide) fun dd H4 h1 e4 h2 => qe "body" (by unfold outc; rw [if_neg hc', if_pos hb]) dd H4 (ex_none e13 h1) (e13.trans e4) h2)
      | true =>
        have hb' : ¬ body (sides t).2 = false := by rw [hb]; decide
        refine iteF ⟨_, rfl, _, rfl, y, _, rfl, hy.mono (Tups.of e3), oks.2, by omega, fun u H4 e4 hu => ⟨(by show 3 ≤ sizeLine; decide), fun p2 hp2 => ?_⟩⟩
        have e5 := Ex.new (o := HO.tup [V.str ":-", x, u]) hp2
        refine ⟨.ref p2, .comp ":-" [(sides t).1, wc (sides t).2], rfl, ?_, ?_, ?_, fun u2 H5 e6 hu2 => qt _ (by unfold outc; rw [if_neg hc', if_neg hb']) u2 H5 (((e13.trans e4).trans e5).trans e6) hu2⟩
        · unfold Rep
          exact ⟨p2, _, rfl, SqT.of upd_same, Reps.cons (((hx.mono (Tups.of e3)).mono (Tups.of e4)).mono (Tups.of e5)) (Reps.one (hu.mono (Tups.of e5)))⟩
        · unfold Ok
          exact ⟨neck_ok, by show 1 ≤ 2; decide, by show 2 ≤ 8; decide, by rw [oks_cons, oks_cons]; exact ⟨oks.1, ok_wc oks.2, trivial⟩⟩
        · rw [size, sizes_cons, sizes_one]
          omega
  · refine ⟨_, rfl, v, d, rfl, hd, hz, fun H1 e1 => ⟨isT d, rfl, ?_⟩⟩
    rw [ht]
    exact iteT (made_noc (by decide) fun dd H2 h1 e2 h2 => qe "head" rfl dd H2 (ex_none e1 h1) (e1.trans e2) h2)
end
end Hm

set_option Elab.async false
set_option linter.all false
set_option maxRecDepth 100000
set_option maxHeartbeats 1000000
namespace Hm
open PySem PySem.Spec PyProof.Rows L2 HT
open Evl (Ex)
section
variable {P : Program} {w : World} {K : PySem.W.Frag} {mg : Str → Option Value} {base : Heap}
def spCell0 (K : PySem.W.Frag) : Sp := fun vs H Q _ => ∃ a, ∃ ns : List Int, vs = [.ref a, .int 0] ∧ SqL K H a (ns.map V.int) ∧ ∀ z : Int, Q (.int z) H
theorem ok_law_cell_at (T : Tx K mg) : FnOk P w K mg base CX0 1 T.f_law_cell_at T.d_law_cell_at ["_law_script", "_law_k"] (spCell0 K) := by
  refine T.h_law_cell_at.F.ok sc_law_cell_at (fun vs H Q E h => ?_) (fun cdv A outer s H vs Q E hr h => ?_)
  · obtain ⟨a, ns, rfl, _⟩ := h
    rfl
  obtain ⟨a, ns, rfl, hS, q⟩ := h
  refine ⟨_, (pss_cons (ps_if (pt_cmpR op_lt (pv 1) (pe_callB call_len_seq rfl T.b_len (by decide +kernel) (pa_cons (pv 0) pa_nil)) (nomark _))
      (pss_one (ps_ret (pe_ix ix_list (pv 0) (pv 1) (fun _ _ => rfl))))
      pss_nil)
    (pss_one (ps_ret pe_int))), ?_⟩
  refine ⟨_, rfl, _, rfl, a, _, rfl, .inl hS, _, _, rfl, rfl, _, rfl, ?_⟩
  cases ns with
  | nil => exact iteF (q 0)
  | cons n ns =>
    have h : decide ((0 : Int) < (((n :: ns).map V.int).length : Int)) = true := decide_eq_true (by rw [List.length_map, List.length_cons]; omega)
    rw [h]
    exact iteT ⟨_, rfl, _, rfl, a, _, 0, _, rfl, rfl, hS, at0, q n⟩
def spWell : Sp := fun vs H Q _ => ∃ c : Int, vs = [.int c] ∧ ∀ p x y H', H p = none → Ex H H' → H' p = some (.lst [.int x, .int y, .int 0]) → Q (.ref p) H'
theorem ok_law_well (T : Tx K mg) : FnOk P w K mg base CX0 1 T.f_law_well T.d_law_well ["_law_cell"] spWell := by
  refine T.h_law_well.F.ok sc_law_well (fun vs H Q E h => ?_) (fun cdv A outer s H vs Q E hr h => ?_)
  · obtain ⟨c, rfl, _⟩ := h
    rfl
  obtain ⟨c, rfl, q⟩ := h
  refine ⟨_, (pss_one (ps_ret (pe_lst (pa_cons (pe_ix ix_list (pe_lst (pa_cons pe_int (pa_cons (pv 0) pa_nil))) (pe_callTy call_int1 rfl T.b_int (by decide +kernel) (pa_cons (pe_cmpR op_ge (pv 0) (pe_op op_pow pe_int pe_int) (nomark _)) pa_nil)) (fun _ _ => rfl)) (pa_cons (pv 0) (pa_cons pe_int pa_nil)))))), ?_⟩
  refine ⟨_, rfl, (by show 2 ≤ sizeLine; decide), fun p1 hp1 => ⟨_, rfl, _, _, rfl, rfl, ⟨by decide, by decide, by decide⟩, _, _, rfl, rfl, .inr ⟨_, rfl, ?_⟩⟩⟩
  obtain ⟨z, hz⟩ : ∃ z : Int, atI [V.int 0, V.int c] (if decide ((10 : Int) ^ Int.toNat 18 ≤ c) = true then 1 else 0) = some (.int z) := by
    split
    · exact ⟨c, rfl⟩
    · exact ⟨0, rfl⟩
  exact ⟨p1, _, _, _, rfl, rfl, SqL.of upd_same, hz, _, rfl, (by show 3 ≤ sizeLine; decide), fun p hp => q p _ _ _ (ex_none (Ex.new hp1) hp) ((Ex.new hp1).trans (Ex.new hp)) upd_same⟩
def spAtm (K : PySem.W.Frag) : Sp := fun vs H Q _ => ∃ a b, vs = [.ref a] ∧ Well (b + 1) H a ∧ ∀ s H', Dr b a H H' → AtomOk s → Q (.str s) H'
theorem ok_law_atom (T : Tx K mg) : FnOk P w K mg base CX0 3 T.f_law_atom T.d_law_atom ["_law_well_here"] (spAtm K) := by
  refine T.h_law_atom.F.ok sc_law_atom (fun vs H Q E h => ?_) (fun cdv A outer s H vs Q E hr h => ?_)
  · obtain ⟨c, b, rfl, _⟩ := h
    rfl
  obtain ⟨a, b, rfl, hW, q⟩ := h
  refine ⟨_, (pss_one (ps_ret (cl (ok_law_one T) T.h_law_one hr (pa_cons (pv 0) (pa_cons (pe_lst (pa_cons pe_str (pa_cons pe_str (pa_cons pe_str (pa_cons pe_str (pa_cons pe_str (pa_cons pe_str (pa_cons pe_str (pa_cons pe_str (pa_cons pe_str (pa_cons pe_str pa_nil))))))))))) pa_nil))))), ?_⟩
  refine ⟨_, rfl, (by show 10 ≤ sizeLine; decide), fun l hl => ⟨a, l, _, b, rfl, (Dr.ex hW (Ex.new hl)).well, hW.ne hl, SqL.of upd_same, by simp, (by show 10 ≤ 1000; decide), fun x H1 hx d1 => ?_⟩⟩
  have d := (Dr.ex hW (Ex.new hl)).trans d1
  simp only [List.mem_cons, List.not_mem_nil, or_false] at hx
  rcases hx with rfl | rfl | rfl | rfl | rfl | rfl | rfl | rfl | rfl | rfl <;> exact q _ H1 d ⟨by decide +kernel, by decide +kernel⟩
end
end Hm

set_option Elab.async false
set_option linter.all false
set_option maxRecDepth 100000
set_option maxHeartbeats 1000000
namespace Hm
open PySem PySem.Spec PyProof.Rows L2 HT
open Evl (Ex)
/-- the most draws of a part, the most of its size -/
def Fd : Nat → Nat
  | 0 => 6
  | d + 1 => 6 + 3 * Fd d
def Sd : Nat → Nat
  | 0 => 1
  | d + 1 => 1 + 3 * Sd d
mutual
def Vb : Tm → Prop
  | .var k => k < 1000000
  | .int _ => True
  | .atom _ => True
  | .comp _ as => Vbs as
def Vbs : List Tm → Prop
  | [] => True
  | t :: ts => Vb t ∧ Vbs ts
end
theorem vbs_cons (t : Tm) (ts : List Tm) : Vbs (t :: ts) = (Vb t ∧ Vbs ts) := by rw [Vbs]
theorem vbs_app : ∀ {xs ys : List Tm}, Vbs xs → Vbs ys → Vbs (xs ++ ys)
  | [], _, _, h => h
  | x :: xs, ys, h, g => by
    rw [vbs_cons] at h
    show Vbs (x :: (xs ++ ys))
    rw [vbs_cons]
    exact ⟨h.1, vbs_app h.2 g⟩
structure PartOk (d : Nat) (t : Tm) : Prop where
  ok : Ok t
  siz : size t ≤ Sd d
  dep : depth t ≤ d + 1
  vb : Vb t
structure PartsOk (d : Nat) (ts : List Tm) : Prop where
  ok : Oks ts
  siz : sizes ts ≤ ts.length * Sd d
  dep : depths ts ≤ d + 1
  vb : Vbs ts
theorem PartsOk.nil {d : Nat} : PartsOk d [] := ⟨trivial, Nat.zero_le _, by simp [depths], trivial⟩
theorem PartsOk.snoc {d : Nat} {ts : List Tm} {t : Tm} (h : PartsOk d ts) (g : PartOk d t) : PartsOk d (ts ++ [t]) := by
  refine ⟨oks_app.mpr ⟨h.ok, by rw [oks_cons]; exact ⟨g.ok, trivial⟩⟩, ?_, ?_, vbs_app h.vb (by rw [vbs_cons]; exact ⟨g.vb, trivial⟩)⟩
  · rw [sizes_app, sizes_one, List.length_append, List.length_singleton, Nat.add_mul]
    have h1 := h.siz
    have h2 := g.siz
    omega
  · rw [depths_app]
    have h1 := h.dep
    have h2 := g.dep
    have h3 : depths [t] = depth t := by simp [depths]
    omega
theorem PartsOk.comp {d : Nat} {ts : List Tm} {f : Str} (h : PartsOk d ts) (hf : AtomOk f) (h1 : 1 ≤ ts.length) (h2 : ts.length ≤ 3) : PartOk (d + 1) (.comp f ts) := by
  refine ⟨?_, ?_, ?_, by unfold Vb; exact h.vb⟩
  · unfold Ok
    exact ⟨hf, h1, by omega, h.ok⟩
  · unfold size Sd
    have := h.siz
    have h3 := Nat.mul_le_mul_right (Sd d) h2
    omega
  · unfold depth
    have := h.dep
    omega
theorem dec_ii {i j : Int} : decide (V.int i = V.int j) = decide (i = j) := by
  by_cases h : i = j
  · rw [decide_eq_true h, decide_eq_true (by rw [h])]
  · rw [decide_eq_false h, decide_eq_false (fun z => h (by injection z))]
def namesP : List Str := [",", ",", ";", ";", "->", "*->", "\\+", "once", "ignore", "forall", "call", "f", ":-"]
def manyP : List (Key × V) := [(Sum.inr ",", .int 2), (Sum.inr ";", .int 2), (Sum.inr "->", .int 2), (Sum.inr "*->", .int 2), (Sum.inr "forall", .int 2), (Sum.inr ":-", .int 2)]
theorem names_ok {f : Str} (h : f ∈ namesP) : AtomOk f ∧ ∃ m : Nat, (valV (mergeK [] manyP) (Sum.inr f)).getD (.int 1) = .int (m : Int) ∧ 1 ≤ m ∧ m ≤ 2 := by
  simp only [namesP, List.mem_cons, List.not_mem_nil, or_false] at h
  rcases h with rfl | rfl | rfl | rfl | rfl | rfl | rfl | rfl | rfl | rfl | rfl | rfl | rfl
  · exact ⟨⟨by decide +kernel, by decide +kernel⟩, 2, by rfl, by decide, by decide⟩
  · exact ⟨⟨by decide +kernel, by decide +kernel⟩, 2, by rfl, by decide, by decide⟩
  · exact ⟨⟨by decide +kernel, by decide +kernel⟩, 2, by rfl, by decide, by decide⟩
  · exact ⟨⟨by decide +kernel, by decide +kernel⟩, 2, by rfl, by decide, by decide⟩
  · exact ⟨⟨by decide +kernel, by decide +kernel⟩, 2, by rfl, by decide, by decide⟩
  · exact ⟨⟨by decide +kernel, by decide +kernel⟩, 2, by rfl, by decide, by decide⟩
  · exact ⟨⟨by decide +kernel, by decide +kernel⟩, 1, by rfl, by decide, by decide⟩
  · exact ⟨⟨by decide +kernel, by decide +kernel⟩, 1, by rfl, by decide, by decide⟩
  · exact ⟨⟨by decide +kernel, by decide +kernel⟩, 1, by rfl, by decide, by decide⟩
  · exact ⟨⟨by decide +kernel, by decide +kernel⟩, 2, by rfl, by decide, by decide⟩
  · exact ⟨⟨by decide +kernel, by decide +kernel⟩, 1, by rfl, by decide, by decide⟩
  · exact ⟨⟨by decide +kernel, by decide +kernel⟩, 1, by rfl, by decide, by decide⟩
  · exact ⟨⟨by decide +kernel, by decide +kernel⟩, 2, by rfl, by decide, by decide⟩
theorem Sd_pos (d : Nat) : 1 ≤ Sd d := by
  cases d <;> unfold Sd <;> omega
theorem Fd_pos (d : Nat) : 6 ≤ Fd d := by
  cases d <;> unfold Fd <;> omega
section
variable {P : Program} {w : World} {K : PySem.W.Frag} {mg : Str → Option Value} {base : Heap}
def spPartN (K : PySem.W.Frag) : Nat → Sp
  | 0 => fun _ _ _ _ => False
  | d + 1 => fun vs H Q _ => ∃ a b, vs = [.ref a, .int (d : Int)] ∧ Well (b + Fd d) H a ∧ ∀ v t H', Dr b a H H' → Rep K H' t v → PartOk d t → Q v H'
theorem leaf_ok {d : Nat} {t : Tm} (h : Ok t) (h1 : size t = 1) (h2 : depth t = 1) (h3 : Vb t) : PartOk d t := ⟨h, by have := Sd_pos d; omega, by omega, h3⟩
theorem part_step (T : Tx K mg) (d : Nat) (ih : FnOk P w K mg base CX0 (d + 3) T.f_law_part T.d_law_part ["_law_well_here", "_law_deep"] (spPartN K d)) :
    FnOk P w K mg base CX0 (d + 3 + 1) T.f_law_part T.d_law_part ["_law_well_here", "_law_deep"] (spPartN K (d + 1)) := by
  refine T.h_law_part.F.ok sc_law_part (fun vs H Q E h => ?_) (fun cdv A outer s H vs Q E hr h => ?_)
  · obtain ⟨v, t, rfl, _⟩ := h
    rfl
  obtain ⟨a, b, rfl, hW, q⟩ := h
  have hu := hr.units
  have hu2 : (A.deeper (envOfC "_law_part" (defScope s_law_part) s.heap.objs.size T.f_law_part cdv)).units + 1 < cLine := by omega
  refine ⟨_, (pss_cons (ps_set (i := 2) sc_law_part.nd rfl (Or.inl rfl) (cl (ok_law_draw T) T.h_law_draw hr (pa_cons (pv 0) (pa_cons pe_int pa_nil))))
    (Evl.pss_cut (ps_if (PW.pt (pw_or (pt_cmpR op_eq (pv 1) pe_int (nomark _)) (pw_or1 (pt_cmpR op_lt (pv 2) pe_int (nomark _)))))
      (pss_one (ps_ret (cl (ok_law_one T) T.h_law_one hr (pa_cons (pv 0) (pa_cons (pe_lst (pa_cons (pe_tup (pa_cons (cl (ok_law_draw T) T.h_law_draw hr (pa_cons (pv 0) (pa_cons pe_int pa_nil))) pa_nil)) (pa_cons (pe_tup (pa_cons (cl (ok_law_draw T) T.h_law_draw hr (pa_cons (pv 0) (pa_cons pe_int pa_nil))) pa_nil)) (pa_cons (cl (ok_law_atom T) T.h_law_atom hr (pa_cons (pv 0) pa_nil)) (pa_cons (cl (ok_law_atom T) T.h_law_atom hr (pa_cons (pv 0) pa_nil)) (pa_cons (pv 2) pa_nil)))))) pa_nil)))))
      pss_nil)
    (Evl.pss_cut (ps_set (i := 3) sc_law_part.nd rfl (Or.inl rfl) (cl (ok_law_one T) T.h_law_one hr (pa_cons (pv 0) (pa_cons (pe_lst (pa_cons pe_str (pa_cons pe_str (pa_cons pe_str (pa_cons pe_str (pa_cons pe_str (pa_cons pe_str (pa_cons pe_str (pa_cons pe_str (pa_cons pe_str (pa_cons pe_str (pa_cons pe_str (pa_cons pe_str (pa_cons pe_str pa_nil)))))))))))))) pa_nil))))
    (pss_cons (ps_set (i := 4) sc_law_part.nd rfl (Or.inl rfl) (pe_dget2 hu2 (pe_disp (pps_cons pe_str pe_int (pps_cons pe_str pe_int (pps_cons pe_str pe_int (pps_cons pe_str pe_int (pps_cons pe_str pe_int (pps_cons pe_str pe_int pps_nil)))))) rfl rfl (by decide) (by decide)) (pv 3) pe_int ⟨rfl, rfl, rfl, rfl⟩))
    (Evl.pss_cut (ps_if (pt_cmpR op_eq (cl (ok_law_draw T) T.h_law_draw hr (pa_cons (pv 0) (pa_cons pe_int pa_nil))) pe_int (nomark _))
      (pss_one (ps_set (i := 4) sc_law_part.nd rfl (Or.inl rfl) (pe_op op_add pe_int (cl (ok_law_draw T) T.h_law_draw hr (pa_cons (pv 0) (pa_cons pe_int pa_nil))))))
      pss_nil)
    (pss_one (ps_ret (pe_op op_catT (pe_tup (pa_cons (pv 3) pa_nil)) (pe_callTy call_tuple_of rfl T.b_tuple (by decide +kernel) (pa_cons (pe_lc (own := [("_law_k", 5)]) (g := gName 5) rfl sc_law_part.nd (pi_range1 rfl T.b_range (pa_cons (pv 4) pa_nil)) (blkOk_by (own := [("_law_k", 5)]) (N := ["_law_well_here", "_law_deep", "_law_way", "_law_name", "_law_many", "_law_k"]) (sc := defScope s_law_part) (by decide +kernel)) (fun _ _ _ _ _ => pg_name (i := 5) sc_law_part.nd rfl (Or.inl rfl)) (fun _ _ _ _ _ => pts_nil) (fun _ _ _ _ _ => (cl ih T.h_law_part hr (pa_cons (pv 0) (pa_cons (pe_op op_sub (pv 1) pe_int) pa_nil))))) pa_nil)))))))))), ?_⟩
  have hF := Fd_pos d
  refine ⟨_, rfl, a, _, b + Fd d - 1, rfl, hW.le (by omega), by decide, by decide, fun way H1 w0 w1 d1 => ?_⟩
  refine ⟨fun σ' H' => σ' = [some (.ref a), some (.int (d : Int)), some (.int way), none, none, none] ∧ Dr (b + Fd d - 1) a H H' ∧ 1 ≤ d, ?_, ?_⟩
  · have leaf : (tCall (spOne K) [] E0
            (tCons (tVar 0)
              (tCons
                (tLst
                  (tCons (tTup (tCons (tCall spDraw [] E0 (tCons (tVar 0) (tCons (tC (V.int 5)) tNil))) tNil))
                    (tCons (tTup (tCons (tCall spDraw [] E0 (tCons (tVar 0) (tCons (tC (V.int 5)) tNil))) tNil))
                      (tCons (tCall (spAtm K) [] E0 (tCons (tVar 0) tNil))
                        (tCons (tCall (spAtm K) [] E0 (tCons (tVar 0) tNil)) (tCons (tVar 2) tNil))))))
                tNil))) [some (.ref a), some (.int (d : Int)), some (.int way), none, none, none] H1 Q := by
      refine ⟨_, rfl, _, rfl, a, _, b + 4, rfl, d1.well.le (by omega), by decide, by decide, fun k1 H2 k10 k11 d2 => ⟨(by show 1 ≤ sizeLine; decide), fun p1 hp1 => ?_⟩⟩
      have f2 := Dr.ex d2.well (Ex.new (o := HO.tup [V.int k1]) hp1)
      have t1 : SqT K (upd H2 p1 (.tup [V.int k1])) p1 [.int k1] := SqT.of upd_same
      generalize upd H2 p1 (.tup [V.int k1]) = H3 at *
      refine ⟨_, rfl, a, _, b + 3, rfl, f2.well, by decide, by decide, fun k2 H4 k20 k21 d4 => ⟨(by show 1 ≤ sizeLine; decide), fun p2 hp2 => ?_⟩⟩
      have f4 := Dr.ex d4.well (Ex.new (o := HO.tup [V.int k2]) hp2)
      have t2 : SqT K (upd H4 p2 (.tup [V.int k2])) p2 [.int k2] := SqT.of upd_same
      generalize upd H4 p2 (.tup [V.int k2]) = H5 at *
      refine ⟨_, rfl, a, b + 2, rfl, f4.well, fun s1 H6 d6 hs1 => ⟨_, rfl, a, b + 1, rfl, d6.well, fun s2 H7 d7 hs2 => ⟨_, rfl, (by show 5 ≤ sizeLine; decide), fun l hl => ?_⟩⟩⟩
      have f7 := Dr.ex d7.well (Ex.new (o := HO.lst [.ref p1, .ref p2, .str s1, .str s2, .int way]) hl)
      refine ⟨a, l, _, b, rfl, f7.well, d7.well.ne hl, SqL.of upd_same, by simp, (by show 5 ≤ 1000; decide), fun x H8 hx d8 => ?_⟩
      have dall := (((((((d1.trans d2).trans f2).trans d4).trans f4).trans d6).trans d7).trans f7).trans d8
      have u1 : Tups K H3 H8 := (Dr.tups f2.well d4).trans ((Dr.tups d4.well f4).trans ((Dr.tups f4.well d6).trans ((Dr.tups d6.well d7).trans ((Dr.tups d7.well f7).trans (Dr.tups f7.well d8)))))
      have u2 : Tups K H5 H8 := (Dr.tups f4.well d6).trans ((Dr.tups d6.well d7).trans ((Dr.tups d7.well f7).trans (Dr.tups f7.well d8)))
      simp only [List.mem_cons, List.not_mem_nil, or_false] at hx
      rcases hx with rfl | rfl | rfl | rfl | rfl
      · exact q _ (.var k1) H8 dall (by unfold Rep; exact ⟨p1, rfl, u1 _ _ t1⟩) (leaf_ok (by unfold Ok; exact k10) rfl rfl (by unfold Vb; omega))
      · exact q _ (.var k2) H8 dall (by unfold Rep; exact ⟨p2, rfl, u2 _ _ t2⟩) (leaf_ok (by unfold Ok; exact k20) rfl rfl (by unfold Vb; omega))
      · exact q _ (.atom s1) H8 dall (by unfold Rep; rfl) (leaf_ok (by unfold Ok; exact hs1) rfl rfl trivial)
      · exact q _ (.atom s2) H8 dall (by unfold Rep; rfl) (leaf_ok (by unfold Ok; exact hs2) rfl rfl trivial)
      · exact q _ (.int way) H8 dall (by unfold Rep; rfl) (leaf_ok (by unfold Ok; have h9 : (9 : Int) < tooGreat := (by decide +kernel); omega) rfl rfl trivial)
    refine ⟨_, rfl, rfl, decide ((d : Int) = 0), ?_, ?_⟩
    · exact congrArg V.bl dec_ii
    · by_cases c : (d : Int) = 0
      · rw [decide_eq_true c]
        exact iteT (iteT leaf)
      · rw [decide_eq_false c]
        refine iteF ⟨_, rfl, _, _, rfl, rfl, _, rfl, ?_⟩
        refine ite2 (fun _ => leaf) (fun _ => ⟨rfl, d1, by omega⟩)
  · rintro _ H2 ⟨rfl, d2, hd⟩
    obtain ⟨e, rfl⟩ : ∃ e, d = e + 1 := ⟨d - 1, by omega⟩
    have hF1 : Fd (e + 1) = 6 + 3 * Fd e := by rw [Fd]
    refine ⟨fun σ' H' => ∃ f : Str, σ' = [some (.ref a), some (.int ((e + 1 : Nat) : Int)), some (.int way), some (.str f), none, none] ∧ Dr (b + 4 + 3 * Fd e) a H H' ∧ f ∈ namesP, ?_, ?_⟩
    · refine ⟨_, rfl, (by show 13 ≤ sizeLine; decide), fun l hl => ?_⟩
      have f2 := Dr.ex (d2.well.le (show b + 4 + 3 * Fd e + 1 ≤ _ by omega)) (Ex.new (o := HO.lst (namesP.map V.str)) hl)
      refine ⟨a, l, namesP.map V.str, _, rfl, f2.well, d2.well.ne hl, SqL.of upd_same, by simp [namesP], (by show 13 ≤ 1000; decide), fun x H3 hx d3 => ?_⟩
      obtain ⟨f, hf, rfl⟩ := List.mem_map.mp hx
      exact ⟨f, rfl, (d2.trans f2).trans d3, hf⟩
    · rintro _ H3 ⟨f, rfl, d3, hf⟩
      obtain ⟨hfo, m, hm, m1, m2⟩ := names_ok hf
      refine fun p hp => ⟨upd_same, manyP, rfl, by decide, p, rfl, .inl ⟨_, .inl upd_same⟩, _, rfl, _, .inl ⟨_, Sum.inr f, .inl upd_same, rfl, rfl⟩, ?_⟩
      rw [hm]
      have e4 : Ex H3 (upd (upd H3 p (.dK [])) p (.dK (mergeK [] manyP))) := Ex.mut (Ex.new hp) hp
      generalize upd (upd H3 p (.dK [])) p (.dK (mergeK [] manyP)) = H4 at *
      have d4 := d3.trans (Dr.ex d3.well e4)
      refine ⟨fun σ' H' => ∃ k : Nat, σ' = [some (.ref a), some (.int ((e + 1 : Nat) : Int)), some (.int way), some (.str f), some (.int (k : Int)), none] ∧ Dr (b + 3 * Fd e) a H H' ∧ 1 ≤ k ∧ k ≤ 3, ?_, ?_⟩
      · refine ⟨_, rfl, a, _, b + 3 + 3 * Fd e, rfl, d4.well.le (by omega), by decide, by decide, fun z H5 z0 z1 d5 => ⟨rfl, _, rfl, ite2 (fun _ => ?_) (fun _ => ?_)⟩⟩
        · refine ⟨_, rfl, a, _, b + 2 + 3 * Fd e, rfl, d5.well.le (by omega), by decide, by decide, fun y H6 y0 y1 d6 => ⟨_, _, rfl, rfl, ?_⟩⟩
          obtain ⟨k, rfl⟩ := Int.eq_ofNat_of_zero_le y0
          refine ⟨1 + k, ?_, ((d4.trans d5).trans d6).le (by omega), by omega, by omega⟩
          show _ = [some (V.ref a), some (V.int ((e + 1 : Nat) : Int)), some (V.int way), some (V.str f), some (V.int ((1 + k : Nat) : Int)), none]
          rw [show ((1 + k : Nat) : Int) = 1 + (k : Int) by omega]
          rfl
        · exact ⟨m, rfl, (d4.trans d5).le (by omega), m1, by omega⟩
      · rintro _ H8 ⟨k, rfl, d8, k1, k2⟩
        have w8 := d8.well
        refine ⟨_, rfl, (by show 1 ≤ sizeLine; decide), fun tp htp => ?_⟩
        have e9 := Ex.new (o := HO.tup [.str f]) htp
        have w9 := (Dr.ex w8 e9).well
        have hT9 : SqT K (upd H8 tp (.tup [.str f])) tp [.str f] := SqT.of upd_same
        refine ⟨_, rfl, (k : Int), rfl, by omega, by omega, fun D hD => ?_⟩
        have hDa := w9.ne hD
        have e10 := Ex.new (o := HO.lst []) hD
        refine lc_it walk_range (fun i H' => i ≤ k ∧ Dr (b + (k - i) * Fd e) a (upd H8 tp (.tup [.str f])) H' ∧ ∃ ts us, H' D = some (.lst us) ∧ Reps K H' ts us ∧ ts.length = i ∧ PartsOk e ts) ⟨Nat.zero_le _, Dr.ex (w9.le ?_) e10, [], [], upd_same, Reps.nil, rfl, PartsOk.nil⟩ (fun _ _ _ _ => trivial) ?_ ?_
        · have := Nat.mul_le_mul_right (Fd e) k2
          rw [Nat.sub_zero]
          omega
        · rintro i x H10x H10 hi ⟨hik, d10, ts, us, hU, hUs, hlen, hall⟩ ⟨rfl, rfl⟩
          have hik' : i < k := by
            have : i < ((k : Int)).toNat := hi
            omega
          have hmul : (k - i) * Fd e = (k - (i + 1)) * Fd e + Fd e := by
            rw [show k - i = (k - (i + 1)) + 1 by omega, Nat.add_mul, Nat.one_mul]
          refine ⟨rfl, yesI ⟨_, rfl, _, rfl, _, _, rfl, rfl, a, b + (k - (i + 1)) * Fd e, ?_, d10.well.le (by omega), fun v t H11 d11 hR hDn => ?_⟩⟩
          · show [V.ref a, V.int (((e + 1 : Nat) : Int) - 1)] = _
            congr 3
            omega
          · have hU11 := d11.keep D _ hDa hU
            have t11 : Tups K H10 H11 := Dr.tups d10.well d11
            have t12 : Tups K H11 (upd H11 D (.lst (us ++ [v]))) := Tups.lst hU11
            have hl2 := hUs.len
            refine ⟨us, hU11, small5' (by omega), by omega, ?_, ts ++ [t], us ++ [v], upd_same, ?_, ?_, hall.snoc hDn⟩
            · obtain ⟨x1, y1, z1, hw, hz1, hz2⟩ := d11.well
              refine ⟨⟨x1, y1, z1, by rw [upd_ne hDa.symm]; exact hw, hz1, hz2⟩, fun b o hb hq => ?_⟩
              have hbD : b ≠ D := fun z => by
                subst z
                rw [hD] at hq
                cases hq
              rw [upd_ne hbD]
              exact d11.keep b o hb (d10.keep b o hb hq)
            · exact Reps.app ((hUs.mono t11).mono t12) (Reps.one (hR.mono t12))
            · rw [List.length_append, List.length_singleton, hlen]
        · rintro H10 ⟨hik, d10, ts, us, hU, hUs, hlen, hall⟩
          have hlen' : ts.length = k := by
            rw [hlen]
            rfl
          have hl2 := hUs.len
          refine ⟨D, us, rfl, .inl ⟨SqL.of hU, fun q2 hq2 => ?_⟩⟩
          have e11 := Ex.new (o := HO.tup us) hq2
          have hTp := (Dr.tups w9 d10) _ _ hT9
          have w11 := (Dr.ex d10.well e11).well
          refine ⟨tp, q2, [.str f], us, rfl, rfl, Evl.ex_t e11 hTp, SqT.of upd_same, by simp, small5 (by simp; omega), fun z => ?_, fun _ p hp => ?_⟩
          · rw [z, List.length_nil] at hl2
            omega
          · have e12 := Ex.new (o := HO.tup ([V.str f] ++ us)) hp
            refine q (.ref p) (.comp f ts) _ ((((d8.trans (Dr.ex w8 e9)).trans d10).trans ((Dr.ex d10.well e11).trans (Dr.ex w11 e12))).le (by omega)) ?_ ?_
            · unfold Rep
              exact ⟨p, us, rfl, SqT.of upd_same, (hUs.mono (Tups.of e11)).mono (Tups.of e12)⟩
            · exact hall.comp hfo (by omega) (by omega)
theorem ok_law_part (T : Tx K mg) : ∀ d : Nat, FnOk P w K mg base CX0 (d + 3) T.f_law_part T.d_law_part ["_law_well_here", "_law_deep"] (spPartN K d)
  | 0 => ⟨fun _ _ _ _ h => h.elim, fun _ _ _ _ _ _ _ _ _ _ _ _ _ h => h.elim⟩
  | d + 1 => part_step T d (ok_law_part T d)
end
end Hm

set_option Elab.async false
set_option linter.all false
set_option maxRecDepth 100000
set_option maxHeartbeats 1000000
namespace Hm
open PySem PySem.Spec PyProof.Rows L2 HT
open Evl (Ex)
theorem depths_get : ∀ {ts : List Tm} {i : Nat} {t : Tm}, ts[i]? = some t → depth t ≤ depths ts
  | [], i, _, e => by simp at e
  | u :: us, 0, t, e => by
    have : u = t := by simpa using e
    subst this
    rw [depths_cons]
    omega
  | u :: us, i + 1, t, e => by
    have := depths_get (ts := us) (i := i) (t := t) (by simpa using e)
    rw [depths_cons]
    omega
theorem sizes_get : ∀ {ts : List Tm} {i : Nat} {t : Tm}, ts[i]? = some t → size t ≤ sizes ts
  | [], i, _, e => by simp at e
  | u :: us, 0, t, e => by
    have : u = t := by simpa using e
    subst this
    rw [sizes_cons]
    omega
  | u :: us, i + 1, t, e => by
    have := sizes_get (ts := us) (i := i) (t := t) (by simpa using e)
    rw [sizes_cons]
    omega
theorem sizes_take (ts : List Tm) (i : Nat) : sizes (ts.take i) ≤ sizes ts := by
  have h := sizes_app (ts.take i) (ts.drop i)
  rw [List.take_append_drop] at h
  omega
theorem take_snoc {α : Type} {l : List α} {i : Nat} {x : α} (h : l[i]? = some x) : l.take (i + 1) = l.take i ++ [x] := by
  rw [List.take_add_one, h]
  rfl
theorem pres_one (t : Tm) : pres [t] = pre t := by
  rw [pres_cons]
  unfold pres
  rw [List.append_nil]
theorem subs_app (g : Int → Tm) : ∀ xs ys : List Tm, subs g (xs ++ ys) = subs g xs ++ subs g ys
  | [], _ => by simp [subs]
  | x :: xs, ys => by
    show subs g (x :: (xs ++ ys)) = _
    rw [subs, subs, subs_app g xs ys]
    rfl
theorem subs_one (g : Int → Tm) (t : Tm) : subs g [t] = [sub g t] := by simp [subs]
theorem depth_pos (t : Tm) : 1 ≤ depth t := by
  rw [depth_eq]
  omega
theorem inV_ints (k : Int) : ∀ acc : List Int, inV (.int k) (acc.map V.int) = decide (k ∈ acc)
  | [] => by simp [inV]
  | a :: acc => by
    have ih := inV_ints k acc
    unfold inV at ih ⊢
    rw [List.map_cons, List.any_cons, ih]
    show ((a == k) || decide (k ∈ acc)) = decide (k ∈ a :: acc)
    by_cases e : a = k
    · subst e
      simp
    · have : (a == k) = false := by simpa using e
      rw [this, Bool.false_or]
      by_cases m : k ∈ acc
      · rw [decide_eq_true m, decide_eq_true (List.mem_cons_of_mem _ m)]
      · rw [decide_eq_false m, decide_eq_false]
        intro z
        rcases List.mem_cons.mp z with z | z
        · exact e z.symm
        · exact m z
theorem flat_ints (acc : List Int) : (acc.map V.int).all flatV = true := by
  rw [List.all_map, List.all_eq_true]
  intro x _
  rfl
section
variable {P : Program} {w : World} {K : PySem.W.Frag} {mg : Str → Option Value} {base : Heap}
/-! ### _law_put -/
def spLPut (K : PySem.W.Frag) (n : Nat) : Sp := fun vs H Q _ => ∃ v t d g, vs = [v, .ref d] ∧ Rep K H t v ∧ Ok t ∧ size t ≤ 1000 ∧ depth t ≤ n ∧ TabRep K H d g ∧ ∀ u H', Ex H H' → Rep K H' (sub g t) u → Q u H'
theorem put_step (T : Tx K mg) (n : Nat) (ih : FnOk P w K mg base CX0 (n + 2) T.f_law_put T.d_law_put ["_law_term", "_law_table"] (spLPut K n)) :
    FnOk P w K mg base CX0 (n + 2 + 1) T.f_law_put T.d_law_put ["_law_term", "_law_table"] (spLPut K (n + 1)) := by
  refine T.h_law_put.F.ok sc_law_put (fun vs H Q E h => ?_) (fun cdv A outer s H vs Q E hr h => ?_)
  · obtain ⟨v, t, _, _, rfl, _⟩ := h
    rfl
  obtain ⟨v, t, d, g, rfl, hR, hO, hz, hd, hTab, q⟩ := h
  have hu := hr.units
  have hu2 : (A.deeper (envOfC "_law_put" (defScope s_law_put) s.heap.objs.size T.f_law_put cdv)).units + 1 < cLine := by omega
  refine ⟨_, (pss_cons (ps_if (pt_not (pt_val (pe_callB call_isi rfl T.b_isinstance (by decide +kernel) (pa_cons (pv 0) (pa_cons (pe_bltn (v := .ty "tuple") (u := .type "tuple") rfl T.b_tuple (by decide +kernel) rfl) pa_nil)))))
      (pss_one (ps_ret (pv 0)))
      pss_nil)
    (pss_cons (ps_if (pt_cmpR op_eq (pe_callB call_len_seq rfl T.b_len (by decide +kernel) (pa_cons (pv 0) pa_nil)) pe_int (nomark _))
      (pss_one (ps_ret (pe_dget2 hu2 (pv 1) (pe_ix ix_tup (pv 0) pe_int (fun _ _ => rfl)) (pv 0) ⟨rfl, rfl, rfl, rfl⟩)))
      pss_nil)
    (pss_one (ps_ret (pe_op op_catT (pe_tup (pa_cons (pe_ix ix_tup (pv 0) pe_int (fun _ _ => rfl)) pa_nil)) (pe_callTy call_tuple_of rfl T.b_tuple (by decide +kernel) (pa_cons (pe_lc (own := [("_law_one_here", 2)]) (g := gName 2) rfl sc_law_put.nd (pi_tup (pe_slice sl_tup (pv 0) (po_some pe_int) po_none)) (blkOk_by (own := [("_law_one_here", 2)]) (N := ["_law_term", "_law_table", "_law_one_here"]) (sc := defScope s_law_put) (by decide +kernel)) (fun _ _ _ _ _ => pg_name (i := 2) sc_law_put.nd rfl (Or.inl rfl)) (fun _ _ _ _ _ => pts_nil) (fun _ _ _ _ _ => (cl ih T.h_law_put hr (pa_cons (pv 2) (pa_cons (pv 1) pa_nil))))) pa_nil))))))), ?_⟩
  obtain ⟨tv, y1, y2⟩ := isi_tup hR
  refine ⟨_, rfl, _, _, tv, _, isTup t, rfl, .ty "tuple", y1, y2, isTup t, rfl, ?_⟩
  cases t with
  | var k =>
    unfold Rep at hR
    obtain ⟨a, rfl, hT⟩ := hR
    obtain ⟨kvs, hkv, hval⟩ := hTab
    refine iteF ⟨_, rfl, a, _, rfl, .inr hT, rfl, true, rfl, iteT ⟨_, rfl, d, rfl, .inl ⟨kvs, hkv⟩, _, rfl, a, _, 0, _, rfl, rfl, hT, at0, _, rfl, _, .inl ⟨kvs, Sum.inl k, hkv, rfl, rfl⟩, q _ H (Ex.refl _) ?_⟩⟩
    show Rep K H (g k) _
    cases hv : valV kvs (Sum.inl k : Key) with
    | some u => exact (hval k).1 u hv
    | none =>
      rw [(hval k).2 hv]
      unfold Rep
      exact ⟨a, rfl, hT⟩
  | int i => exact iteT ⟨_, rfl, q _ H (Ex.refl _) hR⟩
  | atom z => exact iteT ⟨_, rfl, q _ H (Ex.refl _) hR⟩
  | comp f as =>
    unfold Rep at hR
    obtain ⟨a, ws, rfl, hT, hA⟩ := hR
    have hlw : (V.str f :: ws).length ≠ 1 := by
      have h1 := hA.len
      unfold Ok at hO
      rw [List.length_cons]
      omega
    refine iteF ⟨_, rfl, a, _, rfl, .inr hT, rfl, decide ((V.str f :: ws).length = 1), congrArg V.bl dec1, ?_⟩
    rw [decide_eq_false hlw]
    refine iteF ?_
    refine ⟨_, rfl, a, _, 0, _, rfl, rfl, hT, at0, (by show 1 ≤ sizeLine; decide), fun tp htp => ?_⟩
    have e1 := Ex.new (o := HO.tup [.str f]) htp
    have hT1 : SqT K (upd H tp (.tup [.str f])) tp [.str f] := SqT.of upd_same
    refine ⟨_, rfl, _, rfl, a, _, rfl, Evl.ex_t e1 hT, cut1_ne _ _, fun p hp => ?_⟩
    rw [cut1]
    have e2 := Ex.new (o := HO.tup ws) hp
    have hP : (upd (upd H tp (.tup [.str f])) p (.tup ws)) p = some (.tup ws) := upd_same
    have hA2 := (hA.mono (Tups.of e1)).mono (Tups.of e2)
    have hTab2 := (hTab.mono e1).mono e2
    have hT2 := Evl.ex_t e2 hT1
    have e12 := e1.trans e2
    generalize upd (upd H tp (.tup [.str f])) p (.tup ws) = H2 at *
    have hlen := hA.len
    have hdt := depth_eq (.comp f as)
    have hst := size_eq (.comp f as)
    have hO2 := hO
    unfold Ok at hO2
    refine ⟨p, rfl, ⟨ws, SqT.of hP⟩, fun D hD => ?_⟩
    have e3 := Ex.new (o := HO.lst []) hD
    refine lc_it walk_tup (fun i H' => Ex H2 H' ∧ ∃ us, H' D = some (.lst us) ∧ Reps K H' (subs g (as.take i)) us) ⟨e3, [], upd_same, Reps.nil⟩ (fun i H' _ h => SqT.of (h.1 p _ hP)) ?_ ?_
    · rintro i x H3x H3 hi ⟨e4, us, hU, hUs⟩ ⟨rfl, hx⟩
      obtain ⟨ti, hti, hri⟩ := (hA2.mono (Tups.of e4)).get hx
      have hd1 := depths_get (ts := as) hti
      have hs1 := sizes_get (ts := as) hti
      refine ⟨rfl, yesI ⟨_, rfl, _, rfl, x, ti, d, g, rfl, hri, oks_get hO2.2.2.2 hti, ?_, ?_, hTab2.mono e4, fun u H4 e5 hu => ?_⟩⟩
      · show size ti ≤ 1000
        have : (Tm.comp f as).args = as := rfl
        rw [this] at hst
        omega
      · show depth ti ≤ n
        have : (Tm.comp f as).args = as := rfl
        rw [this] at hdt
        omega
      · have hU4 := e5 D _ hU
        have hl2 := hUs.len
        rw [subs_len, List.length_take] at hl2
        refine ⟨us, hU4, small5' (by omega), Ex.mut (e4.trans e5) hD, us ++ [u], upd_same, ?_⟩
        rw [take_snoc hti, subs_app, subs_one]
        have t6 : Tups K H4 (upd H4 D (.lst (us ++ [u]))) := Tups.lst hU4
        exact Reps.app ((hUs.mono (Tups.of e5)).mono t6) (Reps.one (hu.mono t6))
    · rintro H3 ⟨e4, us, hU, hUs⟩
      rw [← hlen, List.take_of_length_le (Nat.le_refl _)] at hUs
      have hl2 := hUs.len
      rw [subs_len] at hl2
      refine ⟨D, us, rfl, .inl ⟨SqL.of hU, fun q2 hq2 => ?_⟩⟩
      have e5 := Ex.new (o := HO.tup us) hq2
      refine ⟨tp, q2, [.str f], us, rfl, rfl, Evl.ex_t e5 (Evl.ex_t e4 hT2), SqT.of upd_same, by simp, small5 (by simp; omega), fun z => ?_, fun _ p3 hp3 => ?_⟩
      · rw [z, List.length_nil] at hl2
        omega
      · have e6 := Ex.new (o := HO.tup ([V.str f] ++ us)) hp3
        refine q (.ref p3) _ (((e12.trans e4).trans e5).trans e6) ?_
        unfold sub Rep
        exact ⟨p3, us, rfl, SqT.of upd_same, (hUs.mono (Tups.of e5)).mono (Tups.of e6)⟩
theorem ok_law_put (T : Tx K mg) : ∀ n : Nat, FnOk P w K mg base CX0 (n + 2) T.f_law_put T.d_law_put ["_law_term", "_law_table"] (spLPut K n)
  | 0 => by
    have no : ∀ vs H Q E, ¬ spLPut K 0 vs H Q E := fun vs H Q E ⟨v, t, _, _, _, _, _, _, h, _⟩ => by
      have := depth_pos t
      omega
    exact ⟨fun vs H Q E h => absurd h (no vs H Q E), fun A outer s H args us vs Q E _ _ _ _ h => absurd h (no vs H Q E)⟩
  | n + 1 => put_step T n (ok_law_put T n)
end
end Hm

set_option Elab.async false
set_option linter.all false
set_option maxRecDepth 100000
set_option maxHeartbeats 1000000
namespace Hm
open PySem PySem.Spec PyProof.Rows L2 HT
open Evl (Ex)
/-- all but the list at f is as it was -/
def Kp (f : Addr) (H H' : Hp) : Prop := ∀ b o, b ≠ f → H b = some o → H' b = some o
theorem Kp.refl (f : Addr) (H : Hp) : Kp f H H := fun _ _ _ h => h
theorem Kp.trans {f : Addr} {H H1 H2 : Hp} (a : Kp f H H1) (b : Kp f H1 H2) : Kp f H H2 := fun c o n h => b c o n (a c o n h)
theorem Kp.of {f : Addr} {H H' : Hp} (e : Ex H H') : Kp f H H' := fun b o _ h => e b o h
theorem Kp.upd {f : Addr} {H : Hp} {o : HO} : Kp f H (upd H f o) := fun b u n h => by rw [upd_ne n]; exact h
theorem Kp.tups {K : PySem.W.Frag} {f : Addr} {xs : List V} {H H' : Hp} (h : H f = some (.lst xs)) (d : Kp f H H') : Tups K H H' := fun b ys q => by
  rcases q with (q | ⟨ob, q⟩) | q
  · exact .inl (.inl (d _ _ (ne_of q h (by intro z; cases z)) q))
  · exact .inl (.inr ⟨ob, d _ _ (ne_of q h (by intro z; cases z)) q⟩)
  · exact .inr q
theorem Kp.sql {K : PySem.W.Frag} {f l : Addr} {xs : List V} {H H' : Hp} (d : Kp f H H') (n : l ≠ f) (h : SqL K H l xs) : SqL K H' l xs := by
  rcases h with (h | ⟨o, h⟩) | h
  · exact .inl (.inl (d _ _ n h))
  · exact .inl (.inr ⟨o, d _ _ n h⟩)
  · exact .inr h
def nums (ts : List Tm) (acc : List Int) : List Int := (pres ts).foldl stepVar acc
theorem nums_len (ts : List Tm) (acc : List Int) : (nums ts acc).length ≤ acc.length + sizes ts := by
  have := fold_len (pres ts) acc
  rw [len_pres] at this
  exact this
theorem nums_snoc {ts : List Tm} {i : Nat} {t : Tm} (h : ts[i]? = some t) (acc : List Int) : nums (ts.take (i + 1)) acc = (pre t).foldl stepVar (nums (ts.take i) acc) := by
  unfold nums
  rw [take_snoc h, pres_app, pres_one, List.foldl_append]
theorem take_sizes : ∀ (ts : List Tm) (i : Nat) {t : Tm}, ts[i]? = some t → sizes (ts.take i) + size t ≤ sizes ts
  | [], i, t, h => by cases h
  | x :: xs, 0, t, h => by
    have : x = t := Option.some.inj h
    subst this
    rw [List.take_zero, sizes_cons]
    show 0 + size x ≤ _
    omega
  | x :: xs, i + 1, t, h => by
    have := take_sizes xs i (t := t) (by simpa using h)
    rw [List.take_succ_cons, sizes_cons, sizes_cons]
    omega
section
variable {P : Program} {w : World} {K : PySem.W.Frag} {mg : Str → Option Value} {base : Heap}
def spNumT (K : PySem.W.Frag) : Nat → Sp
  | 0 => fun _ _ _ _ => False
  | n + 1 => fun vs H Q _ => ∃ x f ws ts acc, vs = [.ref x, .ref f] ∧ SqT K H x ws ∧ Reps K H ts ws ∧ Oks ts ∧ depths ts ≤ n ∧ acc.length + sizes ts ≤ 3000 ∧ H f = some (.lst (acc.map V.int)) ∧ ∀ H', Kp f H H' → H' f = some (.lst ((nums ts acc).map V.int)) → Q (.ref f) H'
/-- one turn of the loop -/
def NInv (H : Hp) (x f : Addr) (ts : List Tm) (acc : List Int) (i : Nat) (σ : L2.St) (H' : Hp) : Prop := ∃ c, σ = [some (.ref x), some (.ref f), c] ∧ Kp f H H' ∧ H' f = some (.lst ((nums (ts.take i) acc).map V.int))
theorem numT_step (T : Tx K mg) (n : Nat) (ih : FnOk P w K mg base CX0 (n + 1) T.f_law_numbers T.d_law_numbers ["_law_terms", "_law_found"] (spNumT K n)) :
    FnOk P w K mg base CX0 (n + 1 + 1) T.f_law_numbers T.d_law_numbers ["_law_terms", "_law_found"] (spNumT K (n + 1)) := by
  refine T.h_law_numbers.F.ok sc_law_numbers (fun vs H Q E h => ?_) (fun cdv A outer s H vs Q E hr h => ?_)
  · obtain ⟨v, t, _, _, _, rfl, _⟩ := h
    rfl
  obtain ⟨x, f, ws, ts, acc, rfl, hT, hR, hO, hd, hz, hF, q⟩ := h
  refine ⟨_, (pss_cons (ps_for PassesOwn.never rfl (pi_tup (pv 0)) (pg_name (i := 2) sc_law_numbers.nd rfl (Or.inl rfl))
      (pss_one (ps_if (PW.pt (pw_and (pt_val (pe_callB call_isi rfl T.b_isinstance (by decide +kernel) (pa_cons (pv 2) (pa_cons (pe_bltn (v := .ty "tuple") (u := .type "tuple") rfl T.b_tuple (by decide +kernel) rfl) pa_nil)))) (pw_and1 (pt_cmpR op_eq (pe_callB call_len_seq rfl T.b_len (by decide +kernel) (pa_cons (pv 2) pa_nil)) pe_int (nomark _)))))
      (pss_one (ps_if (pt_cmpR op_notIn_seq (pe_ix ix_tup (pv 2) pe_int (fun _ _ => rfl)) (pv 1) (by rfl))
      (pss_one (ps_expr (pe_bm PySem.F.plainAttrs_list PySem.F.slot_list_append PySem.F.type_list_append mt_append (pv 1) (pa_cons (pe_ix ix_tup (pv 2) pe_int (fun _ _ => rfl)) pa_nil))))
      pss_nil))
      (pss_one (ps_if (pt_val (pe_callB call_isi rfl T.b_isinstance (by decide +kernel) (pa_cons (pv 2) (pa_cons (pe_bltn (v := .ty "tuple") (u := .type "tuple") rfl T.b_tuple (by decide +kernel) rfl) pa_nil))))
      (pss_one (ps_expr (cl ih T.h_law_numbers hr (pa_cons (pe_slice sl_tup (pv 2) (po_some pe_int) po_none) (pa_cons (pv 1) pa_nil)))))
      pss_nil)))))
    (pss_one (ps_ret (pv 1)))), ?_⟩
  have hlen := hR.len
  refine ⟨_, rfl, x, rfl, ⟨ws, hT⟩, for_tup (NInv H x f ts acc) ⟨none, rfl, Kp.refl _ _, hF⟩ (fun i σ' H' _ ⟨_, _, k, _⟩ => (Kp.tups hF k) _ _ hT) ?_ ?_⟩
  · rintro i v σ' H1 hv ⟨c, rfl, k1, hF1⟩
    obtain ⟨t, ht, hRt⟩ := (hR.mono (Kp.tups hF k1)).get hv
    have hOt := oks_get hO ht
    have hns := nums_snoc ht acc
    have hnl := nums_len (ts.take i) acc
    have hts := take_sizes ts i ht
    have hp1 := size_pos t
    obtain ⟨tv, y1, y2⟩ := isi_tup hRt
    refine ⟨_, rfl, _, _, tv, _, isTup t, rfl, .ty "tuple", y1, y2, isTup t, rfl, ?_⟩
    cases t with
    | int i0 => exact iteF (iteF ⟨_, rfl, _, _, tv, _, false, rfl, .ty "tuple", y1, y2, false, rfl, iteF ⟨_, rfl, k1, by rw [hns]; exact hF1⟩⟩)
    | atom s0 => exact iteF (iteF ⟨_, rfl, _, _, tv, _, false, rfl, .ty "tuple", y1, y2, false, rfl, iteF ⟨_, rfl, k1, by rw [hns]; exact hF1⟩⟩)
    | var k =>
      have hR2 := hRt
      unfold Rep at hR2
      obtain ⟨a, rfl, hT2⟩ := hR2
      have hns' : nums (List.take (i + 1) ts) acc = addNew (nums (List.take i ts) acc) k := hns
      refine iteT ⟨_, rfl, a, _, rfl, .inr hT2, rfl, true, rfl, iteT ⟨_, rfl, a, _, 0, _, rfl, rfl, hT2, at0, _, rfl, f, _, rfl, .inl (SqL.of hF1), rfl, flat_ints _, _, rfl, ?_⟩⟩
      rw [if_pos rfl, inV_ints]
      by_cases m : k ∈ nums (List.take i ts) acc
      · rw [decide_eq_true m]
        refine iteF ⟨_, rfl, k1, ?_⟩
        rw [hns']
        unfold addNew
        rw [if_pos m]
        exact hF1
      · rw [decide_eq_false m]
        refine iteT ⟨_, rfl, .inl ⟨rfl, _, SqL.of hF1⟩, _, rfl, a, _, 0, _, rfl, rfl, hT2, at0, f, _, _, rfl, rfl, hF1, small5' (by rw [List.length_map]; omega), ?_⟩
        refine ⟨_, rfl, k1.trans Kp.upd, ?_⟩
        rw [upd_same, hns']
        unfold addNew
        rw [if_neg m, List.map_append]
        rfl
    | comp g as =>
      have hR2 := hRt
      unfold Rep at hR2
      obtain ⟨a, ws2, rfl, hT2, hA2⟩ := hR2
      have hl2 := hA2.len
      have hO2 := hOt
      unfold Ok at hO2
      have hlw : (V.str g :: ws2).length ≠ 1 := by
        rw [List.length_cons]
        omega
      refine iteT ⟨_, rfl, a, _, rfl, .inr hT2, rfl, decide ((V.str g :: ws2).length = 1), congrArg V.bl dec1, ?_⟩
      rw [decide_eq_false hlw]
      refine iteF ⟨_, rfl, _, _, tv, _, true, rfl, .ty "tuple", y1, y2, true, rfl, iteT ?_⟩
      refine ⟨_, rfl, _, rfl, a, _, rfl, hT2, cut1_ne _ _, fun p hp => ?_⟩
      rw [cut1]
      have e2 := Ex.new (o := HO.tup ws2) hp
      have hdt := depth_eq (.comp g as)
      have hst := size_eq (.comp g as)
      have hdd := depths_get ht
      have hargs : (Tm.comp g as).args = as := rfl
      rw [hargs] at hdt hst
      obtain ⟨m, rfl⟩ : ∃ m, n = m + 1 := ⟨n - 1, by omega⟩
      refine ⟨_, rfl, p, f, ws2, as, nums (List.take i ts) acc, rfl, SqT.of upd_same, hA2.mono (Tups.of e2), hO2.2.2.2, by omega, by omega, e2 _ _ hF1, fun H2 k2 hF2 => ?_⟩
      refine ⟨_, rfl, k1.trans ((Kp.of e2).trans k2), ?_⟩
      rw [hF2, hns]
      show some (HO.lst ((nums as (nums (List.take i ts) acc)).map V.int)) = some (HO.lst (((pre (.comp g as)).foldl stepVar (nums (List.take i ts) acc)).map V.int))
      rw [pre_eq]
      rfl
  · rintro σ' H1 ⟨c, rfl, k1, hF1⟩
    rw [← hlen, List.take_length] at hF1
    exact ⟨_, rfl, q H1 k1 hF1⟩
theorem ok_numT (T : Tx K mg) : ∀ n : Nat, FnOk P w K mg base CX0 (n + 1) T.f_law_numbers T.d_law_numbers ["_law_terms", "_law_found"] (spNumT K n)
  | 0 => ⟨fun _ _ _ _ h => h.elim, fun _ _ _ _ _ _ _ _ _ _ _ _ _ h => h.elim⟩
  | n + 1 => numT_step T n (ok_numT T n)
/-- of a list of terms -/
def spNumL (K : PySem.W.Frag) (n : Nat) : Sp := fun vs H Q _ => ∃ x f ws ts acc, vs = [.ref x, .ref f] ∧ x ≠ f ∧ SqL K H x ws ∧ Reps K H ts ws ∧ Oks ts ∧ depths ts ≤ n ∧ acc.length + sizes ts ≤ 3000 ∧ H f = some (.lst (acc.map V.int)) ∧ ∀ H', Kp f H H' → H' f = some (.lst ((nums ts acc).map V.int)) → Q (.ref f) H'
theorem ok_numL (T : Tx K mg) (n : Nat) : FnOk P w K mg base CX0 (n + 1 + 1) T.f_law_numbers T.d_law_numbers ["_law_terms", "_law_found"] (spNumL K n) := by
  refine T.h_law_numbers.F.ok sc_law_numbers (fun vs H Q E h => ?_) (fun cdv A outer s H vs Q E hr h => ?_)
  · obtain ⟨v, t, _, _, _, rfl, _⟩ := h
    rfl
  obtain ⟨x, f, ws, ts, acc, rfl, hxf, hT, hR, hO, hd, hz, hF, q⟩ := h
  refine ⟨_, (pss_cons (ps_for PassesOwn.never rfl (pi_list (pv 0)) (pg_name (i := 2) sc_law_numbers.nd rfl (Or.inl rfl))
      (pss_one (ps_if (PW.pt (pw_and (pt_val (pe_callB call_isi rfl T.b_isinstance (by decide +kernel) (pa_cons (pv 2) (pa_cons (pe_bltn (v := .ty "tuple") (u := .type "tuple") rfl T.b_tuple (by decide +kernel) rfl) pa_nil)))) (pw_and1 (pt_cmpR op_eq (pe_callB call_len_seq rfl T.b_len (by decide +kernel) (pa_cons (pv 2) pa_nil)) pe_int (nomark _)))))
      (pss_one (ps_if (pt_cmpR op_notIn_seq (pe_ix ix_tup (pv 2) pe_int (fun _ _ => rfl)) (pv 1) (by rfl))
      (pss_one (ps_expr (pe_bm PySem.F.plainAttrs_list PySem.F.slot_list_append PySem.F.type_list_append mt_append (pv 1) (pa_cons (pe_ix ix_tup (pv 2) pe_int (fun _ _ => rfl)) pa_nil))))
      pss_nil))
      (pss_one (ps_if (pt_val (pe_callB call_isi rfl T.b_isinstance (by decide +kernel) (pa_cons (pv 2) (pa_cons (pe_bltn (v := .ty "tuple") (u := .type "tuple") rfl T.b_tuple (by decide +kernel) rfl) pa_nil))))
      (pss_one (ps_expr (cl (ok_numT T n) T.h_law_numbers hr (pa_cons (pe_slice sl_tup (pv 2) (po_some pe_int) po_none) (pa_cons (pv 1) pa_nil)))))
      pss_nil)))))
    (pss_one (ps_ret (pv 1)))), ?_⟩
  have hlen := hR.len
  refine ⟨_, rfl, x, rfl, ⟨ws, hT⟩, for_list (NInv H x f ts acc) ⟨none, rfl, Kp.refl _ _, hF⟩ (fun i σ' H' _ ⟨_, _, k, _⟩ => k.sql hxf hT) ?_ ?_⟩
  · rintro i v σ' H1 hv ⟨c, rfl, k1, hF1⟩
    obtain ⟨t, ht, hRt⟩ := (hR.mono (Kp.tups hF k1)).get hv
    have hOt := oks_get hO ht
    have hns := nums_snoc ht acc
    have hnl := nums_len (ts.take i) acc
    have hts := take_sizes ts i ht
    have hp1 := size_pos t
    obtain ⟨tv, y1, y2⟩ := isi_tup hRt
    refine ⟨_, rfl, _, _, tv, _, isTup t, rfl, .ty "tuple", y1, y2, isTup t, rfl, ?_⟩
    cases t with
    | int i0 => exact iteF (iteF ⟨_, rfl, _, _, tv, _, false, rfl, .ty "tuple", y1, y2, false, rfl, iteF ⟨_, rfl, k1, by rw [hns]; exact hF1⟩⟩)
    | atom s0 => exact iteF (iteF ⟨_, rfl, _, _, tv, _, false, rfl, .ty "tuple", y1, y2, false, rfl, iteF ⟨_, rfl, k1, by rw [hns]; exact hF1⟩⟩)
    | var k =>
      have hR2 := hRt
      unfold Rep at hR2
      obtain ⟨a, rfl, hT2⟩ := hR2
      have hns' : nums (List.take (i + 1) ts) acc = addNew (nums (List.take i ts) acc) k := hns
      refine iteT ⟨_, rfl, a, _, rfl, .inr hT2, rfl, true, rfl, iteT ⟨_, rfl, a, _, 0, _, rfl, rfl, hT2, at0, _, rfl, f, _, rfl, .inl (SqL.of hF1), rfl, flat_ints _, _, rfl, ?_⟩⟩
      rw [if_pos rfl, inV_ints]
      by_cases m : k ∈ nums (List.take i ts) acc
      · rw [decide_eq_true m]
        refine iteF ⟨_, rfl, k1, ?_⟩
        rw [hns']
        unfold addNew
        rw [if_pos m]
        exact hF1
      · rw [decide_eq_false m]
        refine iteT ⟨_, rfl, .inl ⟨rfl, _, SqL.of hF1⟩, _, rfl, a, _, 0, _, rfl, rfl, hT2, at0, f, _, _, rfl, rfl, hF1, small5' (by rw [List.length_map]; omega), ?_⟩
        refine ⟨_, rfl, k1.trans Kp.upd, ?_⟩
        rw [upd_same, hns']
        unfold addNew
        rw [if_neg m, List.map_append]
        rfl
    | comp g as =>
      have hR2 := hRt
      unfold Rep at hR2
      obtain ⟨a, ws2, rfl, hT2, hA2⟩ := hR2
      have hl2 := hA2.len
      have hO2 := hOt
      unfold Ok at hO2
      have hlw : (V.str g :: ws2).length ≠ 1 := by
        rw [List.length_cons]
        omega
      refine iteT ⟨_, rfl, a, _, rfl, .inr hT2, rfl, decide ((V.str g :: ws2).length = 1), congrArg V.bl dec1, ?_⟩
      rw [decide_eq_false hlw]
      refine iteF ⟨_, rfl, _, _, tv, _, true, rfl, .ty "tuple", y1, y2, true, rfl, iteT ?_⟩
      refine ⟨_, rfl, _, rfl, a, _, rfl, hT2, cut1_ne _ _, fun p hp => ?_⟩
      rw [cut1]
      have e2 := Ex.new (o := HO.tup ws2) hp
      have hdt := depth_eq (.comp g as)
      have hst := size_eq (.comp g as)
      have hdd := depths_get ht
      have hargs : (Tm.comp g as).args = as := rfl
      rw [hargs] at hdt hst
      obtain ⟨m, rfl⟩ : ∃ m, n = m + 1 := ⟨n - 1, by omega⟩
      refine ⟨_, rfl, p, f, ws2, as, nums (List.take i ts) acc, rfl, SqT.of upd_same, hA2.mono (Tups.of e2), hO2.2.2.2, by omega, by omega, e2 _ _ hF1, fun H2 k2 hF2 => ?_⟩
      refine ⟨_, rfl, k1.trans ((Kp.of e2).trans k2), ?_⟩
      rw [hF2, hns]
      show some (HO.lst ((nums as (nums (List.take i ts) acc)).map V.int)) = some (HO.lst (((pre (.comp g as)).foldl stepVar (nums (List.take i ts) acc)).map V.int))
      rw [pre_eq]
      rfl
  · rintro σ' H1 ⟨c, rfl, k1, hF1⟩
    rw [← hlen, List.take_length] at hF1
    exact ⟨_, rfl, q H1 k1 hF1⟩
end
end Hm

set_option Elab.async false
set_option linter.all false
set_option maxRecDepth 100000
set_option maxHeartbeats 1000000
namespace Hm
open PySem PySem.Spec PyProof.Rows L2 HT
open Evl (Ex)
theorem nums_nodup (ts : List Tm) : (nums ts []).Nodup := fold_nodup _ List.nodup_nil
theorem ne_of_set {H : Hp} {D : Addr} {o : HO} (hp : H D = none) : Ex H (upd H D o) := Ex.new hp
section
variable {P : Program} {w : World} {K : PySem.W.Frag} {mg : Str → Option Value} {base : Heap}
def spAnew (K : PySem.W.Frag) : Sp := fun vs H Q _ => ∃ x ws ts, vs = [.ref x] ∧ H x = some (.lst ws) ∧ Reps K H ts ws ∧ Oks ts ∧ depths ts ≤ 12 ∧ sizes ts ≤ 900 ∧ ∀ p us H', H p = none → Ex H H' → H' p = some (.lst us) → Reps K H' (subs (rg (nums ts [])) ts) us → Q (.ref p) H'
theorem ok_law_anew (T : Tx K mg) : FnOk P w K mg base CX0 16 T.f_law_anew T.d_law_anew ["_law_terms"] (spAnew K) := by
  refine T.h_law_anew.F.ok sc_law_anew (fun vs H Q E h => ?_) (fun cdv A outer s H vs Q E hr h => ?_)
  · obtain ⟨x, _, _, rfl, _⟩ := h
    rfl
  obtain ⟨x, ws, ts, rfl, hS, hR, hO, hd, hz, q⟩ := h
  have hu0 := hr.units
  have hu : (A.deeper (envOfC "_law_anew" (defScope s_law_anew) s.heap.objs.size T.f_law_anew cdv)).units + 1 < cLine := by omega
  refine ⟨_, (pss_cons (ps_set (i := 1) sc_law_anew.nd rfl (Or.inr rfl) pe_dnewK)
    (pss_cons (ps_for PassesOwn.never rfl (pi_enum rfl T.b_enumerate (pa_cons (cl (ok_numL T 12) T.h_law_numbers hr (pa_cons (pv 0) (pa_cons (pe_lst pa_nil) pa_nil))) pa_nil)) (pg_tup rfl (pgs_cons (pg_name (i := 2) sc_law_anew.nd rfl (Or.inl rfl)) (pgs_cons (pg_name (i := 3) sc_law_anew.nd rfl (Or.inl rfl)) pgs_nil)))
      (pss_one (ps_dput hu (pv 1) (pv 3) (pe_tup (pa_cons (pv 2) pa_nil)) rfl)))
    (pss_one (ps_ret (pe_lc (own := [("_law_term", 4)]) (g := gName 4) rfl sc_law_anew.nd (pi_list (pv 0)) (blkOk_by (own := [("_law_term", 4)]) (N := ["_law_terms", "_law_table", "_law_at", "_law_number", "_law_term"]) (sc := defScope s_law_anew) (by decide +kernel)) (fun _ _ _ _ _ => pg_name (i := 4) sc_law_anew.nd rfl (Or.inl rfl)) (fun _ _ _ _ _ => pts_nil) (fun _ _ _ _ _ => (cl (ok_law_put T 12) T.h_law_put hr (pa_cons (pv 4) (pa_cons (pv 1) pa_nil))))))))), ?_⟩
  refine fun D hD => ?_
  have e1 := Ex.new (o := HO.dK []) hD
  have hK1 : (upd H D (.dK [])) D = some (.dK []) := upd_same
  have hS1 := e1 x _ hS
  generalize upd H D (.dK []) = H1 at *
  refine ⟨_, rfl, Nat.zero_le _, fun f hf => ?_⟩
  have e2 := Ex.new (o := HO.lst []) hf
  have hxf := ne_of_none hS1 hf
  have e12 := e1.trans e2
  refine ⟨x, f, ws, ts, [], rfl, hxf, SqL.of (e2 x _ hS1), hR.mono (Tups.of e12), hO, hd, by rw [List.length_nil]; omega, upd_same, fun H2 k2 hF2 => ?_⟩
  have e3 : Ex H1 H2 := fun b o hb => k2 b o (ne_of_none hb hf) (e2 b o hb)
  have hK2 := e3 D _ hK1
  have hS2 := e3 x _ hS1
  have hDf := ne_of_none hK1 hf
  have hnd := nums_nodup ts
  have hnl := nums_len ts []
  rw [List.length_nil, Nat.zero_add] at hnl
  generalize hxs : nums ts [] = xs at *
  refine ⟨f, _, rfl, SqL.of hF2, for_it walk_enum (fun i σ' H' => ∃ c1 c2 c3, σ' = [some (.ref x), some (.ref D), c1, c2, c3] ∧ Ex H H' ∧ H' x = some (.lst ws) ∧ H' f = some (.lst (xs.map V.int)) ∧ ∃ kvs, H' D = some (.dK kvs) ∧ kvs.length ≤ i ∧
      (∀ k u, valV kvs (Sum.inl k : Key) = some u → ∃ j : Nat, j < i ∧ xs[j]? = some k ∧ Rep K H' (.var (j : Int)) u) ∧ (∀ k, valV kvs (Sum.inl k : Key) = none → ∀ j : Nat, j < i → xs[j]? ≠ some k))
    ⟨none, none, none, rfl, e1.trans e3, hS2, hF2, [], hK2, Nat.le_refl _, fun k u h => by simp [valV] at h, fun k _ j hj => absurd hj (Nat.not_lt_zero _)⟩ (fun i σ' H' _ ⟨_, _, _, _, _, _, h, _⟩ => SqL.of h) ?_ ?_⟩
  · rintro i v σ' H3 H4 hi ⟨c1, c2, c3, rfl, e4, hS3, hF3, kvs, hK, hkl, hk1, hk2⟩ ⟨TT, x1, x2, rfl, hTT, rfl, hx1, hx2⟩
    have e5 := Ex.new (o := HO.tup [x1, x2]) hTT
    have hx1' : x1 = .int (i : Int) := (Option.some.inj hx1).symm
    subst hx1'
    rw [List.length_map] at hi
    obtain ⟨k, hk, rfl⟩ : ∃ k, xs[i]? = some k ∧ x2 = .int k := by
      have hx3 : (xs.map V.int)[i]? = some x2 := hx2
      rw [List.getElem?_map, List.getElem?_eq_getElem hi] at hx3
      rw [List.getElem?_eq_getElem hi]
      exact ⟨_, rfl, (Option.some.inj hx3).symm⟩
    refine ⟨TT, _, rfl, SqT.of upd_same, rfl, _, _, rfl, _, _, rfl, rfl, ?_⟩
    refine ⟨_, rfl, (by show 1 ≤ sizeLine; decide), fun tp htp => ?_⟩
    have e6 := Ex.new (o := HO.tup [V.int (i : Int)]) htp
    have e56 := e5.trans e6
    have hK5 := e56 D _ hK
    have hDx : D ≠ x := fun z => by
      subst z
      rw [hK] at hS3
      cases hS3
    have hDf' : D ≠ f := hDf
    refine ⟨_, rfl, _, rfl, D, _, rfl, .inl ⟨kvs, Sum.inl k, hK5, rfl, small5' (by omega), rfl⟩, _, _, _, rfl, Ex.mut (e4.trans e56) hD, ?_, ?_, _, upd_same, Nat.le_trans (putK_len _ _ _) (by omega), fun k' u hu => ?_, fun k' hn j hj => ?_⟩
    · rw [upd_ne hDx.symm]
      exact e56 x _ hS3
    · rw [upd_ne hDf'.symm]
      exact e56 f _ hF3
    · have tK : Tups K H3 (upd (upd (upd H3 TT (.tup [.int (i : Int), .int k])) tp (.tup [V.int (i : Int)])) D (.dK (putK kvs (Sum.inl k : Key) (.ref tp)))) := (Tups.of e56).trans (tups_dk hK5)
      rw [valV_put] at hu
      by_cases hkk : (Sum.inl k' : Key) = Sum.inl k
      · rw [if_pos hkk] at hu
        injection hkk with hkk
        subst hkk
        have := Option.some.inj hu
        subst this
        refine ⟨i, Nat.lt_succ_self _, hk, ?_⟩
        unfold Rep
        refine ⟨tp, rfl, SqT.of ?_⟩
        rw [upd_ne (ne_of_none (e5 D _ hK) htp).symm, upd_same]
      · rw [if_neg hkk] at hu
        obtain ⟨j, hj, h1, h2⟩ := hk1 k' u hu
        exact ⟨j, by omega, h1, h2.mono tK⟩
    · rw [valV_put] at hn
      by_cases hkk : (Sum.inl k' : Key) = Sum.inl k
      · rw [if_pos hkk] at hn
        cases hn
      · rw [if_neg hkk] at hn
        by_cases hji : j = i
        · subst hji
          rw [hk]
          intro z
          exact hkk (by rw [Option.some.inj z])
        · exact hk2 k' hn j (by omega)
  · rintro σ' H3 ⟨c1, c2, c3, rfl, e4, hS3, hF3, kvs, hK, hkl, hk1, hk2⟩
    rw [List.length_map] at hk1 hk2
    have hTab : TabRep K H3 D (rg xs) := by
      refine ⟨kvs, .inl hK, fun k => ⟨fun u hu => ?_, fun hn => ?_⟩⟩
      · obtain ⟨j, hj, h1, h2⟩ := hk1 k u hu
        have hm : k ∈ xs := List.mem_of_getElem? h1
        unfold rg
        rw [if_pos hm, idx_at hnd h1]
        exact h2
      · have hm : ¬ k ∈ xs := fun hm => by
          obtain ⟨j, hj, h1⟩ := List.getElem_of_mem hm
          exact hk2 k hn j hj (by rw [List.getElem?_eq_getElem hj, h1])
        unfold rg
        rw [if_neg hm]
    have hR3 := hR.mono (Tups.of (K := K) e4)
    have hlen := hR.len
    have hls := len_sizes ts
    refine ⟨_, rfl, x, rfl, ⟨_, SqL.of hS3⟩, fun D2 hD2 => ?_⟩
    refine lc_it walk_list (fun i H' => Ex H3 H' ∧ ∃ us, H' D2 = some (.lst us) ∧ Reps K H' (subs (rg xs) (ts.take i)) us) ⟨Ex.new hD2, [], upd_same, Reps.nil⟩ (fun i H' _ h => SqL.of (h.1 x _ hS3)) ?_ ?_
    · rintro i x' H4 H5 hi ⟨e5, us, hU, hUs⟩ ⟨rfl, hx'⟩
      obtain ⟨ti, hti, hri⟩ := (hR3.mono (Tups.of e5)).get hx'
      have hd1 := depths_get (ts := ts) hti
      have hs1 := sizes_get (ts := ts) hti
      refine ⟨rfl, yesI ⟨_, rfl, _, rfl, x', ti, D, rg xs, rfl, hri, oks_get hO hti, by omega, by omega, hTab.mono e5, fun u H6 e6 hu => ?_⟩⟩
      have hU4 := e6 D2 _ hU
      have hl2 := hUs.len
      rw [subs_len, List.length_take] at hl2
      refine ⟨us, hU4, small5' (by omega), Ex.mut (e5.trans e6) hD2, us ++ [u], upd_same, ?_⟩
      rw [take_snoc hti, subs_app, subs_one]
      have t6 : Tups K H6 (upd H6 D2 (.lst (us ++ [u]))) := Tups.lst hU4
      exact Reps.app ((hUs.mono (Tups.of e6)).mono t6) (Reps.one (hu.mono t6))
    · rintro H4 ⟨e5, us, hU, hUs⟩
      rw [← hlen, List.take_length] at hUs
      exact q D2 us H4 (ex_none e4 hD2) (e4.trans e5) hU hUs
end
end Hm

set_option Elab.async false
set_option linter.all false
set_option maxRecDepth 100000
set_option maxHeartbeats 1000000
namespace Hm
open PySem PySem.Spec PyProof.Rows L2 HT
open Evl (Ex)
def manyC : List (Key × V) := [(Sum.inr ",", .int 3), (Sum.inr ";", .int 3), (Sum.inr "->", .int 3), (Sum.inr "*->", .int 3), (Sum.inr "forall", .int 3), (Sum.inr "\\+", .int 2), (Sum.inr "once", .int 2), (Sum.inr "ignore", .int 2)]
theorem valV_none {k : Key} : ∀ {kvs : List (Key × V)}, (∀ e ∈ kvs, e.1 ≠ k) → valV kvs k = none
  | [], _ => rfl
  | e :: es, h => by
    have h1 := h e List.mem_cons_self
    have h2 := valV_none (kvs := es) fun e' he => h e' (List.mem_cons_of_mem _ he)
    unfold valV at h2 ⊢
    rw [List.find?_cons_of_neg (by simpa using h1)]
    exact h2
theorem mem_con {f : Str} {n : Nat} (h : (f, n) ∈ consL) : (f = "," ∧ n = 2) ∨ (f = ";" ∧ n = 2) ∨ (f = "->" ∧ n = 2) ∨ (f = "*->" ∧ n = 2) ∨ (f = "\\+" ∧ n = 1) ∨ (f = "once" ∧ n = 1) ∨ (f = "ignore" ∧ n = 1) ∨ (f = "forall" ∧ n = 2) := by
  simpa only [consL, List.mem_cons, Prod.mk.injEq, List.not_mem_nil, or_false] using h
theorem con_get (f : Str) : ∃ c : Nat, (valV (mergeK [] manyC) (Sum.inr f)).getD (.int 0) = .int (c : Int) ∧ ∀ n : Nat, decide (c = n + 1) = decide ((f, n) ∈ consL) := by
  have key : ∀ (g : Str) (m : Nat), f = g → (g, m) ∈ consL → (∀ n, (g, n) ∈ consL → n = m) → (valV (mergeK [] manyC) (Sum.inr g)).getD (.int 0) = .int ((m + 1 : Nat) : Int) → ∃ c : Nat, (valV (mergeK [] manyC) (Sum.inr f)).getD (.int 0) = .int (c : Int) ∧ ∀ n : Nat, decide (c = n + 1) = decide ((f, n) ∈ consL) := fun g m hf hm hu hv => by
    subst hf
    refine ⟨m + 1, hv, fun n => ?_⟩
    by_cases h : n = m
    · subst h
      rw [decide_eq_true rfl, decide_eq_true hm]
    · rw [decide_eq_false (by omega), decide_eq_false fun z => h (hu n z)]
  by_cases h1 : f = ","
  · exact key _ 2 h1 (by decide +kernel) (fun n h => by rcases mem_con h with ⟨h, rfl⟩ | ⟨h, rfl⟩ | ⟨h, rfl⟩ | ⟨h, rfl⟩ | ⟨h, rfl⟩ | ⟨h, rfl⟩ | ⟨h, rfl⟩ | ⟨h, rfl⟩ <;> first | rfl | exact absurd h (by decide +kernel)) rfl
  by_cases h2 : f = ";"
  · exact key _ 2 h2 (by decide +kernel) (fun n h => by rcases mem_con h with ⟨h, rfl⟩ | ⟨h, rfl⟩ | ⟨h, rfl⟩ | ⟨h, rfl⟩ | ⟨h, rfl⟩ | ⟨h, rfl⟩ | ⟨h, rfl⟩ | ⟨h, rfl⟩ <;> first | rfl | exact absurd h (by decide +kernel)) rfl
  by_cases h3 : f = "->"
  · exact key _ 2 h3 (by decide +kernel) (fun n h => by rcases mem_con h with ⟨h, rfl⟩ | ⟨h, rfl⟩ | ⟨h, rfl⟩ | ⟨h, rfl⟩ | ⟨h, rfl⟩ | ⟨h, rfl⟩ | ⟨h, rfl⟩ | ⟨h, rfl⟩ <;> first | rfl | exact absurd h (by decide +kernel)) rfl
  by_cases h4 : f = "*->"
  · exact key _ 2 h4 (by decide +kernel) (fun n h => by rcases mem_con h with ⟨h, rfl⟩ | ⟨h, rfl⟩ | ⟨h, rfl⟩ | ⟨h, rfl⟩ | ⟨h, rfl⟩ | ⟨h, rfl⟩ | ⟨h, rfl⟩ | ⟨h, rfl⟩ <;> first | rfl | exact absurd h (by decide +kernel)) rfl
  by_cases h5 : f = "\\+"
  · exact key _ 1 h5 (by decide +kernel) (fun n h => by rcases mem_con h with ⟨h, rfl⟩ | ⟨h, rfl⟩ | ⟨h, rfl⟩ | ⟨h, rfl⟩ | ⟨h, rfl⟩ | ⟨h, rfl⟩ | ⟨h, rfl⟩ | ⟨h, rfl⟩ <;> first | rfl | exact absurd h (by decide +kernel)) rfl
  by_cases h6 : f = "once"
  · exact key _ 1 h6 (by decide +kernel) (fun n h => by rcases mem_con h with ⟨h, rfl⟩ | ⟨h, rfl⟩ | ⟨h, rfl⟩ | ⟨h, rfl⟩ | ⟨h, rfl⟩ | ⟨h, rfl⟩ | ⟨h, rfl⟩ | ⟨h, rfl⟩ <;> first | rfl | exact absurd h (by decide +kernel)) rfl
  by_cases h7 : f = "ignore"
  · exact key _ 1 h7 (by decide +kernel) (fun n h => by rcases mem_con h with ⟨h, rfl⟩ | ⟨h, rfl⟩ | ⟨h, rfl⟩ | ⟨h, rfl⟩ | ⟨h, rfl⟩ | ⟨h, rfl⟩ | ⟨h, rfl⟩ | ⟨h, rfl⟩ <;> first | rfl | exact absurd h (by decide +kernel)) rfl
  by_cases h8 : f = "forall"
  · exact key _ 2 h8 (by decide +kernel) (fun n h => by rcases mem_con h with ⟨h, rfl⟩ | ⟨h, rfl⟩ | ⟨h, rfl⟩ | ⟨h, rfl⟩ | ⟨h, rfl⟩ | ⟨h, rfl⟩ | ⟨h, rfl⟩ | ⟨h, rfl⟩ <;> first | rfl | exact absurd h (by decide +kernel)) rfl
  refine ⟨0, ?_, fun n => ?_⟩
  · rw [show mergeK [] manyC = manyC from rfl, valV_none (fun e he z => ?_)]
    · rfl
    · simp only [manyC, List.mem_cons, List.not_mem_nil, or_false] at he
      rcases he with rfl | rfl | rfl | rfl | rfl | rfl | rfl | rfl <;> injection z with z <;> exact absurd z.symm ‹_›
  · rw [decide_eq_false (by omega), decide_eq_false fun z => ?_]
    rcases mem_con z with ⟨h, _⟩ | ⟨h, _⟩ | ⟨h, _⟩ | ⟨h, _⟩ | ⟨h, _⟩ | ⟨h, _⟩ | ⟨h, _⟩ | ⟨h, _⟩ <;> contradiction
section
variable {P : Program} {w : World} {K : PySem.W.Frag} {mg : Str → Option Value} {base : Heap}
theorem ok_law_is_construct (T : Tx K mg) : FnOk P w K mg base CX0 1 T.f_law_is_construct T.d_law_is_construct ["_law_term"] (spCon K) := by
  refine T.h_law_is_construct.F.ok sc_law_is_construct (fun vs H Q E h => ?_) (fun cdv A outer s H vs Q E hr h => ?_)
  · obtain ⟨v, t, rfl, _⟩ := h
    rfl
  obtain ⟨v, t, rfl, hR, hO, q⟩ := h
  have hu0 := hr.units
  have hu2 : (A.deeper (envOfC "_law_is_construct" (defScope s_law_is_construct) s.heap.objs.size T.f_law_is_construct cdv)).units + 1 < cLine := by omega
  refine ⟨_, (pss_cons (ps_set (i := 1) sc_law_is_construct.nd rfl (Or.inl rfl) (pe_disp (pps_cons pe_str pe_int (pps_cons pe_str pe_int (pps_cons pe_str pe_int (pps_cons pe_str pe_int (pps_cons pe_str pe_int (pps_cons pe_str pe_int (pps_cons pe_str pe_int (pps_cons pe_str pe_int pps_nil)))))))) rfl rfl (by decide) (by decide)))
    (pss_one (ps_ret (pe_and (pe_callB call_isi rfl T.b_isinstance (by decide +kernel) (pa_cons (pv 0) (pa_cons (pe_bltn (v := .ty "tuple") (u := .type "tuple") rfl T.b_tuple (by decide +kernel) rfl) pa_nil))) (pe_and (pe_cmpR op_gt (pe_callB call_len_seq rfl T.b_len (by decide +kernel) (pa_cons (pv 0) pa_nil)) pe_int (nomark _)) (pe_one (pe_cmpR op_eq (pe_dget2 hu2 (pv 1) (pe_ix ix_tup (pv 0) pe_int (fun _ _ => rfl)) pe_int ⟨rfl, rfl, rfl, rfl⟩) (pe_callB call_len_seq rfl T.b_len (by decide +kernel) (pa_cons (pv 0) pa_nil)) (nomark _)))))))), ?_⟩
  refine fun p hp => ⟨upd_same, manyC, rfl, by decide, ?_⟩
  have e1 : Ex H (upd (upd H p (.dK [])) p (.dK (mergeK [] manyC))) := Ex.mut (Ex.new hp) hp
  have hK : (upd (upd H p (.dK [])) p (.dK (mergeK [] manyC))) p = some (.dK (mergeK [] manyC)) := upd_same
  generalize upd (upd H p (.dK [])) p (.dK (mergeK [] manyC)) = H1 at *
  have hR1 := hR.mono (Tups.of (K := K) e1)
  obtain ⟨tv, y1, y2⟩ := isi_tup hR1
  refine ⟨_, rfl, _, _, tv, _, isTup t, rfl, .ty "tuple", y1, y2, isTup t, rfl, ?_⟩
  cases t with
  | int i => exact iteF (q H1 e1)
  | atom s => exact iteF (q H1 e1)
  | var k =>
    unfold Rep at hR1
    obtain ⟨a, rfl, hT⟩ := hR1
    exact iteT ⟨_, rfl, a, _, rfl, .inr hT, _, _, rfl, rfl, false, rfl, iteF (q H1 e1)⟩
  | comp f as =>
    unfold Rep at hR1
    obtain ⟨a, ws, rfl, hT, hA⟩ := hR1
    have hl := hA.len
    have hO2 := hO
    unfold Ok at hO2
    obtain ⟨c, hc1, hc2⟩ := con_get f
    refine iteT ⟨_, rfl, a, _, rfl, .inr hT, _, _, rfl, rfl, true, congrArg V.bl (decide_eq_true (by rw [List.length_cons]; omega)), iteT ?_⟩
    refine ⟨_, rfl, p, rfl, .inl ⟨_, .inl hK⟩, _, rfl, a, _, 0, _, rfl, rfl, hT, at0, _, .inl ⟨_, Sum.inr f, .inl hK, rfl, rfl⟩, ?_⟩
    rw [hc1]
    refine ⟨_, rfl, a, _, rfl, .inr hT, rfl, ?_⟩
    rw [dec_len, List.length_cons, hc2 ws.length, ← hl]
    exact q H1 e1
end
end Hm

set_option Elab.async false
set_option linter.all false
set_option maxRecDepth 100000
set_option maxHeartbeats 1000000
namespace Hm
open PySem PySem.Spec PyProof.Rows L2 HT
open Evl (Ex)
theorem bodyL_map : ∀ ts : List Tm, bodyL ts = (ts.map body).all id
  | [] => by rw [bodyL]; rfl
  | t :: ts => by
    rw [bodyL, bodyL_map ts]
    rfl
theorem wcs_app : ∀ xs ys : List Tm, wcs (xs ++ ys) = wcs xs ++ wcs ys
  | [], ys => by rw [wcs]; rfl
  | x :: xs, ys => by
    show wcs (x :: (xs ++ ys)) = _
    rw [wcs, wcs, wcs_app xs ys]
    rfl
theorem wcs_one (t : Tm) : wcs [t] = [wc t] := by rw [wcs, wcs]
section
variable {P : Program} {w : World} {K : PySem.W.Frag} {mg : Str → Option Value} {base : Heap}
theorem ok_law_is_goal (T : Tx K mg) : FnOk P w K mg base CX0 1 T.f_law_is_goal T.d_law_is_goal ["_law_term"] (spCallable K) := by
  refine T.h_law_is_goal.F.ok sc_law_is_goal (fun vs H Q E h => ?_) (fun cdv A outer s H vs Q E hr h => ?_)
  · obtain ⟨v, t, rfl, _⟩ := h
    rfl
  obtain ⟨v, t, rfl, hR, hO, q⟩ := h
  refine ⟨_, (pss_one (ps_ret (pe_or (pe_callB call_isi rfl T.b_isinstance (by decide +kernel) (pa_cons (pv 0) (pa_cons (pe_bltn (v := .ty "str") (u := .type "str") rfl T.b_str (by decide +kernel) rfl) pa_nil))) (pe_one (pe_and (pe_callB call_isi rfl T.b_isinstance (by decide +kernel) (pa_cons (pv 0) (pa_cons (pe_bltn (v := .ty "tuple") (u := .type "tuple") rfl T.b_tuple (by decide +kernel) rfl) pa_nil))) (pe_one (pe_cmpR op_gt (pe_callB call_len_seq rfl T.b_len (by decide +kernel) (pa_cons (pv 0) pa_nil)) pe_int (nomark _)))))))), ?_⟩
  obtain ⟨tv, y1, y2⟩ := isi_str hR
  obtain ⟨tw, z1, z2⟩ := isi_tup hR
  refine ⟨_, rfl, _, _, tv, _, isAtom t, rfl, .ty "str", y1, y2, isAtom t, rfl, ?_⟩
  cases ha : isAtom t with
  | true =>
    have : callable t = true := by cases t <;> first | rfl | cases ha
    rw [this] at q
    exact iteT q
  | false =>
    refine iteF ⟨_, rfl, _, _, tw, _, isTup t, rfl, .ty "tuple", z1, z2, isTup t, rfl, ?_⟩
    cases ht : isTup t with
    | false =>
      have : callable t = false := by cases t <;> first | rfl | (cases ha; done) | (cases ht; done)
      rw [this] at q
      exact iteF q
    | true =>
      cases t with
      | var k =>
        unfold Rep at hR
        obtain ⟨a, rfl, hT⟩ := hR
        exact iteT ⟨_, rfl, a, _, rfl, .inr hT, _, _, rfl, rfl, q⟩
      | comp f as =>
        unfold Rep at hR
        obtain ⟨a, ws, rfl, hT, hA⟩ := hR
        have hl := hA.len
        unfold Ok at hO
        refine iteT ⟨_, rfl, a, _, rfl, .inr hT, _, _, rfl, rfl, ?_⟩
        have : decide ((1 : Int) < ((V.str f :: ws).length : Int)) = true := decide_eq_true (by rw [List.length_cons]; omega)
        show Q (V.bl (decide ((1 : Int) < ((V.str f :: ws).length : Int)))) H
        rw [this]
        exact q
      | int k => cases ht
      | atom k => cases ha
/-! ### _law_is_body -/
def spLBody (K : PySem.W.Frag) (n : Nat) : Sp := fun vs H Q _ => ∃ v t, vs = [v] ∧ Rep K H t v ∧ Ok t ∧ depth t ≤ n ∧ ∀ H', Ex H H' → Q (.bl (body t)) H'
theorem lbody_step (T : Tx K mg) (n : Nat) (ih : FnOk P w K mg base CX0 (n + 2) T.f_law_is_body T.d_law_is_body ["_law_term"] (spLBody K n)) :
    FnOk P w K mg base CX0 (n + 2 + 1) T.f_law_is_body T.d_law_is_body ["_law_term"] (spLBody K (n + 1)) := by
  refine T.h_law_is_body.F.ok sc_law_is_body (fun vs H Q E h => ?_) (fun cdv A outer s H vs Q E hr h => ?_)
  · obtain ⟨v, t, rfl, _⟩ := h
    rfl
  obtain ⟨v, t, rfl, hR, hO, hd, q⟩ := h
  refine ⟨_, (pss_cons (ps_if (pt_val (cl (ok_law_is_construct T) T.h_law_is_construct hr (pa_cons (pv 0) pa_nil)))
      (pss_one (ps_ret (pe_callB (cr_all rfl) rfl T.b_all (by decide +kernel) (pa_cons (pe_lc (own := [("_law_one_here", 1)]) (g := gName 1) rfl sc_law_is_body.nd (pi_tup (pe_slice sl_tup (pv 0) (po_some pe_int) po_none)) (blkOk_by (own := [("_law_one_here", 1)]) (N := ["_law_term", "_law_one_here"]) (sc := defScope s_law_is_body) (by decide +kernel)) (fun _ _ _ _ _ => pg_name (i := 1) sc_law_is_body.nd rfl (Or.inl rfl)) (fun _ _ _ _ _ => pts_nil) (fun _ _ _ _ _ => (cl ih T.h_law_is_body hr (pa_cons (pv 1) pa_nil)))) pa_nil))))
      pss_nil)
    (pss_one (ps_ret (pe_not (pe_callB call_isi rfl T.b_isinstance (by decide +kernel) (pa_cons (pv 0) (pa_cons (pe_bltn (v := .ty "int") (u := .type "int") rfl T.b_int (by decide +kernel) rfl) pa_nil))))))), ?_⟩
  refine ⟨_, rfl, v, t, rfl, hR, hO, fun H1 e1 => ⟨isCon t, rfl, ?_⟩⟩
  have hR1 := hR.mono (Tups.of (K := K) e1)
  cases hc : isCon t with
  | false =>
    obtain ⟨tv, y1, y2⟩ := isi_int hR1
    refine iteF ⟨_, rfl, _, _, tv, _, isInt t, rfl, .ty "int", y1, y2, isInt t, rfl, ?_⟩
    have : (!isInt t) = body t := by
      have := body_leaves t
      rw [leaves_not hc] at this
      have h2 : isInt t = !body t := by
        rw [← this]
        show isInt t = (isInt t || false)
        rw [Bool.or_false]
      rw [h2, Bool.not_not]
    rw [this]
    exact q H1 e1
  | true =>
    cases t with
    | comp f as =>
      have hb : body (.comp f as) = (as.map body).all id := by
        rw [body, if_pos hc, bodyL_map]
      rw [hb] at q
      unfold Rep at hR1
      obtain ⟨a, ws, rfl, hT, hA⟩ := hR1
      have hlen := hA.len
      have hO2 := hO
      unfold Ok at hO2
      refine iteT ⟨_, rfl, _, rfl, a, _, rfl, hT, cut1_ne _ _, fun p hp => ?_⟩
      rw [cut1]
      have e2 := Ex.new (o := HO.tup ws) hp
      have hP : (upd H1 p (.tup ws)) p = some (.tup ws) := upd_same
      have hA2 := hA.mono (Tups.of e2)
      have e12 := e1.trans e2
      generalize upd H1 p (.tup ws) = H2 at *
      have hdt := depth_eq (.comp f as)
      refine ⟨p, rfl, ⟨ws, SqT.of hP⟩, fun D hD => ?_⟩
      have e3 := Ex.new (o := HO.lst []) hD
      refine lc_it walk_tup (fun i H' => Ex H2 H' ∧ H' D = some (.lst ((as.take i).map fun t => V.bl (body t)))) ⟨e3, upd_same⟩ (fun i H' _ h => SqT.of (h.1 p _ hP)) ?_ ?_
      · rintro i x H3x H3 hi ⟨e4, hU⟩ ⟨rfl, hx⟩
        obtain ⟨ti, hti, hri⟩ := (hA2.mono (Tups.of e4)).get hx
        have hd1 := depths_get (ts := as) hti
        refine ⟨rfl, yesI ⟨_, rfl, x, ti, rfl, hri, oks_get hO2.2.2.2 hti, ?_, fun H4 e5 => ?_⟩⟩
        · have : (Tm.comp f as).args = as := rfl
          rw [this] at hdt
          omega
        · refine ⟨_, e5 D _ hU, ?_, Ex.mut (e4.trans e5) hD, ?_⟩
          · rw [List.length_map, List.length_take]
            exact small5' (by omega)
          · rw [upd_same, tk_succ (x := ti) (h := hti)]
      · rintro H3 ⟨e4, hU⟩
        rw [← hlen, List.take_length] at hU
        refine ⟨D, as.map body, rfl, SqL.of ?_, q H3 (e12.trans e4)⟩
        rw [hU, List.map_map]
        rfl
    | var k => cases hc
    | int k => cases hc
    | atom k => cases hc
theorem ok_law_is_body (T : Tx K mg) : ∀ n : Nat, FnOk P w K mg base CX0 (n + 2) T.f_law_is_body T.d_law_is_body ["_law_term"] (spLBody K n)
  | 0 => by
    have no : ∀ vs H Q E, ¬ spLBody K 0 vs H Q E := fun vs H Q E ⟨v, t, _, _, _, h, _⟩ => by
      have := depth_pos t
      omega
    exact ⟨fun vs H Q E h => absurd h (no vs H Q E), fun A outer s H args us vs Q E _ _ _ _ h => absurd h (no vs H Q E)⟩
  | n + 1 => lbody_step T n (ok_law_is_body T n)
/-! ### _law_with_calls -/
def spLWith (K : PySem.W.Frag) (n : Nat) : Sp := fun vs H Q _ => ∃ v t, vs = [v] ∧ Rep K H t v ∧ Ok t ∧ depth t ≤ n ∧ ∀ u H', Ex H H' → Rep K H' (wc t) u → Q u H'
theorem lwith_step (T : Tx K mg) (n : Nat) (ih : FnOk P w K mg base CX0 (n + 2) T.f_law_with_calls T.d_law_with_calls ["_law_term"] (spLWith K n)) :
    FnOk P w K mg base CX0 (n + 2 + 1) T.f_law_with_calls T.d_law_with_calls ["_law_term"] (spLWith K (n + 1)) := by
  refine T.h_law_with_calls.F.ok sc_law_with_calls (fun vs H Q E h => ?_) (fun cdv A outer s H vs Q E hr h => ?_)
  · obtain ⟨v, t, rfl, _⟩ := h
    rfl
  obtain ⟨v, t, rfl, hR, hO, hd, q⟩ := h
  refine ⟨_, (pss_cons (ps_if (pt_val (cl (ok_law_is_construct T) T.h_law_is_construct hr (pa_cons (pv 0) pa_nil)))
      (pss_one (ps_ret (pe_op op_catT (pe_tup (pa_cons (pe_ix ix_tup (pv 0) pe_int (fun _ _ => rfl)) pa_nil)) (pe_callTy call_tuple_of rfl T.b_tuple (by decide +kernel) (pa_cons (pe_lc (own := [("_law_one_here", 1)]) (g := gName 1) rfl sc_law_with_calls.nd (pi_tup (pe_slice sl_tup (pv 0) (po_some pe_int) po_none)) (blkOk_by (own := [("_law_one_here", 1)]) (N := ["_law_term", "_law_one_here"]) (sc := defScope s_law_with_calls) (by decide +kernel)) (fun _ _ _ _ _ => pg_name (i := 1) sc_law_with_calls.nd rfl (Or.inl rfl)) (fun _ _ _ _ _ => pts_nil) (fun _ _ _ _ _ => (cl ih T.h_law_with_calls hr (pa_cons (pv 1) pa_nil)))) pa_nil)))))
      pss_nil)
    (pss_one (ps_ret (pe_ifExp (PW.pt (pw_and (pt_val (pe_callB call_isi rfl T.b_isinstance (by decide +kernel) (pa_cons (pv 0) (pa_cons (pe_bltn (v := .ty "tuple") (u := .type "tuple") rfl T.b_tuple (by decide +kernel) rfl) pa_nil)))) (pw_and1 (pt_cmpR op_eq (pe_callB call_len_seq rfl T.b_len (by decide +kernel) (pa_cons (pv 0) pa_nil)) pe_int (nomark _))))) (pe_tup (pa_cons pe_str (pa_cons (pv 0) pa_nil))) (pv 0))))), ?_⟩
  refine ⟨_, rfl, v, t, rfl, hR, hO, fun H0 e0 => ⟨isCon t, rfl, ?_⟩⟩
  have hR0 := hR.mono (Tups.of (K := K) e0)
  cases hc : isCon t with
  | false =>
    refine iteF ?_
    obtain ⟨tv, y1, y2⟩ := isi_tup hR0
    refine ⟨_, rfl, _, _, tv, _, isTup t, rfl, .ty "tuple", y1, y2, isTup t, rfl, ?_⟩
    cases t with
    | int i => exact iteF (iteF ⟨_, rfl, q _ H0 e0 (by rw [wc]; exact hR0)⟩)
    | atom i => exact iteF (iteF ⟨_, rfl, q _ H0 e0 (by rw [wc]; exact hR0)⟩)
    | var k =>
      have hR2 := hR0
      unfold Rep at hR2
      obtain ⟨a, rfl, hT⟩ := hR2
      refine iteT ⟨_, rfl, a, _, rfl, .inr hT, rfl, true, rfl, iteT ⟨_, rfl, (by show 2 ≤ sizeLine; decide), fun p hp => q _ _ (e0.trans (Ex.new hp)) ?_⟩⟩
      rw [wc]
      unfold Rep
      exact ⟨p, _, rfl, SqT.of upd_same, Reps.one (hR0.mono (Tups.of (Ex.new hp)))⟩
    | comp f as =>
      have hR2 := hR0
      unfold Rep at hR2
      obtain ⟨a, ws, rfl, hT, hA⟩ := hR2
      have hlw : (V.str f :: ws).length ≠ 1 := by
        have h1 := hA.len
        unfold Ok at hO
        rw [List.length_cons]
        omega
      refine iteT ⟨_, rfl, a, _, rfl, .inr hT, rfl, decide ((V.str f :: ws).length = 1), congrArg V.bl dec1, ?_⟩
      rw [decide_eq_false hlw]
      exact iteF ⟨_, rfl, q _ H0 e0 (by rw [wc, if_neg (by rw [hc]; decide)]; exact hR0)⟩
  | true =>
    cases t with
    | comp f as =>
      refine iteT ?_
      have hw : wc (.comp f as) = .comp f (wcs as) := by rw [wc, if_pos hc]
      rw [hw] at q
      unfold Rep at hR0
      obtain ⟨a, ws, rfl, hT, hA⟩ := hR0
      refine ⟨_, rfl, a, _, 0, _, rfl, rfl, hT, at0, (by show 1 ≤ sizeLine; decide), fun tp htp => ?_⟩
      have e1 := Ex.new (o := HO.tup [.str f]) htp
      have hT1 : SqT K (upd H0 tp (.tup [.str f])) tp [.str f] := SqT.of upd_same
      refine ⟨_, rfl, _, rfl, a, _, rfl, Evl.ex_t e1 hT, cut1_ne _ _, fun p hp => ?_⟩
      rw [cut1]
      have e2 := Ex.new (o := HO.tup ws) hp
      have hP : (upd (upd H0 tp (.tup [.str f])) p (.tup ws)) p = some (.tup ws) := upd_same
      have hA2 := (hA.mono (Tups.of e1)).mono (Tups.of e2)
      have hT2 := Evl.ex_t e2 hT1
      have e12 := (e0.trans e1).trans e2
      generalize upd (upd H0 tp (.tup [.str f])) p (.tup ws) = H2 at *
      have hlen := hA.len
      have hdt := depth_eq (.comp f as)
      have hO2 := hO
      unfold Ok at hO2
      refine ⟨p, rfl, ⟨ws, SqT.of hP⟩, fun D hD => ?_⟩
      have e3 := Ex.new (o := HO.lst []) hD
      refine lc_it walk_tup (fun i H' => Ex H2 H' ∧ ∃ us, H' D = some (.lst us) ∧ Reps K H' (wcs (as.take i)) us) ⟨e3, [], upd_same, by rw [List.take_zero, wcs]; exact Reps.nil⟩ (fun i H' _ h => SqT.of (h.1 p _ hP)) ?_ ?_
      · rintro i x H3x H3 hi ⟨e4, us, hU, hUs⟩ ⟨rfl, hx⟩
        obtain ⟨ti, hti, hri⟩ := (hA2.mono (Tups.of e4)).get hx
        have hd1 := depths_get (ts := as) hti
        refine ⟨rfl, yesI ⟨_, rfl, x, ti, rfl, hri, oks_get hO2.2.2.2 hti, ?_, fun u H4 e5 hu => ?_⟩⟩
        · have : (Tm.comp f as).args = as := rfl
          rw [this] at hdt
          omega
        · have hU4 := e5 D _ hU
          have hl2 := hUs.len
          rw [wcs_len, List.length_take] at hl2
          refine ⟨us, hU4, small5' (by omega), Ex.mut (e4.trans e5) hD, us ++ [u], upd_same, ?_⟩
          rw [take_snoc hti, wcs_app, wcs_one]
          have t6 : Tups K H4 (upd H4 D (.lst (us ++ [u]))) := Tups.lst hU4
          exact Reps.app ((hUs.mono (Tups.of e5)).mono t6) (Reps.one (hu.mono t6))
      · rintro H3 ⟨e4, us, hU, hUs⟩
        rw [← hlen, List.take_of_length_le (Nat.le_refl _)] at hUs
        have hl2 := hUs.len
        rw [wcs_len] at hl2
        refine ⟨D, us, rfl, .inl ⟨SqL.of hU, fun q2 hq2 => ?_⟩⟩
        have e5 := Ex.new (o := HO.tup us) hq2
        refine ⟨tp, q2, [.str f], us, rfl, rfl, Evl.ex_t e5 (Evl.ex_t e4 hT2), SqT.of upd_same, by simp, small5 (by simp; omega), fun z => ?_, fun _ p3 hp3 => ?_⟩
        · rw [z, List.length_nil] at hl2
          omega
        · have e6 := Ex.new (o := HO.tup ([V.str f] ++ us)) hp3
          refine q (.ref p3) _ (((e12.trans e4).trans e5).trans e6) ?_
          unfold Rep
          exact ⟨p3, us, rfl, SqT.of upd_same, (hUs.mono (Tups.of e5)).mono (Tups.of e6)⟩
    | var k => cases hc
    | int k => cases hc
    | atom k => cases hc
theorem ok_law_with_calls (T : Tx K mg) : ∀ n : Nat, FnOk P w K mg base CX0 (n + 2) T.f_law_with_calls T.d_law_with_calls ["_law_term"] (spLWith K n)
  | 0 => by
    have no : ∀ vs H Q E, ¬ spLWith K 0 vs H Q E := fun vs H Q E ⟨v, t, _, _, _, h, _⟩ => by
      have := depth_pos t
      omega
    exact ⟨fun vs H Q E h => absurd h (no vs H Q E), fun A outer s H args us vs Q E _ _ _ _ h => absurd h (no vs H Q E)⟩
  | n + 1 => lwith_step T n (ok_law_with_calls T n)
end
end Hm

set_option Elab.async false
set_option linter.all false
set_option maxRecDepth 100000
set_option maxHeartbeats 2000000
/-! try: body, except x as n: suite, except ..: what comes is always x's, so the other clauses are never reached -/
namespace RG
open PySem PySem.Spec PyProof.Rows L2
/-- what comes is of class c, and the suite runs with it in slot i -/
def wNamed (K : PySem.W.Frag) (c : Value) (i : Nat) (ts : Addr → Value → Option Addr → TS) (D : Ends) : WX := fun cls d σ H =>
  PySem.W.exmOne K cls c = some true ∧ ∀ a, H a = none → ts a cls d { nx := fun σ' H' => D.nx (σ'.set i none) H', rt := D.rt, bk := fun σ' H' => D.bk (σ'.set i none) H', ct := fun σ' H' => D.ct (σ'.set i none) H' } (σ.set i (some (.ref a))) H
section
variable {X : Cx} {x n : Str} {c : Value} {i : Nat} {body suite : List Stmt} {b₀ : Stmt} {np pos pos' : Pos} {tb : WX → TS} {ts : Addr → Value → Option Addr → TS} {hds : List ExceptHandler}
theorem ps_try_named (hs : X.stack = X.env :: X.outer) (hf : X.env.frame = some X.env.locals) (hN : X.N.Nodup) (hi : X.N[i]? = some n) (hln : X.env.kindOf n = some .local) (hc : Names X x c)
    (hb : ∀ (W : WX) (pn : List (Addr × Obj)) (xe : Value → Shared → Prop), Takes (X.tr pn xe) W → PassesOwn (model X.prog X.w) X.A X.env xe → PSs (X.tr pn xe) body (tb W))
    (hsu : ∀ (a : Addr) (oe : Obj) (cls : Value) (d : Option Addr) (pn : List (Addr × Obj)), Zc cls d oe → (∃ vs, oe.data = .fields vs) → PSs (X.suite a ((a, oe) :: pn)) (b₀ :: suite) (ts a cls d)) :
    PS X (.Try body (.ExceptHandler (some (.Name x np)) (some n) (b₀ :: suite) pos' :: hds) [] [] pos) (fun D σ H => tb (wNamed X.K c i ts D) D σ H) := by
  refine ⟨fun pins s σ H D I h => ?_⟩
  have ok := I.ok
  have hfr : X.A.frames = some (X.env :: X.outer) := by rw [ok.frames, hs]
  have back : ∀ {f : Flow} {s1 : Shared}, SP (X.tr (X.pn ++ pins) (fun e s₁ => wpAny (model X.prog X.w) X.A (noteFrame e X.env) (fun _ s₂ => wpAny (model X.prog X.w) X.A (setFlight e none) (fun _ s₃ =>
      wpAny (model X.prog X.w) X.A (handleBy e X.env (.ExceptHandler (some (.Name x np)) (some n) (b₀ :: suite) pos' :: hds)) (SP X pins D) X.xe s₃) X.xe s₂) X.xe s₁)) [] D f s1 → SP X pins D f s1 := by
    rintro (_ | _ | _ | u) s1 hsp
    · obtain ⟨σ', H', J, q⟩ := hsp
      exact ⟨σ', H', J.ofTry ok, q⟩
    · obtain ⟨σ', H', J, q⟩ := hsp
      exact ⟨σ', H', J.ofTry ok, q⟩
    · obtain ⟨σ', H', J, q⟩ := hsp
      exact ⟨σ', H', J.ofTry ok, q⟩
    · obtain ⟨v, σ', H', J, r, q⟩ := hsp
      exact ⟨v, σ', H', J.ofTry ok, r, q⟩
  refine wpAny_Try_except (wpAny_mono ((hb (wNamed X.K c i ts D) (X.pn ++ pins) (fun e s₁ => wpAny (model X.prog X.w) X.A (noteFrame e X.env) (fun _ s₂ => wpAny (model X.prog X.w) X.A (setFlight e none) (fun _ s₃ =>
      wpAny (model X.prog X.w) X.A (handleBy e X.env (.ExceptHandler (some (.Name x np)) (some n) (b₀ :: suite) pos' :: hds)) (SP X pins D) X.xe s₃) X.xe s₂) X.xe s₁) (fun u s' xx => ?_) PassesOwn.looking).run [] s σ H D (I.toTry _) h) (fun f s1 hsp => ?_) (fun e s1 he => he))
  · obtain ⟨a, B, sI, pins', σ', H', cls, d, rfl, J', nb, up, sky, na, os, ag, hb1, hyes⟩ := xx
    have J := J'.ofTry ok
    have sky' : Sky B (X.env :: X.outer) a (Zc cls d) X.env.locals s'.heap := by rw [← hs]; exact sky
    refine Sky.land Zc.steady hfr hf sky' fun h3 fl3 up3 => ?_
    have J3 : Inv X pins σ' H' { s' with heap := h3 } := J.landed nb fl3.1 (up.trans up3) os ag
    obtain ⟨oe3, vs3, he3, hz3, hd3⟩ := fl3.there
    have away : a ∉ frs (X.env :: X.outer) := fun hm => by
      obtain ⟨_, o, eo, no⟩ := fl3.2.2.1.mem hm
      rw [he3] at eo
      cases eo
      exact no _ hd3
    have nL : a ≠ X.env.locals := fun z => away (List.mem_filterMap.mpr ⟨X.env, List.mem_cons_self, by rw [hf, z]⟩)
    have nF : a ∉ X.fs := fun hm => (List.mem_filterMap.mp hm).elim fun e q => away (List.mem_filterMap.mpr ⟨e, List.mem_cons_of_mem _ q.1, q.2⟩)
    have S3 := J3.suite he3 hd3 na nL nF
    refine wpAny_handleBy_cons (codeAny_handlers_test ?_) (by intro q; cases q)
    have LM := PySem.W.exm_one (M := model X.prog X.w) J3.kIn (fun A Q E s k q => wpAny_typeOf_ref (k _ _ he3) (by rw [hz3.1]; exact q)) hb1
    have test : ∀ {Q : Value → Shared → Prop} {E : Value → Shared → Prop}, Q c { s' with heap := h3 } → wpAny (model X.prog X.w) (X.A.mark (some (.ref a))) (eval (.Name x np) X.env) Q E { s' with heap := h3 } := fun {Q E} q => by
      obtain ⟨hg, hdbg, hm | ⟨hm, hv, hnn⟩⟩ := hc
      · exact ld_glob (X := X.suite a ((a, oe3) :: (X.pn ++ pins))) S3 hg hm q hdbg
      · exact ld_blt (X := X.suite a ((a, oe3) :: (X.pn ++ pins))) S3 hg hm hv q hnn hdbg
    refine test (LM.here (codeAny_handlers_suite_as (HandSPX.lands_againZ fl3 fun h4 fl4 up4 => ?_)))
    have J4 : Inv X pins σ' H' { s' with heap := h4 } := J.landed nb fl4.1 ((up.trans up3).trans up4) os ag
    obtain ⟨oe4, vs4, he4, hz4, hd4⟩ := fl4.there
    refine store_ok (X := X.suite a ((a, oe4) :: (X.pn ++ pins))) (v := .ref a) (J4.suite he4 hd4 na nL nF) hN hi (.inl hln) rfl (fun s5 S5 => ?_) (.inr hln)
    refine wpAny_mono ((hsu a oe4 cls d (X.pn ++ pins) hz4 ⟨_, hd4⟩).run [] s5 _ H' _ S5 (hyes a na)) ?_ (fun _ _ z => False.elim z)
    rintro (_ | _ | _ | u) s6 hsp
    · obtain ⟨σ6, H6, S6, q6⟩ := hsp
      exact gone_ok (S6.unsuite ok) hN hi hln fun s7 J7 => ⟨_, _, J7, q6⟩
    · obtain ⟨σ6, H6, S6, q6⟩ := hsp
      exact gone_ok (S6.unsuite ok) hN hi hln fun s7 J7 => ⟨_, _, J7, q6⟩
    · obtain ⟨σ6, H6, S6, q6⟩ := hsp
      exact gone_ok (S6.unsuite ok) hN hi hln fun s7 J7 => ⟨_, _, J7, q6⟩
    · obtain ⟨v6, σ6, H6, S6, r6, q6⟩ := hsp
      exact gone_ok (S6.unsuite ok) hN hi hln fun s7 J7 => ⟨_, _, _, J7, r6, q6⟩
  · have b1 := back hsp
    cases f with
    | next => exact wpAny_execs_nil b1
    | brk => exact b1
    | cont => exact b1
    | ret u => exact b1
end
end RG

set_option Elab.async false
set_option linter.all false
set_option maxRecDepth 100000
set_option maxHeartbeats 1000000
namespace Hm
open PySem PySem.Spec PyProof.Rows L2 HT
open Evl (Ex)
def OutAt (K : PySem.W.Frag) (H : Hp) (u : V) : Out → Prop
  | .err z => u = .str z
  | .ok t => Rep K H t u
section
variable {P : Program} {w : World} {K : PySem.W.Frag} {mg : Str → Option Value} {base : Heap}
def spSaid (K : PySem.W.Frag) : Sp := fun vs H Q _ => ∃ v o, vs = [v] ∧ OutOf K H v o ∧ ∀ u H', Ex H H' → OutAt K H' u o → Q u H'
theorem ok_law_said (T : Ty P w K mg) : FnOk P w K mg base CX0 9 T.f_law_said T.d_law_said ["_law_term"] (spSaid K) := by
  refine T.h_law_said.F.ok sc_law_said (fun vs H Q E h => ?_) (fun cdv A outer s H vs Q E hr h => ?_)
  · obtain ⟨v, _, rfl, _⟩ := h
    rfl
  obtain ⟨v, o, rfl, ho, q⟩ := h
  refine ⟨_, (pss_cons (ps_set (i := 1) sc_law_said.nd rfl (Or.inl rfl) pe_non) (pss_cons (RG.ps_try_named (i := 2) rfl rfl sc_law_said.nd rfl rfl ⟨rfl, by decide, .inl T.e_Noc.at_⟩
    (fun W pn xe tk _ => pss_one (ps_set (i := 1) sc_law_said.nd rfl (Or.inl rfl) (pe_callS (ok_stored T) (hr.mono (by decide)) rfl T.h_stored.m T.h_stored.F.kp T.h_stored.b (fun σ => passAt tk σ) (pa_cons (pv 0) pa_nil))))
    (fun a oe cls d pn hz hf => pss_one (ps_set (i := 1) sc_law_said.nd rfl (Or.inl rfl) (pe_xf T.e_Noc.xf T.e_Noc.noF hz hf (pv 2)))))
    (pss_one (ps_ret (pv 1))))), ?_⟩
  refine ⟨_, rfl, v, o, rfl, ho, fun z e d H1 hd e1 hx => ⟨T.e_Noc.ex, fun a ha => ?_⟩, fun t e u H1 e1 hu => ?_⟩
  · subst e
    exact ⟨_, rfl, rfl, rfl, d, _, _, rfl, hx, rfl, _, rfl, q _ H1 e1 rfl⟩
  · subst e
    exact ⟨_, rfl, q u H1 e1 hu⟩
end
end Hm

set_option Elab.async false
set_option linter.all false
set_option maxRecDepth 100000
set_option maxHeartbeats 1000000
namespace Hm
open PySem PySem.Spec PyProof.Rows L2 HT
open Evl (Ex)
mutual
theorem depth_wc : ∀ t : Tm, depth (wc t) ≤ depth t + 1
  | .var k => by rw [wc]; show 1 + max 1 0 ≤ 1 + 1; decide
  | .int _ => by rw [wc]; exact Nat.le_succ _
  | .atom _ => by rw [wc]; exact Nat.le_succ _
  | .comp f as => by
    have := depths_wcs as
    by_cases c : isCon (.comp f as) = true
    · rw [wc, if_pos c, depth, depth]
      omega
    · rw [wc, if_neg c]
      exact Nat.le_succ _
theorem depths_wcs : ∀ ts : List Tm, depths (wcs ts) ≤ depths ts + 1
  | [] => by rw [wcs]; exact Nat.le_succ _
  | t :: ts => by
    have h1 := depth_wc t
    have h2 := depths_wcs ts
    rw [wcs, depths_cons, depths_cons]
    omega
end
theorem depth_sides (t : Tm) : depth (sides t).1 ≤ depth t ∧ depth (sides t).2 ≤ depth t := by
  rcases sides_is t with ⟨a, b, rfl, e⟩ | ⟨_, e⟩
  · rw [e]
    have h := depth_eq (.comp ":-" [a, b])
    have h2 : (Tm.comp ":-" [a, b]).args = [a, b] := rfl
    rw [h2, depths_cons, depths_cons] at h
    constructor
    · show depth a ≤ _
      omega
    · show depth b ≤ _
      omega
  · rw [e]
    have := depth_pos t
    exact ⟨Nat.le_refl _, this⟩
theorem renum_neck (h b : Tm) : renum (.comp ":-" [h, b]) = .comp ":-" (subs (rg (nums [h, b] [])) [h, b]) := by
  unfold renum
  rw [sub]
  have : varsOf (.comp ":-" [h, b]) = nums [h, b] [] := by
    unfold varsOf nums
    rw [pre_eq]
    rfl
  rw [this]
section
variable {P : Program} {w : World} {K : PySem.W.Frag} {mg : Str → Option Value} {base : Heap}
def spDue (K : PySem.W.Frag) : Sp := fun vs H Q _ => ∃ v t, vs = [v] ∧ Rep K H t v ∧ Ok t ∧ size t ≤ 400 ∧ depth t ≤ 9 ∧ ∀ u H', Ex H H' → OutAt K H' u (outc t) → Q u H'
theorem ok_law_due (T : Tx K mg) : FnOk P w K mg base CX0 17 T.f_law_due T.d_law_due ["_law_term"] (spDue K) := by
  refine T.h_law_due.F.ok sc_law_due (fun vs H Q E h => ?_) (fun cdv A outer s H vs Q E hr h => ?_)
  · obtain ⟨v, _, rfl, _⟩ := h
    rfl
  obtain ⟨v, t, rfl, hR, hO, hz, hd, q⟩ := h
  refine ⟨_, (pss_cons (ps_par (i := 1) (j := 2) rfl sc_law_due.nd rfl rfl (by decide) rfl rfl (pa_cons (pv 0) (pa_cons pe_str pa_nil)) rfl)
    (Evl.pss_cut (ps_if (PW.pt (pw_and (pt_val (pe_callB call_isi rfl T.b_isinstance (by decide +kernel) (pa_cons (pv 0) (pa_cons (pe_bltn (v := .ty "tuple") (u := .type "tuple") rfl T.b_tuple (by decide +kernel) rfl) pa_nil)))) (pw_and (pt_cmpR op_eq (pe_callB call_len_seq rfl T.b_len (by decide +kernel) (pa_cons (pv 0) pa_nil)) pe_int (nomark _)) (pw_and1 (pt_cmpR op_eq (pe_ix ix_tup (pv 0) pe_int (fun _ _ => rfl)) pe_str (nomark _))))))
      (pss_one (ps_par (i := 1) (j := 2) rfl sc_law_due.nd rfl rfl (by decide) rfl rfl (pa_cons (pe_ix ix_tup (pv 0) pe_int (fun _ _ => rfl)) (pa_cons (pe_ix ix_tup (pv 0) pe_int (fun _ _ => rfl)) pa_nil)) rfl))
      pss_nil)
    (pss_cons (ps_if (pt_not (pt_val (cl (ok_law_is_goal T) T.h_law_is_goal hr (pa_cons (pv 1) pa_nil))))
      (pss_one (ps_ret pe_str))
      pss_nil)
    (pss_cons (ps_if (pt_not (pt_val (cl (ok_law_is_body T 12) T.h_law_is_body hr (pa_cons (pv 2) pa_nil))))
      (pss_one (ps_ret pe_str))
      pss_nil)
    (pss_cons (ps_asg (cl (ok_law_anew T) T.h_law_anew hr (pa_cons (pe_lst (pa_cons (pv 1) (pa_cons (cl (ok_law_with_calls T 12) T.h_law_with_calls hr (pa_cons (pv 2) pa_nil)) pa_nil))) pa_nil)) (pg_lst rfl (pgs_cons (pg_name (i := 1) sc_law_due.nd rfl (Or.inl rfl)) (pgs_cons (pg_name (i := 2) sc_law_due.nd rfl (Or.inl rfl)) pgs_nil))))
    (pss_one (ps_ret (pe_tup (pa_cons pe_str (pa_cons (pv 1) (pa_cons (pv 2) pa_nil))))))))))), ?_⟩
  have hsz := size_sides t
  have hp1 := size_pos (sides t).1
  have hp2 := size_pos (sides t).2
  have hds := depth_sides t
  have oks := ok_sides hO
  refine ⟨_, rfl, _, _, rfl, ?_⟩
  refine ⟨fun σ' H' => ∃ x y, σ' = [some v, some x, some y] ∧ H' = H ∧ Rep K H (sides t).1 x ∧ Rep K H (sides t).2 y, ?_, ?_⟩
  · have not_ : (∀ a b, t ≠ .comp ":-" [a, b]) → Rep K H (sides t).1 v ∧ Rep K H (sides t).2 (.str "true") := fun hn => by
      rcases sides_is t with ⟨a, b, rfl, _⟩ | ⟨_, e⟩
      · exact absurd rfl (hn a b)
      · rw [e]
        exact ⟨hR, rep_true⟩
    obtain ⟨tw, z1, z2⟩ := isi_tup hR
    refine ⟨_, rfl, _, _, tw, _, isTup t, rfl, .ty "tuple", z1, z2, isTup t, rfl, ?_⟩
    cases ht : isTup t with
    | false => exact iteF (iteF ⟨_, _, rfl, rfl, not_ (fun a b e => by rw [e] at ht; cases ht)⟩)
    | true =>
      cases t with
      | var k =>
        unfold Rep at hR
        obtain ⟨a, rfl, hT⟩ := hR
        exact iteT ⟨_, rfl, a, _, rfl, .inr hT, rfl, false, rfl, iteF (iteF ⟨_, _, rfl, rfl, not_ (fun a b e => by cases e)⟩)⟩
      | comp f as =>
        have hR0 := hR
        unfold Rep at hR
        obtain ⟨a, ws, rfl, hT, hA⟩ := hR
        have hl := hA.len
        refine iteT ⟨_, rfl, a, _, rfl, .inr hT, rfl, decide ((V.str f :: ws).length = 3), congrArg V.bl dec_3, ?_⟩
        by_cases h3 : (V.str f :: ws).length = 3
        · rw [decide_eq_true h3]
          refine iteT ⟨_, rfl, a, _, 0, _, rfl, rfl, hT, at0, rfl, decide (f = ":-"), congrArg V.bl dec_str, ?_⟩
          by_cases hf : f = ":-"
          · rw [decide_eq_true hf]
            subst hf
            rw [List.length_cons] at h3
            obtain ⟨s1, t1, rfl⟩ : ∃ s1 t1, as = [s1, t1] := by
              match as, (show as.length = 2 by omega) with
              | [s1, t1], _ => exact ⟨s1, t1, rfl⟩
            obtain ⟨x', w1, rfl, hx, r1⟩ := hA.cons_inv
            obtain ⟨y', w2, rfl, hy, r2⟩ := r1.cons_inv
            rw [r2.nil_inv] at hT
            have e : sides (.comp ":-" [s1, t1]) = (s1, t1) := by
              rcases sides_is (.comp ":-" [s1, t1]) with ⟨a, b, e1, e2⟩ | ⟨hn, _⟩
              · injection e1 with _ e3
                injection e3 with e4 e5
                injection e5 with e6 _
                rw [e2, e4, e6]
              · exact absurd rfl (hn s1 t1)
            rw [e]
            exact iteT ⟨_, rfl, a, _, 1, _, rfl, rfl, hT, rfl, _, rfl, a, _, 2, _, rfl, rfl, hT, rfl, _, _, rfl, _, _, rfl, rfl, hx, hy⟩
          · rw [decide_eq_false hf]
            exact iteF ⟨_, _, rfl, rfl, not_ (fun a b e => by injection e with e1 _; exact hf e1)⟩
        · rw [decide_eq_false h3]
          refine iteF (iteF ⟨_, _, rfl, rfl, not_ (fun a b e => ?_)⟩)
          injection e with _ e2
          subst e2
          exact h3 (by rw [List.length_cons, ← hl]; rfl)
      | int k => cases ht
      | atom k => cases ht
  · rintro _ _ ⟨x, y, rfl, rfl, hx, hy⟩
    refine ⟨_, rfl, x, _, rfl, hx, oks.1, callable (sides t).1, rfl, ?_⟩
    have q' := q
    unfold outc at q'
    cases hc : callable (sides t).1 with
    | false =>
      rw [if_pos hc] at q'
      exact iteT (q' _ _ (Ex.refl _) rfl)
    | true =>
      rw [if_neg (by rw [hc]; decide)] at q'
      refine iteF ⟨_, rfl, y, _, rfl, hy, oks.2, by omega, fun H1 e1 => ⟨body (sides t).2, rfl, ?_⟩⟩
      cases hb : body (sides t).2 with
      | false =>
        rw [if_pos hb] at q'
        exact iteT (q' _ H1 e1 rfl)
      | true =>
        rw [if_neg (by rw [hb]; decide)] at q'
        have hsw := size_wc (sides t).2
        have hdw := depth_wc (sides t).2
        refine iteF ⟨_, rfl, _, rfl, y, _, rfl, hy.mono (Tups.of e1), oks.2, by omega, fun u H2 e2 hu => ⟨(by show 2 ≤ sizeLine; decide), fun l hl => ?_⟩⟩
        have e3 := Ex.new (o := HO.lst [x, u]) hl
        have e123 := (e1.trans e2).trans e3
        refine ⟨l, [x, u], [(sides t).1, wc (sides t).2], rfl, upd_same, Reps.cons (hx.mono (Tups.of e123)) (Reps.one (hu.mono (Tups.of e3))), ?_, ?_, ?_, fun p us H4 hp e4 hL hUs => ?_⟩
        · rw [oks_cons, oks_cons]
          exact ⟨oks.1, ok_wc oks.2, trivial⟩
        · rw [depths_cons, depths_cons]
          have : depths [] = 0 := by simp [depths]
          omega
        · rw [sizes_cons, sizes_one]
          omega
        · have hl2 := hUs.len
          rw [subs_len] at hl2
          obtain ⟨u1, u2, rfl⟩ : ∃ u1 u2, us = [u1, u2] := by
            match us, hl2 with
            | [u1, u2], _ => exact ⟨u1, u2, rfl⟩
          refine ⟨p, _, rfl, SqL.of hL, rfl, _, _, rfl, _, _, rfl, rfl, ?_⟩
          refine ⟨_, rfl, _, rfl, (by show 3 ≤ sizeLine; decide), fun p2 hp2 => ?_⟩
          have e5 := Ex.new (o := HO.tup [V.str ":-", u1, u2]) hp2
          refine q' _ _ ((e123.trans e4).trans e5) ?_
          show Rep K _ (renum (.comp ":-" [(sides t).1, wc (sides t).2])) _
          rw [renum_neck]
          unfold Rep
          exact ⟨p2, _, rfl, SqT.of upd_same, hUs.mono (Tups.of e5)⟩
end
end Hm

set_option Elab.async false
set_option linter.all false
set_option maxRecDepth 100000
set_option maxHeartbeats 1000000
namespace Hm
open PySem PySem.Spec PyProof.Rows L2 HT
open Evl (Ex)
/-! ## a term's text is not too long -/
theorem log_of {i : Int} (h : i.natAbs < 2 ^ 1000) : i.natAbs.log2 < 1920 := Nat.lt_of_lt_of_le (PySem.Flt.log2_lt_of (by decide) h) (by decide)
theorem tt_len (ts : List Str) (h : ts ≠ []) : (tupleText ts).length ≤ piled ts + 1 := by
  unfold tupleText
  rw [PySem.Str.length_append, PySem.Str.length_append]
  have e1 : ((("(" : String) : Str)).length = 1 := rfl
  have e3 : (((if ts.length == 1 then ",)" else ")" : String) : Str)).length ≤ 2 := by split <;> decide
  have := join_length_add ts h
  rw [e1]
  omega
theorem repr_len {f : Str} (h : AtomOk f) : (reprText f).length ≤ 402 := by
  have h1 := PySem.StrLaws.reprText_len f fun c hc => Nat.lt_of_le_of_lt (h.2 c hc).2.1 (by decide)
  have h2 : f.length ≤ 40 := h.1
  omega
theorem great_pow : tooGreat < 2 ^ 1000 := by decide +kernel
mutual
theorem shown_tm : ∀ {t : Tm}, Ok t → Vb t → (toD t).showable = true ∧ (toD t).shown.length + 2 ≤ 2100 * size t
  | .var k, h, g => by
    unfold Ok at h
    unfold Vb at g
    have hl : k.natAbs.log2 < 1920 := log_of (Nat.lt_trans (show k.natAbs < 1000000 by omega) (by decide +kernel))
    refine ⟨?_, ?_⟩
    · show (decide (k.natAbs.log2 < 1920) && true) = true
      rw [decide_eq_true hl]
      rfl
    · show (tupleText [Str.ofString (toString k)]).length + 2 ≤ 2100 * 1
      have h1 := tt_len [Str.ofString (toString k)] (by simp)
      rw [piled_cons, piled_nil] at h1
      have h2 := int_text_len_1921 hl
      omega
  | .int i, h, _ => by
    unfold Ok at h
    have hg := great_pow
    have hl : i.natAbs.log2 < 1920 := log_of (by omega)
    refine ⟨decide_eq_true hl, ?_⟩
    show (Str.ofString (toString i)).length + 2 ≤ 2100 * 1
    have h2 := int_text_len_1921 hl
    omega
  | .atom s, h, _ => by
    unfold Ok at h
    refine ⟨rfl, ?_⟩
    show (reprText s).length + 2 ≤ 2100 * 1
    have := repr_len h
    omega
  | .comp f as, h, g => by
    unfold Ok at h
    unfold Vb at g
    obtain ⟨h1, h2⟩ := shown_tms h.2.2.2 g
    refine ⟨?_, ?_⟩
    · show (true && PyData.showableAll (toDs as)) = true
      rw [h1]
      rfl
    · show (tupleText (reprText f :: PyData.shownAll (toDs as))).length + 2 ≤ 2100 * size (.comp f as)
      have h3 := tt_len (reprText f :: PyData.shownAll (toDs as)) (by simp)
      rw [piled_cons] at h3
      have h4 := repr_len h.1
      rw [size]
      omega
theorem shown_tms : ∀ {ts : List Tm}, Oks ts → Vbs ts → PyData.showableAll (toDs ts) = true ∧ piled (PyData.shownAll (toDs ts)) ≤ 2100 * sizes ts
  | [], _, _ => ⟨rfl, Nat.zero_le _⟩
  | t :: ts, h, g => by
    rw [oks_cons] at h
    rw [vbs_cons] at g
    obtain ⟨h1, h2⟩ := shown_tm h.1 g.1
    obtain ⟨h3, h4⟩ := shown_tms h.2 g.2
    refine ⟨?_, ?_⟩
    · show ((toD t).showable && PyData.showableAll (toDs ts)) = true
      rw [h1, h3]
      rfl
    · show piled ((toD t).shown :: PyData.shownAll (toDs ts)) ≤ _
      rw [piled_cons, sizes_cons]
      omega
end
/-! ## what the changes of a term leave of it -/
mutual
theorem vb_wc : ∀ {t : Tm}, Vb t → Vb (wc t)
  | .var k, h => by
    rw [wc]
    unfold Vb
    rw [vbs_cons]
    exact ⟨h, trivial⟩
  | .int _, h => by rw [wc]; exact h
  | .atom _, h => by rw [wc]; exact h
  | .comp f as, h => by
    by_cases c : isCon (.comp f as) = true
    · rw [wc, if_pos c]
      unfold Vb at h ⊢
      exact vbs_wcs h
    · rw [wc, if_neg c]
      exact h
theorem vbs_wcs : ∀ {ts : List Tm}, Vbs ts → Vbs (wcs ts)
  | [], _ => by rw [wcs]; exact trivial
  | t :: ts, h => by
    rw [vbs_cons] at h
    rw [wcs, vbs_cons]
    exact ⟨vb_wc h.1, vbs_wcs h.2⟩
end
theorem vb_sides {t : Tm} (h : Vb t) : Vb (sides t).1 ∧ Vb (sides t).2 := by
  rcases sides_is t with ⟨a, b, rfl, e⟩ | ⟨_, e⟩
  · rw [e]
    unfold Vb at h
    rw [vbs_cons, vbs_cons] at h
    exact ⟨h.1, h.2.1⟩
  · rw [e]
    exact ⟨h, trivial⟩
mutual
theorem rg_tm {xs : List Int} (hx : xs.length ≤ 5000) : ∀ {t : Tm}, Ok t → Vb t → Ok (sub (rg xs) t) ∧ Vb (sub (rg xs) t) ∧ size (sub (rg xs) t) = size t ∧ depth (sub (rg xs) t) = depth t
  | .var k, h, g => by
    rw [sub]
    unfold rg
    split
    · rename_i m
      have := List.idxOf_lt_length_of_mem m
      refine ⟨?_, ?_, rfl, rfl⟩
      · unfold Ok
        omega
      · unfold Vb
        omega
    · exact ⟨h, g, rfl, rfl⟩
  | .int _, h, g => by rw [sub]; exact ⟨h, g, rfl, rfl⟩
  | .atom _, h, g => by rw [sub]; exact ⟨h, g, rfl, rfl⟩
  | .comp f as, h, g => by
    rw [sub]
    unfold Ok at h
    unfold Vb at g
    obtain ⟨h1, h2, h3, h4⟩ := rg_tms hx h.2.2.2 g
    refine ⟨?_, ?_, ?_, ?_⟩
    · unfold Ok
      rw [subs_len]
      exact ⟨h.1, h.2.1, h.2.2.1, h1⟩
    · unfold Vb
      exact h2
    · rw [size, size, h3]
    · rw [depth, depth, h4]
theorem rg_tms {xs : List Int} (hx : xs.length ≤ 5000) : ∀ {ts : List Tm}, Oks ts → Vbs ts → Oks (subs (rg xs) ts) ∧ Vbs (subs (rg xs) ts) ∧ sizes (subs (rg xs) ts) = sizes ts ∧ depths (subs (rg xs) ts) = depths ts
  | [], _, _ => by rw [subs]; exact ⟨trivial, trivial, rfl, rfl⟩
  | t :: ts, h, g => by
    rw [oks_cons] at h
    rw [vbs_cons] at g
    obtain ⟨h1, h2, h3, h4⟩ := rg_tm hx h.1 g.1
    obtain ⟨k1, k2, k3, k4⟩ := rg_tms hx h.2 g.2
    rw [subs, oks_cons, vbs_cons, sizes_cons, sizes_cons, depths_cons, depths_cons, h3, h4, k3, k4]
    exact ⟨⟨h1, k1⟩, ⟨h2, k2⟩, rfl, rfl⟩
end
end Hm

set_option Elab.async false
set_option linter.all false
set_option maxRecDepth 100000
set_option maxHeartbeats 1000000
namespace Hm
open PySem PySem.Spec PyProof.Rows L2 HT
open Evl (Ex)
section
variable {P : Program} {w : World} {K : PySem.W.Frag} {mg : Str → Option Value} {base : Heap}
mutual
theorem dp_ex {H H' : Hp} (m : Ex H H') : ∀ {v : V} {d : PyData}, Dp K H v d → Dp K H' v d
  | _, _, .non => .non
  | _, _, .bl b => .bl b
  | _, _, .int i => .int i
  | _, _, .str s => .str s
  | _, _, .lst h r => .lst (Evl.ex_l m h) (dps_ex m r)
  | _, _, .tup h r => .tup (Evl.ex_t m h) (dps_ex m r)
theorem dps_ex {H H' : Hp} (m : Ex H H') : ∀ {vs : List V} {ds : List PyData}, DpAll K H vs ds → DpAll K H' vs ds
  | _, _, .nil => .nil
  | _, _, .cons h r => .cons (dp_ex m h) (dps_ex m r)
end
/-- what repr tells of it, as long as what is there stands -/
def Shw (K : PySem.W.Frag) (H : Hp) (v : V) (x : Str) : Prop := ∀ H' Q, Ex H H' → Q (.str x) H' → RG.rReprE K [v] H' Q
theorem shw_d {H : Hp} {v : V} {d : PyData} (h : Dp K H v d) (h1 : d.showable = true) (h2 : d.hasDict = false) (h3 : d.depth ≤ 60) (h4 : d.shown.length ≤ sizeLine) : Shw K H v d.shown := fun H' Q e q => .inl ⟨v, d, rfl, dp_ex e h, h1, h2, h3, h4, q⟩
theorem shw_bl {H : Hp} (b : Bool) : Shw K H (.bl b) (PyData.bool b).shown := shw_d (.bl b) rfl rfl (Nat.zero_le _) (by cases b <;> decide +kernel)
theorem shw_tm {H : Hp} {t : Tm} {v : V} (h : Rep K H t v) (hO : Ok t) (hV : Vb t) (hz : size t ≤ 1400) (hd : depth t ≤ 60) : Shw K H v (toD t).shown := by
  obtain ⟨h1, h2⟩ := shown_tm hO hV
  exact shw_d (dp_rep h) h1 (PyData.hasDict_of_canLay _ (lay_tm hO)) (Nat.le_trans (dep_tm t) hd) (Nat.le_trans (show _ ≤ 2940000 by omega) (by decide))
def outX : Out → Str
  | .err z => (PyData.str z).shown
  | .ok t => (toD t).shown
theorem OutAt.ex {H H' : Hp} (e : Ex H H') {u : V} {o : Out} (h : OutAt K H u o) : OutAt K H' u o := by
  cases o with
  | err z => exact h
  | ok t => exact Rep.mono (Tups.of e) h
theorem shw_out {H : Hp} {t : Tm} {u : V} (hO : Ok t) (hV : Vb t) (hz : size t ≤ 400) (hd : depth t ≤ 9) (h : OutAt K H u (outc t)) : Shw K H u (outX (outc t)) := by
  unfold outc at h ⊢
  split at h
  · rename_i c
    rw [if_pos c]
    have h' : u = .str "head" := h
    subst h'
    exact shw_d (.str "head") rfl rfl (Nat.zero_le _) (by decide +kernel)
  · rename_i c
    rw [if_neg c]
    split at h
    · rename_i c2
      rw [if_pos c2]
      have h' : u = .str "body" := h
      subst h'
      exact shw_d (.str "body") rfl rfl (Nat.zero_le _) (by decide +kernel)
    · rename_i c2
      rw [if_neg c2]
      have h' : Rep K H (renum (.comp ":-" [(sides t).1, wc (sides t).2])) u := h
      have oks := ok_sides hO
      have vbs := vb_sides hV
      have hsz := size_sides t
      have hp1 := size_pos (sides t).1
      have hs2 := size_wc (sides t).2
      have hds := depth_sides t
      have hdw := depth_wc (sides t).2
      have O2 : Oks [(sides t).1, wc (sides t).2] := by
        rw [oks_cons, oks_cons]
        exact ⟨oks.1, ok_wc oks.2, trivial⟩
      have V2 : Vbs [(sides t).1, wc (sides t).2] := by
        rw [vbs_cons, vbs_cons]
        exact ⟨vbs.1, vb_wc vbs.2, trivial⟩
      have S2 : sizes [(sides t).1, wc (sides t).2] ≤ 802 := by
        rw [sizes_cons, sizes_one]
        omega
      have D2 : depths [(sides t).1, wc (sides t).2] ≤ 10 := by
        rw [depths_cons, depths_cons]
        have : depths [] = 0 := by simp [depths]
        omega
      have hn := nums_len [(sides t).1, wc (sides t).2] []
      rw [List.length_nil] at hn
      obtain ⟨r1, r2, r3, r4⟩ := rg_tms (xs := nums [(sides t).1, wc (sides t).2] []) (by omega) O2 V2
      show Shw K H u (toD (renum (.comp ":-" [(sides t).1, wc (sides t).2]))).shown
      rw [renum_neck] at h' ⊢
      refine shw_tm h' ?_ ?_ ?_ ?_
      · unfold Ok
        rw [subs_len]
        exact ⟨neck_ok, by show 1 ≤ 2; decide, by show 2 ≤ 8; decide, r1⟩
      · unfold Vb
        exact r2
      · rw [size, r3]
        omega
      · rw [depth, r4]
        omega
theorem isi_out {H : Hp} {t : Tm} {u : V} (h : OutAt K H u (outc t)) : ∃ tv, TyX K H u tv ∧ PySem.W.kitOne K tv (.type "tuple") = some (clauseB t) := by
  unfold outc at h
  unfold clauseB
  split at h
  · rename_i c
    have h' : u = .str "head" := h
    subst h'
    rw [c]
    exact ⟨_, .base (.str "head"), kit_ty (a := "str") (show kitB "str" "tuple" = some false by decide +kernel)⟩
  · rename_i c
    have c' : callable (sides t).1 = true := by simpa using c
    rw [c', Bool.true_and]
    split at h
    · rename_i c2
      have h' : u = .str "body" := h
      subst h'
      rw [c2]
      exact ⟨_, .base (.str "body"), kit_ty (a := "str") (show kitB "str" "tuple" = some false by decide +kernel)⟩
    · rename_i c2
      have c2' : body (sides t).2 = true := by simpa using c2
      rw [c2']
      have h' : Rep K H (renum (.comp ":-" [(sides t).1, wc (sides t).2])) u := h
      rw [renum_neck] at h'
      exact isi_tup h'
theorem ne_self {x : V} : V.bl (!decide (x = x)) = V.bl false := by
  rw [decide_eq_true rfl]
  rfl
def spRight (K : PySem.W.Frag) : Sp := fun vs H Q _ => ∃ v t, vs = [v] ∧ Rep K H t v ∧ Ok t ∧ Vb t ∧ size t ≤ 400 ∧ depth t ≤ 9 ∧ ∀ H', Ex H H' → Q (.bl true) H'
theorem ok_law_right (T : Ty P w K mg) : RG.FnG P w K mg base CX0 18 T.f_law_right T.d_law_right ["_law_term"] (spRight K) := by
  refine RG.Fun.free T.h_law_right.F sc_law_right (fun vs H Q E h => ?_) (fun cdv A outer s H vs Q E free hr h => ?_)
  · obtain ⟨v, _, rfl, _⟩ := h
    rfl
  obtain ⟨v, t, rfl, hR, hO, hV, hz, hd, q⟩ := h
  have hu := hr.units
  have hu2 : (A.deeper (envOfC "_law_right" (defScope s_law_right) s.heap.objs.size T.f_law_right cdv)).units + 64 < cLine := hu
  refine ⟨_, (pss_cons (ps_set (i := 1) sc_law_right.nd rfl (Or.inl rfl) (cl (ok_law_due T.toTx) T.h_law_due hr (pa_cons (pv 0) pa_nil)))
    (pss_cons (ps_if (PW.pt (pw_or (pt_cmpR op_ne (pe_callB (RG.call_reprE free hu2) rfl T.b_repr (by decide +kernel) (pa_cons (cl (ok_is_body T) T.h_is_body hr (pa_cons (pv 0) pa_nil)) pa_nil)) (pe_callB (RG.call_reprE free hu2) rfl T.b_repr (by decide +kernel) (pa_cons (cl (ok_law_is_body T.toTx 12) T.h_law_is_body hr (pa_cons (pv 0) pa_nil)) pa_nil)) (nomark _)) (pw_or1 (pt_cmpR op_ne (pe_callB (RG.call_reprE free hu2) rfl T.b_repr (by decide +kernel) (pa_cons (cl (ok_is_clause T) T.h_is_clause hr (pa_cons (pv 0) pa_nil)) pa_nil)) (pe_callB (RG.call_reprE free hu2) rfl T.b_repr (by decide +kernel) (pa_cons (pe_callB call_isi rfl T.b_isinstance (by decide +kernel) (pa_cons (pv 1) (pa_cons (pe_bltn (v := .ty "tuple") (u := .type "tuple") rfl T.b_tuple (by decide +kernel) rfl) pa_nil))) pa_nil)) (nomark _)))))
      (pss_one (ps_ret pe_bl))
      pss_nil)
    (pss_one (ps_ret (pe_cmpR op_eq (pe_callB (RG.call_reprE free hu2) rfl T.b_repr (by decide +kernel) (pa_cons (cl (ok_law_said T) T.h_law_said hr (pa_cons (pv 0) pa_nil)) pa_nil)) (pe_callB (RG.call_reprE free hu2) rfl T.b_repr (by decide +kernel) (pa_cons (pv 1) pa_nil)) (nomark _)))))), ?_⟩
  refine ⟨_, rfl, v, t, rfl, hR, hO, hz, hd, fun u H1 e1 hu1 => ?_⟩
  have hR1 := hR.mono (Tups.of (K := K) e1)
  refine ⟨_, rfl, v, rfl, .inl ⟨t, hR1, hO, by omega, fun H2 e2 => (shw_bl (body t)) H2 _ (Ex.refl _) ⟨_, rfl, v, t, rfl, hR1.mono (Tups.of e2), hO, by omega, fun H3 e3 => (shw_bl (body t)) H3 _ (Ex.refl _) ⟨rfl, false, ne_self, iteF ?_⟩⟩⟩⟩
  have e123 := (e1.trans e2).trans e3
  have hR3 := hR.mono (Tups.of (K := K) e123)
  refine ⟨_, rfl, v, rfl, .inl ⟨t, hR3, hO, by omega, fun H4 e4 => (shw_bl (clauseB t)) H4 _ (Ex.refl _) ?_⟩⟩
  have e24 := (e2.trans e3).trans e4
  have hu4 := OutAt.ex e24 hu1
  obtain ⟨tv, y1, y2⟩ := isi_out hu4
  refine ⟨_, rfl, _, _, tv, _, clauseB t, rfl, .ty "tuple", y1, y2, (shw_bl (clauseB t)) H4 _ (Ex.refl _) ⟨rfl, false, ne_self, iteF ?_⟩⟩
  refine ⟨_, rfl, v, outc t, rfl, .inl ⟨t, hR.mono (Tups.of (K := K) (e123.trans e4)), hO, by omega, rfl⟩, fun u2 H5 e5 hu2' => ?_⟩
  refine (shw_out hO hV hz hd hu2') H5 _ (Ex.refl _) ⟨_, rfl, (shw_out hO hV hz hd (OutAt.ex e5 hu4)) H5 _ (Ex.refl _) ⟨rfl, ?_⟩⟩
  rw [decide_eq_true rfl]
  exact q H5 ((e123.trans e4).trans e5)
end
end Hm

set_option Elab.async false
set_option linter.all false
set_option maxRecDepth 100000
set_option maxHeartbeats 1000000
namespace Hm
open PySem PySem.Spec PyProof.Rows L2 HT
open Evl (Ex)
theorem op_notBl {X : Cx} : OpR X (compareOp .IsNot) (fun x y H Q => ∃ a b, x = .bl a ∧ y = .bl b ∧ Q (.bl (!decide (a = b))) H) := by
  intro pins s σ H x y v u Q I rx ry h
  obtain ⟨a, b, rfl, rfl, q⟩ := h
  cases rx
  cases ry
  exact wpAny_isNot_plain rfl (fin_bl I q (by cases a <;> cases b <;> rfl))
structure Rt (t : Tm) : Prop where
  ok : Ok t
  vb : Vb t
  siz : size t ≤ 400
  dep : depth t ≤ 9
theorem Rt.of {d : Nat} {t : Tm} (h : PartOk d t) (hd : d ≤ 4) : Rt t := by
  have h1 := h.siz
  have h2 := h.dep
  refine ⟨h.ok, h.vb, ?_, by omega⟩
  have : d = 0 ∨ d = 1 ∨ d = 2 ∨ d = 3 ∨ d = 4 := by omega
  rcases this with rfl | rfl | rfl | rfl | rfl <;> exact Nat.le_trans h1 (by decide)
theorem Rt.comp {f : Str} {ts : List Tm} (hf : AtomOk f) (h1 : 1 ≤ ts.length) (h2 : ts.length ≤ 8) (O : Oks ts) (V : Vbs ts) (S : sizes ts ≤ 399) (D : depths ts ≤ 8) : Rt (.comp f ts) := by
  refine ⟨?_, ?_, ?_, ?_⟩
  · unfold Ok
    exact ⟨hf, h1, h2, O⟩
  · unfold Vb
    exact V
  · rw [size]
    omega
  · rw [depth]
    omega
theorem oks2 {s t : Tm} (h : Ok s) (g : Ok t) : Oks [s, t] := by
  rw [oks_cons, oks_cons]
  exact ⟨h, g, trivial⟩
theorem vbs2 {s t : Tm} (h : Vb s) (g : Vb t) : Vbs [s, t] := by
  rw [vbs_cons, vbs_cons]
  exact ⟨h, g, trivial⟩
theorem sizes2 (s t : Tm) : sizes [s, t] = size s + size t := by rw [sizes_cons, sizes_one]
theorem depths1 (s : Tm) : depths [s] = depth s := by simp [depths]
theorem depths2 (s t : Tm) : depths [s, t] = max (depth s) (depth t) := by rw [depths_cons, depths1]
theorem oks1 {s : Tm} (h : Ok s) : Oks [s] := by
  rw [oks_cons]
  exact ⟨h, trivial⟩
theorem vbs1 {s : Tm} (h : Vb s) : Vbs [s] := by
  rw [vbs_cons]
  exact ⟨h, trivial⟩
theorem p_ok : AtomOk "p" := ⟨by decide +kernel, by decide +kernel⟩
theorem five_ok : -tooGreat < (5 : Int) ∧ (5 : Int) < tooGreat := by constructor <;> decide +kernel
theorem a_ok : AtomOk "a" := ⟨by decide +kernel, by decide +kernel⟩
/-- an object that is no term -/
def NoT (K : PySem.W.Frag) (H : Hp) (v : V) : Prop := ∃ d, OdAt K H v d ∧ sizeD d ≤ 60000 ∧ isT d = false
theorem NoT.ex {K : PySem.W.Frag} {H H' : Hp} {v : V} (e : Ex H H') (h : NoT K H v) : NoT K H' v := by
  obtain ⟨d, h1, h2, h3⟩ := h
  exact ⟨d, h1.mono (.of e), h2, h3⟩
theorem noT_of {K : PySem.W.Frag} {H : Hp} {v : V} {d : Od} (h : OdAt K H v d) (c : (decide (sizeD d ≤ 60000) && !isT d) = true) : NoT K H v := by
  simp only [Bool.and_eq_true, decide_eq_true_eq, Bool.not_eq_true'] at c
  exact ⟨d, h, c.1, c.2⟩
section
variable {P : Program} {w : World} {K : PySem.W.Frag} {mg : Str → Option Value} {base : Heap}
def spPartA (K : PySem.W.Frag) : Sp := fun vs H Q E => spPartN K 3 vs H Q E ∨ spPartN K 5 vs H Q E
theorem ok_partA (T : Tx K mg) : FnOk P w K mg base CX0 8 T.f_law_part T.d_law_part ["_law_well_here", "_law_deep"] (spPartA K) := by
  have M3 : FnOk P w K mg base CX0 8 T.f_law_part T.d_law_part ["_law_well_here", "_law_deep"] (spPartN K 3) := (ok_law_part T 3).mono (by decide)
  have M5 : FnOk P w K mg base CX0 8 T.f_law_part T.d_law_part ["_law_well_here", "_law_deep"] (spPartN K 5) := (ok_law_part T 5).mono (by decide)
  refine ⟨fun vs H Q E h => ?_, fun a1 a2 a3 a4 a5 a6 a7 a8 a9 a10 a11 a12 a13 h => ?_⟩
  · rcases h with h | h
    · exact M3.1 vs H Q E h
    · exact M5.1 vs H Q E h
  · rcases h with h | h
    · exact M3.2 a1 a2 a3 a4 a5 a6 a7 a8 a9 a10 a11 a12 a13 h
    · exact M5.2 a1 a2 a3 a4 a5 a6 a7 a8 a9 a10 a11 a12 a13 h
def spLaw (K : PySem.W.Frag) : Sp := fun vs H Q _ => ∃ (a : Addr) (ns : List Int), vs = [.ref a] ∧ SqL K H a (ns.map V.int) ∧ ns.length ≤ 63 ∧ ∀ H', Q (.bl true) H'
theorem ok_law (T : Ty P w K mg) : RG.FnG P w K mg base CX0 19 T.f_law T.d_law ["_law_script"] (spLaw K) := by
  refine RG.Fun.free T.h_law.F sc_law (fun vs H Q E h => ?_) (fun cdv A outer s H vs Q E free hr h => ?_)
  · obtain ⟨a, ns, rfl, _⟩ := h
    rfl
  obtain ⟨a, ns, rfl, hS, hn, q⟩ := h
  have hu := hr.units
  refine ⟨_, (pss_cons (ps_for PassesOwn.never rfl (pi_list (pe_op op_cat (pe_lst (pa_cons (cl (ok_law_cell_at T.toTx) T.h_law_cell_at hr (pa_cons (pv 0) (pa_cons pe_int pa_nil))) pa_nil)) (pe_slice sl_list (pv 0) (po_some pe_int) (po_some pe_int)))) (pg_name (i := 1) sc_law.nd rfl (Or.inl rfl))
      (pss_cons (ps_set (i := 2) sc_law.nd rfl (Or.inl rfl) (cl (ok_law_well T.toTx) T.h_law_well hr (pa_cons (pv 1) pa_nil)))
    (pss_one (ps_for PassesOwn.never rfl (pi_range1 rfl T.b_range (pa_cons pe_int pa_nil)) (pg_name (i := 3) sc_law.nd rfl (Or.inl rfl))
      (pss_cons (ps_par (i := 4) (j := 5) rfl sc_law.nd rfl rfl (by decide) rfl rfl (pa_cons (cl (ok_partA T.toTx) T.h_law_part hr (pa_cons (pv 2) (pa_cons pe_int pa_nil))) (pa_cons (cl (ok_partA T.toTx) T.h_law_part hr (pa_cons (pv 2) (pa_cons pe_int pa_nil))) pa_nil)) rfl)
    (pss_one (ps_for PassesOwn.never rfl (pi_list (pe_lst (pa_cons (pv 4) (pa_cons (pv 5) (pa_cons (pe_tup (pa_cons pe_str (pa_cons (pv 4) (pa_cons (pv 5) pa_nil)))) (pa_cons (pe_tup (pa_cons pe_str (pa_cons (pe_tup (pa_cons pe_str (pa_cons (pv 4) pa_nil))) (pa_cons (pv 5) pa_nil)))) (pa_cons (pe_tup (pa_cons pe_str (pa_cons (pv 5) pa_nil))) pa_nil))))))) (pg_name (i := 6) sc_law.nd rfl (Or.inl rfl))
      (pss_one (ps_if (pt_not (pt_val (RG.pe_callG (ok_law_right T) free (hr.mono (by decide)) rfl T.h_law_right.m T.h_law_right.F.kp T.h_law_right.b .nil pass0 (pa_cons (pv 6) pa_nil))))
      (pss_one (ps_ret pe_bl))
      pss_nil)))))))))
    (Evl.pss_cut (ps_set (i := 7) sc_law.nd rfl (Or.inl rfl) (pe_lst (pa_cons pe_non (pa_cons pe_bl (pa_cons (pe_lst pa_nil) (pa_cons (pe_tup pa_nil) (pa_cons (pe_tup (pa_cons pe_str pa_nil)) (pa_cons (pe_tup (pa_cons pe_str (pa_cons pe_non pa_nil))) (pa_cons (pe_tup (pa_cons pe_str (pa_cons pe_bl pa_nil))) (pa_cons pe_dnewK (pa_cons (pe_disp (pps_cons pe_str pe_int pps_nil) rfl rfl (by decide) (by decide)) (pa_cons (pe_tup (pa_cons pe_str (pa_cons (pe_tup (pa_cons pe_str pa_nil)) pa_nil))) (pa_cons (pe_tup (pa_cons (pe_un un_neg pe_int) pa_nil)) (pa_cons (pe_tup (pa_cons pe_bl pa_nil)) (pa_cons (pe_op op_mulS pe_str pe_int) pa_nil)))))))))))))))
    (Evl.pss_cut (ps_set (i := 7) sc_law.nd rfl (Or.inl rfl) (pe_op op_cat (pv 7) (pe_lst (pa_cons (pe_op op_catT (pe_tup (pa_cons pe_str pa_nil)) (pe_op op_repT (pe_tup (pa_cons pe_int pa_nil)) pe_int)) (pa_cons (pe_tup (pa_cons pe_int (pa_cons pe_int pa_nil))) (pa_cons (pe_tup (pa_cons pe_str (pa_cons pe_str pa_nil))) (pa_cons (pe_lst (pa_cons pe_str (pa_cons pe_str (pa_cons pe_str pa_nil)))) (pa_cons (pe_tup (pa_cons pe_str (pa_cons pe_str (pa_cons pe_non pa_nil)))) pa_nil))))))))
    (pss_cons (ps_for PassesOwn.never rfl (pi_list (pv 7)) (pg_name (i := 6) sc_law.nd rfl (Or.inl rfl))
      (pss_one (ps_if (PW.pt (pw_or (pt_cmpR op_notBl (cl (ok_is_body T) T.h_is_body hr (pa_cons (pv 6) pa_nil)) pe_bl (nomark _)) (pw_or (pt_cmpR op_notBl (cl (ok_is_clause T) T.h_is_clause hr (pa_cons (pv 6) pa_nil)) pe_bl (nomark _)) (pw_or1 (pt_cmpR op_ne (cl (ok_law_said T) T.h_law_said hr (pa_cons (pv 6) pa_nil)) pe_str (nomark _))))))
      (pss_one (ps_ret pe_bl))
      pss_nil)))
    (pss_one (ps_ret (pe_and (RG.pe_callG (ok_law_right T) free (hr.mono (by decide)) rfl T.h_law_right.m T.h_law_right.F.kp T.h_law_right.b .nil pass0 (pa_cons pe_str pa_nil)) (pe_and (RG.pe_callG (ok_law_right T) free (hr.mono (by decide)) rfl T.h_law_right.m T.h_law_right.F.kp T.h_law_right.b .nil pass0 (pa_cons pe_int pa_nil)) (pe_and (RG.pe_callG (ok_law_right T) free (hr.mono (by decide)) rfl T.h_law_right.m T.h_law_right.F.kp T.h_law_right.b .nil pass0 (pa_cons (pe_tup (pa_cons pe_int pa_nil)) pa_nil)) (pe_one (RG.pe_callG (ok_law_right T) free (hr.mono (by decide)) rfl T.h_law_right.m T.h_law_right.F.kp T.h_law_right.b .nil pass0 (pa_cons (pe_tup (pa_cons pe_str (pa_cons pe_str (pa_cons pe_int pa_nil)))) pa_nil)))))))))))), ?_⟩
  refine ⟨_, rfl, a, ns, rfl, hS, fun z0 => ⟨(by show 1 ≤ sizeLine; decide), fun p1 hp1 => ?_⟩⟩
  have hS1 := Evl.ex_l (Ex.new (o := HO.lst [V.int z0]) hp1) hS
  have hL1 : (upd H p1 (.lst [V.int z0])) p1 = some (.lst [V.int z0]) := upd_same
  generalize upd H p1 (.lst [V.int z0]) = H1 at *
  refine ⟨_, rfl, _, rfl, _, rfl, a, _, rfl, hS1, fun p2 hp2 => ?_⟩
  have cl : (cutV (ns.map V.int) (some 1) (some 4)).length ≤ 63 := by
    unfold cutV
    rw [List.length_take, List.length_drop, List.length_map]
    omega
  have items : ∀ x ∈ cutV (ns.map V.int) (some 1) (some 4), ∃ z, x = V.int z := fun x hm => by
    unfold cutV at hm
    obtain ⟨z, _, e⟩ := List.mem_map.mp (List.mem_of_mem_drop (List.mem_of_mem_take hm))
    exact ⟨z, e.symm⟩
  have hL2 : (upd H1 p2 (.lst (cutV (ns.map V.int) (some 1) (some 4)))) p2 = some (.lst (cutV (ns.map V.int) (some 1) (some 4))) := upd_same
  have hL1' := Ex.new (o := HO.lst (cutV (ns.map V.int) (some 1) (some 4))) hp2 _ _ hL1
  generalize upd H1 p2 (.lst (cutV (ns.map V.int) (some 1) (some 4))) = H2 at *
  generalize cutV (ns.map V.int) (some 1) (some 4) = cs at *
  refine ⟨p1, p2, _, _, rfl, rfl, hL1', hL2, small5 (by show 1 + cs.length ≤ _; omega), fun p3 hp3 => ?_⟩
  have items3 : ∀ x ∈ [V.int z0] ++ cs, ∃ z, x = V.int z := fun x hm => by
    rcases List.mem_append.mp hm with hm | hm
    · exact ⟨z0, List.mem_singleton.mp hm⟩
    · exact items x hm
  have hL3 : (upd H2 p3 (.lst ([V.int z0] ++ cs))) p3 = some (.lst ([V.int z0] ++ cs)) := upd_same
  generalize upd H2 p3 (.lst ([V.int z0] ++ cs)) = H3 at *
  generalize [V.int z0] ++ cs = xs at *
  refine ⟨p3, rfl, ⟨_, SqL.of hL3⟩, for_list (fun i σ' H' => ∃ c1 c2 c3 c4 c5 c6, σ' = [some (.ref a), c1, c2, c3, c4, c5, c6, none] ∧ Ex H3 H') ⟨none, none, none, none, none, none, rfl, Ex.refl _⟩ (fun i σ' H' _ ⟨_, _, _, _, _, _, _, h⟩ => SqL.of (h p3 _ hL3)) ?_ ?_⟩
  · rintro i x σ' H4 hx ⟨c1, c2, c3, c4, c5, c6, rfl, e4⟩
    obtain ⟨z, rfl⟩ := items3 x (List.mem_of_getElem? hx)
    refine ⟨_, rfl, z, rfl, fun pw x0 y0 H5 hpw e5 hL5 => ?_⟩
    have hw5 : Well 12000 H5 pw := ⟨x0, y0, 0, hL5, by decide, by decide⟩
    refine ⟨12, rfl, by decide, by decide, for_range (lo := 0) (fun j σ' H' => j ≤ 12 ∧ ∃ c3 c4 c5 c6, σ' = [some (.ref a), some (.int z), some (.ref pw), c3, c4, c5, c6, none] ∧ Dr (1000 * (12 - j)) pw H5 H') ⟨by decide, c3, c4, c5, c6, rfl, Dr.ex hw5 (Ex.refl _)⟩ ?_ ?_⟩
    · rintro j σ' H6 hj ⟨hj2, c3, c4, c5, c6, rfl, d6⟩
      have hj12 : j < 12 := hj
      have F2 : Fd 2 = 78 := rfl
      have F4 : Fd 4 = 726 := rfl
      have S2 : Sd 2 = 13 := rfl
      have S4 : Sd 4 = 121 := rfl
      refine ⟨_, rfl, .inl ⟨pw, 1000 * (12 - j) - 78, rfl, d6.well.le (by rw [F2]; omega), fun v1 t1 H7 d7 hR1 hP1 => ⟨_, rfl, .inr ⟨pw, 1000 * (12 - (j + 1)), rfl, d7.well.le (by rw [F4]; omega), fun v2 t2 H8 d8 hR2 hP2 => ⟨_, _, rfl, ?_⟩⟩⟩⟩⟩
      have hR1' := hR1.mono (Dr.tups d7.well d8)
      have d68 := (d6.trans d7).trans d8
      have w8 := d8.well
      have s1 := hP1.siz
      have s2 := hP2.siz
      have q1 : depth t1 ≤ 3 := hP1.dep
      have q2 : depth t2 ≤ 5 := hP2.dep
      rw [S2] at s1
      rw [S4] at s2
      refine ⟨_, rfl, _, rfl, _, rfl, _, rfl, (by show 3 ≤ sizeLine; decide), fun r3 h3 => ?_⟩
      have e3 := Ex.new (o := HO.tup [.str ":-", v1, v2]) h3
      have t3 : SqT K (upd H8 r3 (.tup [.str ":-", v1, v2])) r3 [.str ":-", v1, v2] := SqT.of upd_same
      generalize upd H8 r3 (.tup [.str ":-", v1, v2]) = G3 at *
      refine ⟨_, rfl, (by show 2 ≤ sizeLine; decide), fun r4 h4 => ?_⟩
      have e4' := Ex.new (o := HO.tup [.str "p", v1]) h4
      have t4 : SqT K (upd G3 r4 (.tup [.str "p", v1])) r4 [.str "p", v1] := SqT.of upd_same
      generalize upd G3 r4 (.tup [.str "p", v1]) = G4 at *
      refine ⟨_, rfl, (by show 3 ≤ sizeLine; decide), fun r5 h5 => ?_⟩
      have e5' := Ex.new (o := HO.tup [.str ":-", .ref r4, v2]) h5
      have t5 : SqT K (upd G4 r5 (.tup [.str ":-", .ref r4, v2])) r5 [.str ":-", .ref r4, v2] := SqT.of upd_same
      generalize upd G4 r5 (.tup [.str ":-", .ref r4, v2]) = G5 at *
      refine ⟨_, rfl, (by show 2 ≤ sizeLine; decide), fun r6 h6 => ?_⟩
      have e6' := Ex.new (o := HO.tup [.str ":-", v2]) h6
      have t6 : SqT K (upd G5 r6 (.tup [.str ":-", v2])) r6 [.str ":-", v2] := SqT.of upd_same
      generalize upd G5 r6 (.tup [.str ":-", v2]) = G6 at *
      refine ⟨(by show 5 ≤ sizeLine; decide), fun l hl => ?_⟩
      have e7' := Ex.new (o := HO.lst [v1, v2, .ref r3, .ref r5, .ref r6]) hl
      have tl : (upd G6 l (.lst [v1, v2, .ref r3, .ref r5, .ref r6])) l = some (.lst [v1, v2, .ref r3, .ref r5, .ref r6]) := upd_same
      generalize upd G6 l (.lst [v1, v2, .ref r3, .ref r5, .ref r6]) = G7 at *
      have x6 := e6'.trans e7'
      have x5 := e5'.trans x6
      have x4 := e4'.trans x5
      have x3 := e3.trans x4
      have R1 := hR1'.mono (Tups.of (K := K) x3)
      have R2 := hR2.mono (Tups.of (K := K) x3)
      have P1 := Rt.of hP1 (by decide)
      have P2 := Rt.of hP2 (by decide)
      have s1p := size_pos t1
      have good : ∀ x ∈ [v1, v2, .ref r3, .ref r5, .ref r6], ∃ t, Rep K G7 t x ∧ Rt t := fun x hx => by
        simp only [List.mem_cons, List.not_mem_nil, or_false] at hx
        rcases hx with rfl | rfl | rfl | rfl | rfl
        · exact ⟨t1, R1, P1⟩
        · exact ⟨t2, R2, P2⟩
        · refine ⟨.comp ":-" [t1, t2], ?_, Rt.comp neck_ok (by show 1 ≤ 2; decide) (by show 2 ≤ 8; decide) (oks2 P1.ok P2.ok) (vbs2 P1.vb P2.vb) (by rw [sizes2]; omega) (by rw [depths2]; omega)⟩
          unfold Rep
          exact ⟨r3, _, rfl, Evl.ex_t x4 t3, Reps.cons R1 (Reps.one R2)⟩
        · have Pp : Rt (.comp "p" [t1]) := Rt.comp p_ok (by show 1 ≤ 1; decide) (by show 1 ≤ 8; decide) (oks1 P1.ok) (vbs1 P1.vb) (by rw [sizes_one]; omega) (by rw [depths1]; omega)
          have sp : size (.comp "p" [t1]) = 1 + size t1 := by rw [size, sizes_one]
          have dp : depth (.comp "p" [t1]) = 1 + depth t1 := by rw [depth, depths1]
          refine ⟨.comp ":-" [.comp "p" [t1], t2], ?_, Rt.comp neck_ok (by show 1 ≤ 2; decide) (by show 2 ≤ 8; decide) (oks2 Pp.ok P2.ok) (vbs2 Pp.vb P2.vb) (by rw [sizes2]; omega) (by rw [depths2]; omega)⟩
          have Rp : Rep K G7 (.comp "p" [t1]) (.ref r4) := by
            unfold Rep
            exact ⟨r4, _, rfl, Evl.ex_t x5 t4, Reps.one R1⟩
          unfold Rep
          exact ⟨r5, _, rfl, Evl.ex_t x6 t5, Reps.cons Rp (Reps.one R2)⟩
        · refine ⟨.comp ":-" [t2], ?_, Rt.comp neck_ok (by show 1 ≤ 1; decide) (by show 1 ≤ 8; decide) (oks1 P2.ok) (vbs1 P2.vb) (by rw [sizes_one]; omega) (by rw [depths1]; omega)⟩
          unfold Rep
          exact ⟨r6, _, rfl, Evl.ex_t e7' t6, Reps.one R2⟩
      refine ⟨l, rfl, ⟨_, SqL.of tl⟩, for_list (fun i σ' H' => ∃ c6, σ' = [some (.ref a), some (.int z), some (.ref pw), some (.int (0 + (j : Int))), some v1, some v2, c6, none] ∧ Ex G7 H') ⟨c6, rfl, Ex.refl _⟩ (fun i σ' H' _ ⟨_, _, h⟩ => SqL.of (h l _ tl)) ?_ ?_⟩
      · rintro i' x' σ' H9 hx' ⟨c6', rfl, e9⟩
        obtain ⟨t, hRt, hP⟩ := good x' (List.mem_of_getElem? hx')
        exact ⟨_, rfl, x', t, rfl, hRt.mono (Tups.of e9), hP.ok, hP.vb, hP.siz, hP.dep, fun H10 e10 => ⟨true, rfl, iteF ⟨_, rfl, e9.trans e10⟩⟩⟩
      · rintro σ' H9 ⟨c6', rfl, e9⟩
        exact ⟨by omega, _, _, _, _, rfl, d68.trans (Dr.ex w8 (x3.trans e9))⟩
    · rintro σ' H6 ⟨_, c3, c4, c5, c6, rfl, d6⟩
      refine ⟨_, _, _, _, _, _, rfl, fun b o hb => ?_⟩
      have h4 := e4 _ _ hb
      exact d6.keep _ _ (ne_of_none h4 hpw) (e5 _ _ h4)
  · rintro σ' H4 ⟨c1, c2, c3, c4, c5, c6, rfl, e4⟩
    refine ⟨fun σ' H' => ∃ (l : Addr) (xs : List V), σ' = [some (.ref a), c1, c2, c3, c4, c5, c6, some (.ref l)] ∧ H' l = some (.lst xs) ∧ xs.length ≤ 20 ∧ ∀ x ∈ xs, NoT K H' x, ?_, ?_⟩
    · refine ⟨(by show 0 ≤ sizeLine; decide), fun o1 g1 => ?_⟩
      have x1 := Ex.new (o := HO.lst []) g1
      have t1 : SqL K (upd H4 o1 (.lst [])) o1 [] := SqL.of upd_same
      generalize upd H4 o1 (.lst []) = N1 at *
      refine ⟨(by show 0 ≤ sizeLine; decide), fun o2 g2 => ?_⟩
      have x2 := Ex.new (o := HO.tup []) g2
      have t2 : SqT K (upd N1 o2 (.tup [])) o2 [] := SqT.of upd_same
      generalize upd N1 o2 (.tup []) = N2 at *
      refine ⟨(by show 1 ≤ sizeLine; decide), fun o3 g3 => ?_⟩
      have x3 := Ex.new (o := HO.tup [.str "f"]) g3
      have t3 : SqT K (upd N2 o3 (.tup [.str "f"])) o3 [.str "f"] := SqT.of upd_same
      generalize upd N2 o3 (.tup [.str "f"]) = N3 at *
      refine ⟨(by show 2 ≤ sizeLine; decide), fun o4 g4 => ?_⟩
      have x4 := Ex.new (o := HO.tup [.str "f", .non]) g4
      have t4 : SqT K (upd N3 o4 (.tup [.str "f", .non])) o4 [.str "f", .non] := SqT.of upd_same
      generalize upd N3 o4 (.tup [.str "f", .non]) = N4 at *
      refine ⟨(by show 2 ≤ sizeLine; decide), fun o5 g5 => ?_⟩
      have x5 := Ex.new (o := HO.tup [.str "f", .bl true]) g5
      have t5 : SqT K (upd N4 o5 (.tup [.str "f", .bl true])) o5 [.str "f", .bl true] := SqT.of upd_same
      generalize upd N4 o5 (.tup [.str "f", .bl true]) = N5 at *
      refine fun o6 g6 => ?_
      have x6 := Ex.new (o := HO.dK []) g6
      have t6 : (upd N5 o6 (.dK [])) o6 = some (.dK []) := upd_same
      generalize upd N5 o6 (.dK []) = N6 at *
      refine fun o7 g7 => ⟨upd_same, [((Sum.inr "a" : Key), V.int 1)], rfl, by decide, ?_⟩
      have x7 : Ex N6 (upd (upd N6 o7 (.dK [])) o7 (.dK (mergeK [] [((Sum.inr "a" : Key), V.int 1)]))) := Ex.mut (Ex.new g7) g7
      have t7 : (upd (upd N6 o7 (.dK [])) o7 (.dK (mergeK [] [((Sum.inr "a" : Key), V.int 1)]))) o7 = some (.dK (mergeK [] [((Sum.inr "a" : Key), V.int 1)])) := upd_same
      generalize upd (upd N6 o7 (.dK [])) o7 (.dK (mergeK [] [((Sum.inr "a" : Key), V.int 1)])) = N7 at *
      refine ⟨(by show 1 ≤ sizeLine; decide), fun o8 g8 => ?_⟩
      have x8 := Ex.new (o := HO.tup [.str "x"]) g8
      have t8 : SqT K (upd N7 o8 (.tup [.str "x"])) o8 [.str "x"] := SqT.of upd_same
      generalize upd N7 o8 (.tup [.str "x"]) = N8 at *
      refine ⟨(by show 2 ≤ sizeLine; decide), fun o9 g9 => ?_⟩
      have x9 := Ex.new (o := HO.tup [.str "f", .ref o8]) g9
      have t9 : SqT K (upd N8 o9 (.tup [.str "f", .ref o8])) o9 [.str "f", .ref o8] := SqT.of upd_same
      generalize upd N8 o9 (.tup [.str "f", .ref o8]) = N9 at *
      refine ⟨_, rfl, (by show 1 ≤ sizeLine; decide), fun o10 g10 => ?_⟩
      have x10 := Ex.new (o := HO.tup [.int (-1)]) g10
      have t10 : SqT K (upd N9 o10 (.tup [.int (-1)])) o10 [.int (-1)] := SqT.of upd_same
      generalize upd N9 o10 (.tup [.int (-1)]) = N10 at *
      refine ⟨(by show 1 ≤ sizeLine; decide), fun o11 g11 => ?_⟩
      have x11 := Ex.new (o := HO.tup [.bl true]) g11
      have t11 : SqT K (upd N10 o11 (.tup [.bl true])) o11 [.bl true] := SqT.of upd_same
      generalize upd N10 o11 (.tup [.bl true]) = N11 at *
      refine ⟨"a", 41, rfl, rfl, by decide, by decide, by decide, by decide +kernel, (by show 13 ≤ sizeLine; decide), fun l hl => ?_⟩
      have x12 := Ex.new (o := HO.lst [V.non, .bl true, .ref o1, .ref o2, .ref o3, .ref o4, .ref o5, .ref o6, .ref o7, .ref o9, .ref o10, .ref o11, .str ⟨(List.replicate (Int.toNat 41) ("a" : Str).cps).foldl (· ++ ·) #[]⟩]) hl
      have z11 := x12
      have z10 := x11.trans z11
      have z9 := x10.trans z10
      have z8 := x9.trans z9
      have z7 := x8.trans z8
      have z6 := x7.trans z7
      have z5 := x6.trans z6
      have z4 := x5.trans z5
      have z3 := x4.trans z4
      have z2 := x3.trans z3
      have z1 := x2.trans z2
      refine ⟨l, _, rfl, upd_same, by show 13 ≤ 20; decide, fun x hx => ?_⟩
      simp only [List.mem_cons, List.not_mem_nil, or_false] at hx
      rcases hx with rfl | rfl | rfl | rfl | rfl | rfl | rfl | rfl | rfl | rfl | rfl | rfl | rfl
      · exact noT_of .non (by decide +kernel)
      · exact noT_of (.bl true) (by decide +kernel)
      · exact noT_of (.lst (Evl.ex_l z1 t1)) (by decide +kernel)
      · exact noT_of (.tup (Evl.ex_t z2 t2) .nil) (by decide +kernel)
      · exact noT_of (.tup (Evl.ex_t z3 t3) (.cons (.str "f") .nil)) (by decide +kernel)
      · exact noT_of (.tup (Evl.ex_t z4 t4) (.cons (.str "f") (.cons .non .nil))) (by decide +kernel)
      · exact noT_of (.tup (Evl.ex_t z5 t5) (.cons (.str "f") (.cons (.bl true) .nil))) (by decide +kernel)
      · exact noT_of (.dic (z6 _ _ t6)) (by decide +kernel)
      · exact noT_of (.dic (z7 _ _ t7)) (by decide +kernel)
      · exact noT_of (.tup (Evl.ex_t z9 t9) (.cons (.str "f") (.cons (.tup (Evl.ex_t z8 t8) (.cons (.str "x") .nil)) .nil))) (by decide +kernel)
      · exact noT_of (.tup (Evl.ex_t z10 t10) (.cons (.int (-1)) .nil)) (by decide +kernel)
      · exact noT_of (.tup (Evl.ex_t z11 t11) (.cons (.bl true) .nil)) (by decide +kernel)
      · exact noT_of (.str _) (by decide +kernel)
    · rintro _ H5 ⟨l, xs2, rfl, hl, hxl, no⟩
      refine ⟨fun σ' H' => ∃ (l : Addr) (xs : List V), σ' = [some (.ref a), c1, c2, c3, c4, c5, c6, some (.ref l)] ∧ H' l = some (.lst xs) ∧ ∀ x ∈ xs, NoT K H' x, ?_, ?_⟩
      · refine ⟨_, rfl, (by show 1 ≤ sizeLine; decide), fun o1 g1 => ?_⟩
        have x1 := Ex.new (o := HO.tup [.str "f"]) g1
        have t1 : SqT K (upd H5 o1 (.tup [.str "f"])) o1 [.str "f"] := SqT.of upd_same
        generalize upd H5 o1 (.tup [.str "f"]) = N1 at *
        refine ⟨(by show 1 ≤ sizeLine; decide), fun o2 g2 => ?_⟩
        have x2 := Ex.new (o := HO.tup [.int 1]) g2
        have t2 : SqT K (upd N1 o2 (.tup [.int 1])) o2 [.int 1] := SqT.of upd_same
        generalize upd N1 o2 (.tup [.int 1]) = N2 at *
        refine ⟨o2, 9, [.int 1], rfl, rfl, t2, by simp, by decide, by decide, by show 1 ≤ 1000; decide, fun o3 g3 => ?_⟩
        have x3 := Ex.new (o := HO.tup (List.replicate (Int.toNat 9) [V.int 1]).flatten) g3
        have t3 : SqT K (upd N2 o3 (.tup (List.replicate (Int.toNat 9) [V.int 1]).flatten)) o3 [.int 1, .int 1, .int 1, .int 1, .int 1, .int 1, .int 1, .int 1, .int 1] := SqT.of upd_same
        generalize upd N2 o3 (.tup (List.replicate (Int.toNat 9) [V.int 1]).flatten) = N3 at *
        refine ⟨o1, o3, _, _, rfl, rfl, Evl.ex_t (x2.trans x3) t1, t3, by simp, (by show 1 + 9 ≤ sizeLine; decide), fun z => absurd z (List.cons_ne_nil _ _), fun _ o4 g4 => ?_⟩
        have x4 := Ex.new (o := HO.tup ([.str "f"] ++ [.int 1, .int 1, .int 1, .int 1, .int 1, .int 1, .int 1, .int 1, .int 1])) g4
        have t4 : SqT K (upd N3 o4 (.tup ([.str "f"] ++ [.int 1, .int 1, .int 1, .int 1, .int 1, .int 1, .int 1, .int 1, .int 1]))) o4 [.str "f", .int 1, .int 1, .int 1, .int 1, .int 1, .int 1, .int 1, .int 1, .int 1] := SqT.of upd_same
        generalize upd N3 o4 (.tup ([.str "f"] ++ [.int 1, .int 1, .int 1, .int 1, .int 1, .int 1, .int 1, .int 1, .int 1])) = N4 at *
        refine ⟨(by show 2 ≤ sizeLine; decide), fun o5 g5 => ?_⟩
        have x5 := Ex.new (o := HO.tup [.int 1, .int 2]) g5
        have t5 : SqT K (upd N4 o5 (.tup [.int 1, .int 2])) o5 [.int 1, .int 2] := SqT.of upd_same
        generalize upd N4 o5 (.tup [.int 1, .int 2]) = N5 at *
        refine ⟨(by show 2 ≤ sizeLine; decide), fun o6 g6 => ?_⟩
        have x6 := Ex.new (o := HO.tup [.str "p", .str "\n"]) g6
        have t6 : SqT K (upd N5 o6 (.tup [.str "p", .str "\n"])) o6 [.str "p", .str "\n"] := SqT.of upd_same
        generalize upd N5 o6 (.tup [.str "p", .str "\n"]) = N6 at *
        refine ⟨(by show 3 ≤ sizeLine; decide), fun o7 g7 => ?_⟩
        have x7 := Ex.new (o := HO.lst [.str ":-", .str "a", .str "b"]) g7
        have t7 : SqL K (upd N6 o7 (.lst [.str ":-", .str "a", .str "b"])) o7 [.str ":-", .str "a", .str "b"] := SqL.of upd_same
        generalize upd N6 o7 (.lst [.str ":-", .str "a", .str "b"]) = N7 at *
        refine ⟨(by show 3 ≤ sizeLine; decide), fun o8 g8 => ?_⟩
        have x8 := Ex.new (o := HO.tup [.str ":-", .str "a", .non]) g8
        have t8 : SqT K (upd N7 o8 (.tup [.str ":-", .str "a", .non])) o8 [.str ":-", .str "a", .non] := SqT.of upd_same
        generalize upd N7 o8 (.tup [.str ":-", .str "a", .non]) = N8 at *
        refine ⟨(by show 5 ≤ sizeLine; decide), fun l2 hl2 => ?_⟩
        have x9 := Ex.new (o := HO.lst [V.ref o4, .ref o5, .ref o6, .ref o7, .ref o8]) hl2
        have t9 : (upd N8 l2 (.lst [V.ref o4, .ref o5, .ref o6, .ref o7, .ref o8])) l2 = some (.lst [V.ref o4, .ref o5, .ref o6, .ref o7, .ref o8]) := upd_same
        generalize upd N8 l2 (.lst [V.ref o4, .ref o5, .ref o6, .ref o7, .ref o8]) = N9 at *
        have y8 := x9
        have y7 := x8.trans y8
        have y6 := x7.trans y7
        have y5 := x6.trans y6
        have y4 := x5.trans y5
        have y3 := x4.trans y4
        have y2 := x3.trans y3
        have y1 := x2.trans y2
        have y0 := x1.trans y1
        refine ⟨l, l2, xs2, _, rfl, rfl, y0 l _ hl, t9, small5 (by show xs2.length + 5 ≤ _; omega), fun l3 hl3 => ?_⟩
        have e10 := Ex.new (o := HO.lst (xs2 ++ [V.ref o4, .ref o5, .ref o6, .ref o7, .ref o8])) hl3
        refine ⟨l3, _, rfl, upd_same, fun x hx => NoT.ex e10 ?_⟩
        rcases List.mem_append.mp hx with hx | hx
        · exact (no x hx).ex y0
        simp only [List.mem_cons, List.not_mem_nil, or_false] at hx
        rcases hx with rfl | rfl | rfl | rfl | rfl
        · exact noT_of (.tup (Evl.ex_t y4 t4) (.cons (.str "f") (.cons (.int 1) (.cons (.int 1) (.cons (.int 1) (.cons (.int 1) (.cons (.int 1) (.cons (.int 1) (.cons (.int 1) (.cons (.int 1) (.cons (.int 1) .nil))))))))))) (by decide +kernel)
        · exact noT_of (.tup (Evl.ex_t y5 t5) (.cons (.int 1) (.cons (.int 2) .nil))) (by decide +kernel)
        · exact noT_of (.tup (Evl.ex_t y6 t6) (.cons (.str "p") (.cons (.str "\n") .nil))) (by decide +kernel)
        · exact noT_of (.lst (Evl.ex_l y7 t7)) (by decide +kernel)
        · exact noT_of (.tup (Evl.ex_t y8 t8) (.cons (.str ":-") (.cons (.str "a") (.cons .non .nil)))) (by decide +kernel)
      · rintro _ H6 ⟨l2, xs3, rfl, hl2, no2⟩
        refine ⟨_, rfl, l2, rfl, ⟨_, SqL.of hl2⟩, for_list (fun i σ' H' => ∃ c6, σ' = [some (.ref a), c1, c2, c3, c4, c5, c6, some (.ref l2)] ∧ Ex H6 H') ⟨c6, rfl, Ex.refl _⟩ (fun i σ' H' _ ⟨_, _, h⟩ => SqL.of (h l2 _ hl2)) ?_ ?_⟩
        · rintro i x σ' H7 hx ⟨c6', rfl, e7⟩
          have nx := no2 x (List.mem_of_getElem? hx)
          obtain ⟨d, d1, d2, d3⟩ := nx.ex e7
          refine ⟨_, rfl, x, rfl, .inr ⟨d, d1, d2, d3, fun H8 e8 => ⟨false, false, rfl, rfl, false, rfl, iteF ?_⟩⟩⟩
          refine ⟨_, rfl, x, rfl, .inr ⟨d, d1.mono (.of e8), d2, d3, fun H9 e9 => ⟨false, false, rfl, rfl, false, rfl, iteF ?_⟩⟩⟩
          refine ⟨_, rfl, x, .err "head", rfl, .inr ⟨d, (d1.mono (.of e8)).mono (.of e9), d2, d3, rfl⟩, fun u H10 e10 hu => ?_⟩
          have hu' : u = .str "head" := hu
          subst hu'
          exact ⟨rfl, false, ne_self, iteF ⟨_, rfl, ((e7.trans e8).trans e9).trans e10⟩⟩
        · rintro σ' H7 ⟨c6', rfl, e7⟩
          refine ⟨.str "a", .atom "a", rfl, by unfold Rep; rfl, by unfold Ok; exact a_ok, trivial, by decide, by decide, fun H8 e8 => ⟨true, rfl, iteT ?_⟩⟩
          refine ⟨.int 5, .int 5, rfl, by unfold Rep; rfl, by unfold Ok; exact five_ok, trivial, by decide, by decide, fun H9 e9 => ⟨true, rfl, iteT ?_⟩⟩
          refine ⟨(by show 1 ≤ sizeLine; decide), fun o1 g1 => ⟨.ref o1, .var 3, rfl, by unfold Rep; exact ⟨o1, rfl, SqT.of upd_same⟩, by unfold Ok; decide, by unfold Vb; decide, by decide, by decide, fun H10 e10 => ⟨true, rfl, iteT ?_⟩⟩⟩
          have O2 : Oks [.atom "a", .int 5] := oks2 (by unfold Ok; exact a_ok) (by unfold Ok; exact five_ok)
          refine ⟨(by show 3 ≤ sizeLine; decide), fun o2 g2 => ⟨.ref o2, .comp ":-" [.atom "a", .int 5], rfl, ?_, ?_, ?_, by decide, by decide, fun H11 e11 => q H11⟩⟩
          · unfold Rep
            exact ⟨o2, _, rfl, SqT.of upd_same, Reps.cons (by unfold Rep; rfl) (Reps.one (by unfold Rep; rfl))⟩
          · unfold Ok
            exact ⟨neck_ok, by decide, by decide, O2⟩
          · unfold Vb
            exact vbs2 trivial trivial
end
end Hm

set_option Elab.async false
set_option linter.all false
set_option maxRecDepth 100000
set_option maxHeartbeats 4000000
namespace K21H
open PySem PySem.W PySem.Calls PyProof.Rows L2
theorem walkE {l : PySem.W.OpenLaw} {q : Program} {lo : List PySem.Str} {XP : (PySem.Str → Option Value) → Heap → Prop} {YP : World → Heap → Prop} {d : DefRec} (hn : l.most = some 63) (hdf : d.params.defaults = [])
    (F : ∀ (w : World) (mg : PySem.Str → Option Value) (fa : Addr) (h : Heap), YP w h → h.Ns mainGlobals mg → mg d.name = some (.ref fa) →
      ∃ (K : PySem.W.Frag) (fd : FuncData), K.In h ∧ (∀ (s : Shared) (u : Value), BindsTo s fd ⟨[u], []⟩ [("_law_script", u)]) ∧ ∀ base : Heap, K.In base → base.Ns mainGlobals mg → RG.FnG l.prog w K mg base CX0 19 fa fd ["_law_script"] (Hm.spLaw K)) :
    PySem.W.WalkO q lo XP YP l.row.toRowW d [] (fun f vs => PySem.call f vs) := by
  apply Att.attach_call hn hdf
  intro w s0 s1 mg mb fa o pm cd doc a vs ns G Y ho hd hcd hmg hob hin hle hgn
  obtain ⟨K, fd, KX, hbi, hF⟩ := F w mg fa s1.heap Y G.T.g hmg
  exact RG.law_free KX G.T.g G.T.b G.T.builtins G.T.nolimit hgn hob hin (Nat.le_trans hle (by decide)) ⟨rfl, by decide, by decide⟩ hF hbi (fun H hS => ⟨a, ns, rfl, hS, hle, fun _ => rfl⟩) fun H e s2 z => z
theorem kok (f : PySem.Str) (n : Nat) (h : (Hm.DK.pd (Hm.kFN f (n : Int))).canLay0 = true) : Hm.KOk (Hm.kFN f (n : Int)) := ⟨by
  unfold Hm.kFN
  simp [Hm.DK.dep, Hm.DK.deps], h⟩
theorem all_of {P' : Program} {w : World} {K : PySem.W.Frag} {h : Heap} {mg : PySem.Str → Option Value} {fl : Addr} (X : K.In h) (G : h.Ns mainGlobals mg) (hfa : mg "law" = some (.ref fl)) (c : obsA K = valA w) :
    ∃ fd : FuncData, (∀ (s : Shared) (v : Value), BindsTo s fd ⟨[v], []⟩ [("_law_script", v)]) ∧ ∀ base : Heap, K.In base → base.Ns mainGlobals mg → RG.FnG P' w K mg base CX0 19 fl fd ["_law_script"] (Hm.spLaw K) := by
  have c1 : He.SaysE fa fn K := congrArg (fun z : Al => z.1) c
  have c2 : exB K = true := congrArg (fun z : Al => z.2.1) c
  have c3 : Hk.enO K (He.ga K "CONSTRUCTS") = some (Hm.consL.map (fun p => some (p.1, (p.2 : Int))), Hm.consL.map (fun p => Hm.kh P' w (Hm.kFN p.1 (p.2 : Int)))) := congrArg (fun z : Al => z.2.2) c
  obtain ⟨x1, c2⟩ := He.ba c2
  obtain ⟨x2, c2⟩ := He.ba c2
  obtain ⟨x3, c2⟩ := He.ba c2
  obtain ⟨x4, c2⟩ := He.ba c2
  obtain ⟨x5, c2⟩ := He.ba c2
  obtain ⟨x6, c2⟩ := He.ba c2
  obtain ⟨x7, c2⟩ := He.ba c2
  obtain ⟨x8, x9⟩ := He.ba c2
  obtain ⟨kvs, kn, ks⟩ := Hk.enO_ok (P := P') (w := w) c3 (by decide +kernel) (fun p hp => kok p.1 p.2 (by revert p; decide +kernel))
  have e := hfa.symm.trans (He.glo_ok X G (c1.fact 80 (f := .glo "law") rfl))
  cases e
  obtain ⟨oc0, od0, sl0, kV0, dc0, pm0, an0, cd0, ct0, l0, k0⟩ := c1.def_ 0 (d := fnD "is_integer" Hm.s_is_integer) rfl
  have F0 := fun_mk (K := K) (x := "is_integer") (qual := "is_integer") (st := Hm.s_is_integer) (f := He.ga K "is_integer") l0 k0 (He.keep_ok (c1.fact 1 (f := .keep "is_integer") rfl))
  have b0 := F0.binds (ps := ["thing"]) fun _ _ _ _ _ _ us hl => match us, hl with | [_], _ => rfl
  obtain ⟨oc1, od1, sl1, kV1, dc1, pm1, an1, cd1, ct1, l1, k1⟩ := c1.def_ 1 (d := fnD "is_sign" Hm.s_is_sign) rfl
  have F1 := fun_mk (K := K) (x := "is_sign") (qual := "is_sign") (st := Hm.s_is_sign) (f := He.ga K "is_sign") l1 k1 (He.keep_ok (c1.fact 3 (f := .keep "is_sign") rfl))
  have b1 := F1.binds (ps := ["sign"]) fun _ _ _ _ _ _ us hl => match us, hl with | [_], _ => rfl
  obtain ⟨oc2, od2, sl2, kV2, dc2, pm2, an2, cd2, ct2, l2, k2⟩ := c1.def_ 2 (d := fnD "is_atom" Hm.s_is_atom) rfl
  have F2 := fun_mk (K := K) (x := "is_atom") (qual := "is_atom") (st := Hm.s_is_atom) (f := He.ga K "is_atom") l2 k2 (He.keep_ok (c1.fact 5 (f := .keep "is_atom") rfl))
  have b2 := F2.binds (ps := ["thing"]) fun _ _ _ _ _ _ us hl => match us, hl with | [_], _ => rfl
  obtain ⟨oc3, od3, sl3, kV3, dc3, pm3, an3, cd3, ct3, l3, k3⟩ := c1.def_ 3 (d := fnD "is_number" Hm.s_is_number) rfl
  have F3 := fun_mk (K := K) (x := "is_number") (qual := "is_number") (st := Hm.s_is_number) (f := He.ga K "is_number") l3 k3 (He.keep_ok (c1.fact 7 (f := .keep "is_number") rfl))
  have b3 := F3.binds (ps := ["thing"]) fun _ _ _ _ _ _ us hl => match us, hl with | [_], _ => rfl
  obtain ⟨oc4, od4, sl4, kV4, dc4, pm4, an4, cd4, ct4, l4, k4⟩ := c1.def_ 4 (d := fnD "is_term" Hm.s_is_term) rfl
  have F4 := fun_mk (K := K) (x := "is_term") (qual := "is_term") (st := Hm.s_is_term) (f := He.ga K "is_term") l4 k4 (He.keep_ok (c1.fact 9 (f := .keep "is_term") rfl))
  have b4 := F4.binds (ps := ["thing"]) fun _ _ _ _ _ _ us hl => match us, hl with | [_], _ => rfl
  obtain ⟨oc5, od5, sl5, kV5, dc5, pm5, an5, cd5, ct5, l5, k5⟩ := c1.def_ 5 (d := fnD "_is_part" Hm.s_is_part) rfl
  have F5 := fun_mk (K := K) (x := "_is_part") (qual := "_is_part") (st := Hm.s_is_part) (f := He.ga K "_is_part") l5 k5 (He.keep_ok (c1.fact 11 (f := .keep "_is_part") rfl))
  have b5 := F5.binds (ps := ["thing"]) fun _ _ _ _ _ _ us hl => match us, hl with | [_], _ => rfl
  obtain ⟨oc6, od6, sl6, kV6, dc6, pm6, an6, cd6, ct6, l6, k6⟩ := c1.def_ 6 (d := fnD "demand_term" Hm.s_demand_term) rfl
  have F6 := fun_mk (K := K) (x := "demand_term") (qual := "demand_term") (st := Hm.s_demand_term) (f := He.ga K "demand_term") l6 k6 (He.keep_ok (c1.fact 13 (f := .keep "demand_term") rfl))
  have b6 := F6.binds (ps := ["term"]) fun _ _ _ _ _ _ us hl => match us, hl with | [_], _ => rfl
  obtain ⟨oc7, od7, sl7, kV7, dc7, pm7, an7, cd7, ct7, l7, k7⟩ := c1.def_ 7 (d := fnD "is_variable" Hm.s_is_variable) rfl
  have F7 := fun_mk (K := K) (x := "is_variable") (qual := "is_variable") (st := Hm.s_is_variable) (f := He.ga K "is_variable") l7 k7 (He.keep_ok (c1.fact 15 (f := .keep "is_variable") rfl))
  have b7 := F7.binds (ps := ["part"]) fun _ _ _ _ _ _ us hl => match us, hl with | [_], _ => rfl
  obtain ⟨oc8, od8, sl8, kV8, dc8, pm8, an8, cd8, ct8, l8, k8⟩ := c1.def_ 8 (d := fnD "arguments_of" Hm.s_arguments_of) rfl
  have F8 := fun_mk (K := K) (x := "arguments_of") (qual := "arguments_of") (st := Hm.s_arguments_of) (f := He.ga K "arguments_of") l8 k8 (He.keep_ok (c1.fact 17 (f := .keep "arguments_of") rfl))
  have b8 := F8.binds (ps := ["part"]) fun _ _ _ _ _ _ us hl => match us, hl with | [_], _ => rfl
  obtain ⟨oc9, od9, sl9, kV9, dc9, pm9, an9, cd9, ct9, l9, k9⟩ := c1.def_ 9 (d := fnD "parts_of" Hm.s_parts_of) rfl
  have F9 := fun_mk (K := K) (x := "parts_of") (qual := "parts_of") (st := Hm.s_parts_of) (f := He.ga K "parts_of") l9 k9 (He.keep_ok (c1.fact 19 (f := .keep "parts_of") rfl))
  have b9 := F9.binds (ps := ["term"]) fun _ _ _ _ _ _ us hl => match us, hl with | [_], _ => rfl
  obtain ⟨oc10, od10, sl10, kV10, dc10, pm10, an10, cd10, ct10, l10, k10⟩ := c1.def_ 10 (d := fnD "folded" Hm.s_folded) rfl
  have F10 := fun_mk (K := K) (x := "folded") (qual := "folded") (st := Hm.s_folded) (f := He.ga K "folded") l10 k10 (He.keep_ok (c1.fact 21 (f := .keep "folded") rfl))
  have b10 := F10.binds (ps := ["row"]) fun _ _ _ _ _ _ us hl => match us, hl with | [_], _ => rfl
  obtain ⟨oc11, od11, sl11, kV11, dc11, pm11, an11, cd11, ct11, l11, k11⟩ := c1.def_ 11 (d := fnD "replaced" Hm.s_replaced) rfl
  have F11 := fun_mk (K := K) (x := "replaced") (qual := "replaced") (st := Hm.s_replaced) (f := He.ga K "replaced") l11 k11 (He.keep_ok (c1.fact 23 (f := .keep "replaced") rfl))
  have b11 := F11.binds (ps := ["term", "table"]) fun _ _ _ _ _ _ us hl => match us, hl with | [_, _], _ => rfl
  obtain ⟨oc12, od12, sl12, kV12, dc12, pm12, an12, cd12, ct12, l12, k12⟩ := c1.def_ 12 (d := fnD "numbers_in" Hm.s_numbers_in) rfl
  have F12 := fun_mk (K := K) (x := "numbers_in") (qual := "numbers_in") (st := Hm.s_numbers_in) (f := He.ga K "numbers_in") l12 k12 (He.keep_ok (c1.fact 25 (f := .keep "numbers_in") rfl))
  have b12 := F12.binds (ps := ["term"]) fun _ _ _ _ _ _ us hl => match us, hl with | [_], _ => rfl
  obtain ⟨oc13, od13, sl13, kV13, dc13, pm13, an13, cd13, ct13, l13, k13⟩ := c1.def_ 13 (d := fnD "renumbered" Hm.s_renumbered) rfl
  have F13 := fun_mk (K := K) (x := "renumbered") (qual := "renumbered") (st := Hm.s_renumbered) (f := He.ga K "renumbered") l13 k13 (He.keep_ok (c1.fact 27 (f := .keep "renumbered") rfl))
  have b13 := F13.binds (ps := ["term"]) fun _ _ _ _ _ _ us hl => match us, hl with | [_], _ => rfl
  obtain ⟨oc14, od14, sl14, kV14, dc14, pm14, an14, cd14, ct14, l14, k14⟩ := c1.def_ 14 (d := fnD "is_callable" Hm.s_is_callable) rfl
  have F14 := fun_mk (K := K) (x := "is_callable") (qual := "is_callable") (st := Hm.s_is_callable) (f := He.ga K "is_callable") l14 k14 (He.keep_ok (c1.fact 29 (f := .keep "is_callable") rfl))
  have b14 := F14.binds (ps := ["term"]) fun _ _ _ _ _ _ us hl => match us, hl with | [_], _ => rfl
  obtain ⟨oc15, od15, sl15, kV15, dc15, pm15, an15, cd15, ct15, l15, k15⟩ := c1.def_ 15 (d := fnD "is_body" Hm.s_is_body) rfl
  have F15 := fun_mk (K := K) (x := "is_body") (qual := "is_body") (st := Hm.s_is_body) (f := He.ga K "is_body") l15 k15 (He.keep_ok (c1.fact 31 (f := .keep "is_body") rfl))
  have b15 := F15.binds (ps := ["term"]) fun _ _ _ _ _ _ us hl => match us, hl with | [_], _ => rfl
  obtain ⟨oc16, od16, sl16, kV16, dc16, pm16, an16, cd16, ct16, l16, k16⟩ := c1.def_ 16 (d := fnD "is_clause" Hm.s_is_clause) rfl
  have F16 := fun_mk (K := K) (x := "is_clause") (qual := "is_clause") (st := Hm.s_is_clause) (f := He.ga K "is_clause") l16 k16 (He.keep_ok (c1.fact 33 (f := .keep "is_clause") rfl))
  have b16 := F16.binds (ps := ["term"]) fun _ _ _ _ _ _ us hl => match us, hl with | [_], _ => rfl
  obtain ⟨oc17, od17, sl17, kV17, dc17, pm17, an17, cd17, ct17, l17, k17⟩ := c1.def_ 17 (d := fnD "stored" Hm.s_stored) rfl
  have F17 := fun_mk (K := K) (x := "stored") (qual := "stored") (st := Hm.s_stored) (f := He.ga K "stored") l17 k17 (He.keep_ok (c1.fact 35 (f := .keep "stored") rfl))
  have b17 := F17.binds (ps := ["clause"]) fun _ _ _ _ _ _ us hl => match us, hl with | [_], _ => rfl
  obtain ⟨oc18, od18, sl18, kV18, dc18, pm18, an18, cd18, ct18, l18, k18⟩ := c1.def_ 18 (d := fnD "sides_of" Hm.s_sides_of) rfl
  have F18 := fun_mk (K := K) (x := "sides_of") (qual := "sides_of") (st := Hm.s_sides_of) (f := He.ga K "sides_of") l18 k18 (He.keep_ok (c1.fact 37 (f := .keep "sides_of") rfl))
  have b18 := F18.binds (ps := ["term"]) fun _ _ _ _ _ _ us hl => match us, hl with | [_], _ => rfl
  obtain ⟨oc19, od19, sl19, kV19, dc19, pm19, an19, cd19, ct19, l19, k19⟩ := c1.def_ 19 (d := fnD "key_of" Hm.s_key_of) rfl
  have F19 := fun_mk (K := K) (x := "key_of") (qual := "key_of") (st := Hm.s_key_of) (f := He.ga K "key_of") l19 k19 (He.keep_ok (c1.fact 39 (f := .keep "key_of") rfl))
  have b19 := F19.binds (ps := ["term"]) fun _ _ _ _ _ _ us hl => match us, hl with | [_], _ => rfl
  obtain ⟨oc20, od20, sl20, kV20, dc20, pm20, an20, cd20, ct20, l20, k20⟩ := c1.def_ 20 (d := fnD "is_construct" Hm.s_is_construct) rfl
  have F20 := fun_mk (K := K) (x := "is_construct") (qual := "is_construct") (st := Hm.s_is_construct) (f := He.ga K "is_construct") l20 k20 (He.keep_ok (c1.fact 41 (f := .keep "is_construct") rfl))
  have b20 := F20.binds (ps := ["goal"]) fun _ _ _ _ _ _ us hl => match us, hl with | [_], _ => rfl
  obtain ⟨oc21, od21, sl21, kV21, dc21, pm21, an21, cd21, ct21, l21, k21⟩ := c1.def_ 21 (d := fnD "leaves_of" Hm.s_leaves_of) rfl
  have F21 := fun_mk (K := K) (x := "leaves_of") (qual := "leaves_of") (st := Hm.s_leaves_of) (f := He.ga K "leaves_of") l21 k21 (He.keep_ok (c1.fact 43 (f := .keep "leaves_of") rfl))
  have b21 := F21.binds (ps := ["goal"]) fun _ _ _ _ _ _ us hl => match us, hl with | [_], _ => rfl
  obtain ⟨oc22, od22, sl22, kV22, dc22, pm22, an22, cd22, ct22, l22, k22⟩ := c1.def_ 22 (d := fnD "has_goals" Hm.s_has_goals) rfl
  have F22 := fun_mk (K := K) (x := "has_goals") (qual := "has_goals") (st := Hm.s_has_goals) (f := He.ga K "has_goals") l22 k22 (He.keep_ok (c1.fact 45 (f := .keep "has_goals") rfl))
  have b22 := F22.binds (ps := ["term"]) fun _ _ _ _ _ _ us hl => match us, hl with | [_], _ => rfl
  obtain ⟨oc23, od23, sl23, kV23, dc23, pm23, an23, cd23, ct23, l23, k23⟩ := c1.def_ 23 (d := fnD "with_calls" Hm.s_with_calls) rfl
  have F23 := fun_mk (K := K) (x := "with_calls") (qual := "with_calls") (st := Hm.s_with_calls) (f := He.ga K "with_calls") l23 k23 (He.keep_ok (c1.fact 47 (f := .keep "with_calls") rfl))
  have b23 := F23.binds (ps := ["goal"]) fun _ _ _ _ _ _ us hl => match us, hl with | [_], _ => rfl
  obtain ⟨oc24, od24, sl24, kV24, dc24, pm24, an24, cd24, ct24, l24, k24⟩ := c1.def_ 24 (d := fnD "_law_cell_at" Hm.s_law_cell_at) rfl
  have F24 := fun_mk (K := K) (x := "_law_cell_at") (qual := "_law_cell_at") (st := Hm.s_law_cell_at) (f := He.ga K "_law_cell_at") l24 k24 (He.keep_ok (c1.fact 49 (f := .keep "_law_cell_at") rfl))
  have b24 := F24.binds (ps := ["_law_script", "_law_k"]) fun _ _ _ _ _ _ us hl => match us, hl with | [_, _], _ => rfl
  obtain ⟨oc25, od25, sl25, kV25, dc25, pm25, an25, cd25, ct25, l25, k25⟩ := c1.def_ 25 (d := fnD "_law_well" Hm.s_law_well) rfl
  have F25 := fun_mk (K := K) (x := "_law_well") (qual := "_law_well") (st := Hm.s_law_well) (f := He.ga K "_law_well") l25 k25 (He.keep_ok (c1.fact 51 (f := .keep "_law_well") rfl))
  have b25 := F25.binds (ps := ["_law_cell"]) fun _ _ _ _ _ _ us hl => match us, hl with | [_], _ => rfl
  obtain ⟨oc26, od26, sl26, kV26, dc26, pm26, an26, cd26, ct26, l26, k26⟩ := c1.def_ 26 (d := fnD "_law_draw" Hm.s_law_draw) rfl
  have F26 := fun_mk (K := K) (x := "_law_draw") (qual := "_law_draw") (st := Hm.s_law_draw) (f := He.ga K "_law_draw") l26 k26 (He.keep_ok (c1.fact 53 (f := .keep "_law_draw") rfl))
  have b26 := F26.binds (ps := ["_law_well_here", "_law_many"]) fun _ _ _ _ _ _ us hl => match us, hl with | [_, _], _ => rfl
  obtain ⟨oc27, od27, sl27, kV27, dc27, pm27, an27, cd27, ct27, l27, k27⟩ := c1.def_ 27 (d := fnD "_law_one" Hm.s_law_one) rfl
  have F27 := fun_mk (K := K) (x := "_law_one") (qual := "_law_one") (st := Hm.s_law_one) (f := He.ga K "_law_one") l27 k27 (He.keep_ok (c1.fact 55 (f := .keep "_law_one") rfl))
  have b27 := F27.binds (ps := ["_law_well_here", "_law_some"]) fun _ _ _ _ _ _ us hl => match us, hl with | [_, _], _ => rfl
  obtain ⟨oc28, od28, sl28, kV28, dc28, pm28, an28, cd28, ct28, l28, k28⟩ := c1.def_ 28 (d := fnD "_law_numbers" Hm.s_law_numbers) rfl
  have F28 := fun_mk (K := K) (x := "_law_numbers") (qual := "_law_numbers") (st := Hm.s_law_numbers) (f := He.ga K "_law_numbers") l28 k28 (He.keep_ok (c1.fact 57 (f := .keep "_law_numbers") rfl))
  have b28 := F28.binds (ps := ["_law_terms", "_law_found"]) fun _ _ _ _ _ _ us hl => match us, hl with | [_, _], _ => rfl
  obtain ⟨oc29, od29, sl29, kV29, dc29, pm29, an29, cd29, ct29, l29, k29⟩ := c1.def_ 29 (d := fnD "_law_put" Hm.s_law_put) rfl
  have F29 := fun_mk (K := K) (x := "_law_put") (qual := "_law_put") (st := Hm.s_law_put) (f := He.ga K "_law_put") l29 k29 (He.keep_ok (c1.fact 59 (f := .keep "_law_put") rfl))
  have b29 := F29.binds (ps := ["_law_term", "_law_table"]) fun _ _ _ _ _ _ us hl => match us, hl with | [_, _], _ => rfl
  obtain ⟨oc30, od30, sl30, kV30, dc30, pm30, an30, cd30, ct30, l30, k30⟩ := c1.def_ 30 (d := fnD "_law_anew" Hm.s_law_anew) rfl
  have F30 := fun_mk (K := K) (x := "_law_anew") (qual := "_law_anew") (st := Hm.s_law_anew) (f := He.ga K "_law_anew") l30 k30 (He.keep_ok (c1.fact 61 (f := .keep "_law_anew") rfl))
  have b30 := F30.binds (ps := ["_law_terms"]) fun _ _ _ _ _ _ us hl => match us, hl with | [_], _ => rfl
  obtain ⟨oc31, od31, sl31, kV31, dc31, pm31, an31, cd31, ct31, l31, k31⟩ := c1.def_ 31 (d := fnD "_law_is_construct" Hm.s_law_is_construct) rfl
  have F31 := fun_mk (K := K) (x := "_law_is_construct") (qual := "_law_is_construct") (st := Hm.s_law_is_construct) (f := He.ga K "_law_is_construct") l31 k31 (He.keep_ok (c1.fact 63 (f := .keep "_law_is_construct") rfl))
  have b31 := F31.binds (ps := ["_law_term"]) fun _ _ _ _ _ _ us hl => match us, hl with | [_], _ => rfl
  obtain ⟨oc32, od32, sl32, kV32, dc32, pm32, an32, cd32, ct32, l32, k32⟩ := c1.def_ 32 (d := fnD "_law_is_body" Hm.s_law_is_body) rfl
  have F32 := fun_mk (K := K) (x := "_law_is_body") (qual := "_law_is_body") (st := Hm.s_law_is_body) (f := He.ga K "_law_is_body") l32 k32 (He.keep_ok (c1.fact 65 (f := .keep "_law_is_body") rfl))
  have b32 := F32.binds (ps := ["_law_term"]) fun _ _ _ _ _ _ us hl => match us, hl with | [_], _ => rfl
  obtain ⟨oc33, od33, sl33, kV33, dc33, pm33, an33, cd33, ct33, l33, k33⟩ := c1.def_ 33 (d := fnD "_law_is_goal" Hm.s_law_is_goal) rfl
  have F33 := fun_mk (K := K) (x := "_law_is_goal") (qual := "_law_is_goal") (st := Hm.s_law_is_goal) (f := He.ga K "_law_is_goal") l33 k33 (He.keep_ok (c1.fact 67 (f := .keep "_law_is_goal") rfl))
  have b33 := F33.binds (ps := ["_law_term"]) fun _ _ _ _ _ _ us hl => match us, hl with | [_], _ => rfl
  obtain ⟨oc34, od34, sl34, kV34, dc34, pm34, an34, cd34, ct34, l34, k34⟩ := c1.def_ 34 (d := fnD "_law_with_calls" Hm.s_law_with_calls) rfl
  have F34 := fun_mk (K := K) (x := "_law_with_calls") (qual := "_law_with_calls") (st := Hm.s_law_with_calls) (f := He.ga K "_law_with_calls") l34 k34 (He.keep_ok (c1.fact 69 (f := .keep "_law_with_calls") rfl))
  have b34 := F34.binds (ps := ["_law_term"]) fun _ _ _ _ _ _ us hl => match us, hl with | [_], _ => rfl
  obtain ⟨oc35, od35, sl35, kV35, dc35, pm35, an35, cd35, ct35, l35, k35⟩ := c1.def_ 35 (d := fnD "_law_atom" Hm.s_law_atom) rfl
  have F35 := fun_mk (K := K) (x := "_law_atom") (qual := "_law_atom") (st := Hm.s_law_atom) (f := He.ga K "_law_atom") l35 k35 (He.keep_ok (c1.fact 71 (f := .keep "_law_atom") rfl))
  have b35 := F35.binds (ps := ["_law_well_here"]) fun _ _ _ _ _ _ us hl => match us, hl with | [_], _ => rfl
  obtain ⟨oc36, od36, sl36, kV36, dc36, pm36, an36, cd36, ct36, l36, k36⟩ := c1.def_ 36 (d := fnD "_law_part" Hm.s_law_part) rfl
  have F36 := fun_mk (K := K) (x := "_law_part") (qual := "_law_part") (st := Hm.s_law_part) (f := He.ga K "_law_part") l36 k36 (He.keep_ok (c1.fact 73 (f := .keep "_law_part") rfl))
  have b36 := F36.binds (ps := ["_law_well_here", "_law_deep"]) fun _ _ _ _ _ _ us hl => match us, hl with | [_, _], _ => rfl
  obtain ⟨oc37, od37, sl37, kV37, dc37, pm37, an37, cd37, ct37, l37, k37⟩ := c1.def_ 37 (d := fnD "_law_due" Hm.s_law_due) rfl
  have F37 := fun_mk (K := K) (x := "_law_due") (qual := "_law_due") (st := Hm.s_law_due) (f := He.ga K "_law_due") l37 k37 (He.keep_ok (c1.fact 75 (f := .keep "_law_due") rfl))
  have b37 := F37.binds (ps := ["_law_term"]) fun _ _ _ _ _ _ us hl => match us, hl with | [_], _ => rfl
  obtain ⟨oc38, od38, sl38, kV38, dc38, pm38, an38, cd38, ct38, l38, k38⟩ := c1.def_ 38 (d := fnD "_law_said" Hm.s_law_said) rfl
  have F38 := fun_mk (K := K) (x := "_law_said") (qual := "_law_said") (st := Hm.s_law_said) (f := He.ga K "_law_said") l38 k38 (He.keep_ok (c1.fact 77 (f := .keep "_law_said") rfl))
  have b38 := F38.binds (ps := ["_law_term"]) fun _ _ _ _ _ _ us hl => match us, hl with | [_], _ => rfl
  obtain ⟨oc39, od39, sl39, kV39, dc39, pm39, an39, cd39, ct39, l39, k39⟩ := c1.def_ 39 (d := fnD "_law_right" Hm.s_law_right) rfl
  have F39 := fun_mk (K := K) (x := "_law_right") (qual := "_law_right") (st := Hm.s_law_right) (f := He.ga K "_law_right") l39 k39 (He.keep_ok (c1.fact 79 (f := .keep "_law_right") rfl))
  have b39 := F39.binds (ps := ["_law_term"]) fun _ _ _ _ _ _ us hl => match us, hl with | [_], _ => rfl
  obtain ⟨oc40, od40, sl40, kV40, dc40, pm40, an40, cd40, ct40, l40, k40⟩ := c1.def_ 40 (d := fnD "law" Hm.s_law) rfl
  have F40 := fun_mk (K := K) (x := "law") (qual := "law") (st := Hm.s_law) (f := He.ga K "law") l40 k40 (He.keep_ok (c1.fact 81 (f := .keep "law") rfl))
  have b40 := F40.binds (ps := ["_law_script"]) fun _ _ _ _ _ _ us hl => match us, hl with | [_], _ => rfl
  obtain ⟨oc41, od41, sl41, kV41, dc41, pm41, an41, cd41, ct41, l41, k41⟩ := c1.def_ 41 (d := fnI "BadTerm" "BadTerm.__init__" Hm.s_BadTerm_init) rfl
  have F41 := fun_mk (K := K) (x := "__init__") (qual := "BadTerm.__init__") (st := Hm.s_BadTerm_init) (f := He.ma K (He.ga K "BadTerm") "__init__") l41 k41 x8
  have b41 := F41.binds (ps := ["self", "term"]) fun _ _ _ _ _ _ us hl => match us, hl with | [_, _], _ => rfl
  obtain ⟨oc42, od42, sl42, kV42, dc42, pm42, an42, cd42, ct42, l42, k42⟩ := c1.def_ 42 (d := fnI "NoClause" "NoClause.__init__" Hm.s_NoClause_init) rfl
  have F42 := fun_mk (K := K) (x := "__init__") (qual := "NoClause.__init__") (st := Hm.s_NoClause_init) (f := He.ma K (He.ga K "NoClause") "__init__") l42 k42 x9
  have b42 := F42.binds (ps := ["self", "why"]) fun _ _ _ _ _ _ us hl => match us, hl with | [_, _], _ => rfl
  exact ⟨PySem.W.fnOf "law" "law" (defArgs Hm.s_law) (defBody Hm.s_law) (defScope Hm.s_law) .none kV40 dc40 pm40 an40 cd40 ct40, fun s v => .of_eq rfl, fun base _ _ => Hm.ok_law (T := ({
    f_is_integer := _, d_is_integer := _, h_is_integer := ⟨F0, b0, He.glo_ok X G (c1.fact 0 (f := .glo "is_integer") rfl)⟩,
    f_is_sign := _, d_is_sign := _, h_is_sign := ⟨F1, b1, He.glo_ok X G (c1.fact 2 (f := .glo "is_sign") rfl)⟩,
    f_is_atom := _, d_is_atom := _, h_is_atom := ⟨F2, b2, He.glo_ok X G (c1.fact 4 (f := .glo "is_atom") rfl)⟩,
    f_is_number := _, d_is_number := _, h_is_number := ⟨F3, b3, He.glo_ok X G (c1.fact 6 (f := .glo "is_number") rfl)⟩,
    f_is_term := _, d_is_term := _, h_is_term := ⟨F4, b4, He.glo_ok X G (c1.fact 8 (f := .glo "is_term") rfl)⟩,
    f_is_part := _, d_is_part := _, h_is_part := ⟨F5, b5, He.glo_ok X G (c1.fact 10 (f := .glo "_is_part") rfl)⟩,
    f_demand_term := _, d_demand_term := _, h_demand_term := ⟨F6, b6, He.glo_ok X G (c1.fact 12 (f := .glo "demand_term") rfl)⟩,
    f_is_variable := _, d_is_variable := _, h_is_variable := ⟨F7, b7, He.glo_ok X G (c1.fact 14 (f := .glo "is_variable") rfl)⟩,
    f_arguments_of := _, d_arguments_of := _, h_arguments_of := ⟨F8, b8, He.glo_ok X G (c1.fact 16 (f := .glo "arguments_of") rfl)⟩,
    f_parts_of := _, d_parts_of := _, h_parts_of := ⟨F9, b9, He.glo_ok X G (c1.fact 18 (f := .glo "parts_of") rfl)⟩,
    f_folded := _, d_folded := _, h_folded := ⟨F10, b10, He.glo_ok X G (c1.fact 20 (f := .glo "folded") rfl)⟩,
    f_replaced := _, d_replaced := _, h_replaced := ⟨F11, b11, He.glo_ok X G (c1.fact 22 (f := .glo "replaced") rfl)⟩,
    f_numbers_in := _, d_numbers_in := _, h_numbers_in := ⟨F12, b12, He.glo_ok X G (c1.fact 24 (f := .glo "numbers_in") rfl)⟩,
    f_renumbered := _, d_renumbered := _, h_renumbered := ⟨F13, b13, He.glo_ok X G (c1.fact 26 (f := .glo "renumbered") rfl)⟩,
    f_is_callable := _, d_is_callable := _, h_is_callable := ⟨F14, b14, He.glo_ok X G (c1.fact 28 (f := .glo "is_callable") rfl)⟩,
    f_is_body := _, d_is_body := _, h_is_body := ⟨F15, b15, He.glo_ok X G (c1.fact 30 (f := .glo "is_body") rfl)⟩,
    f_is_clause := _, d_is_clause := _, h_is_clause := ⟨F16, b16, He.glo_ok X G (c1.fact 32 (f := .glo "is_clause") rfl)⟩,
    f_stored := _, d_stored := _, h_stored := ⟨F17, b17, He.glo_ok X G (c1.fact 34 (f := .glo "stored") rfl)⟩,
    f_sides_of := _, d_sides_of := _, h_sides_of := ⟨F18, b18, He.glo_ok X G (c1.fact 36 (f := .glo "sides_of") rfl)⟩,
    f_key_of := _, d_key_of := _, h_key_of := ⟨F19, b19, He.glo_ok X G (c1.fact 38 (f := .glo "key_of") rfl)⟩,
    f_is_construct := _, d_is_construct := _, h_is_construct := ⟨F20, b20, He.glo_ok X G (c1.fact 40 (f := .glo "is_construct") rfl)⟩,
    f_leaves_of := _, d_leaves_of := _, h_leaves_of := ⟨F21, b21, He.glo_ok X G (c1.fact 42 (f := .glo "leaves_of") rfl)⟩,
    f_has_goals := _, d_has_goals := _, h_has_goals := ⟨F22, b22, He.glo_ok X G (c1.fact 44 (f := .glo "has_goals") rfl)⟩,
    f_with_calls := _, d_with_calls := _, h_with_calls := ⟨F23, b23, He.glo_ok X G (c1.fact 46 (f := .glo "with_calls") rfl)⟩,
    f_law_cell_at := _, d_law_cell_at := _, h_law_cell_at := ⟨F24, b24, He.glo_ok X G (c1.fact 48 (f := .glo "_law_cell_at") rfl)⟩,
    f_law_well := _, d_law_well := _, h_law_well := ⟨F25, b25, He.glo_ok X G (c1.fact 50 (f := .glo "_law_well") rfl)⟩,
    f_law_draw := _, d_law_draw := _, h_law_draw := ⟨F26, b26, He.glo_ok X G (c1.fact 52 (f := .glo "_law_draw") rfl)⟩,
    f_law_one := _, d_law_one := _, h_law_one := ⟨F27, b27, He.glo_ok X G (c1.fact 54 (f := .glo "_law_one") rfl)⟩,
    f_law_numbers := _, d_law_numbers := _, h_law_numbers := ⟨F28, b28, He.glo_ok X G (c1.fact 56 (f := .glo "_law_numbers") rfl)⟩,
    f_law_put := _, d_law_put := _, h_law_put := ⟨F29, b29, He.glo_ok X G (c1.fact 58 (f := .glo "_law_put") rfl)⟩,
    f_law_anew := _, d_law_anew := _, h_law_anew := ⟨F30, b30, He.glo_ok X G (c1.fact 60 (f := .glo "_law_anew") rfl)⟩,
    f_law_is_construct := _, d_law_is_construct := _, h_law_is_construct := ⟨F31, b31, He.glo_ok X G (c1.fact 62 (f := .glo "_law_is_construct") rfl)⟩,
    f_law_is_body := _, d_law_is_body := _, h_law_is_body := ⟨F32, b32, He.glo_ok X G (c1.fact 64 (f := .glo "_law_is_body") rfl)⟩,
    f_law_is_goal := _, d_law_is_goal := _, h_law_is_goal := ⟨F33, b33, He.glo_ok X G (c1.fact 66 (f := .glo "_law_is_goal") rfl)⟩,
    f_law_with_calls := _, d_law_with_calls := _, h_law_with_calls := ⟨F34, b34, He.glo_ok X G (c1.fact 68 (f := .glo "_law_with_calls") rfl)⟩,
    f_law_atom := _, d_law_atom := _, h_law_atom := ⟨F35, b35, He.glo_ok X G (c1.fact 70 (f := .glo "_law_atom") rfl)⟩,
    f_law_part := _, d_law_part := _, h_law_part := ⟨F36, b36, He.glo_ok X G (c1.fact 72 (f := .glo "_law_part") rfl)⟩,
    f_law_due := _, d_law_due := _, h_law_due := ⟨F37, b37, He.glo_ok X G (c1.fact 74 (f := .glo "_law_due") rfl)⟩,
    f_law_said := _, d_law_said := _, h_law_said := ⟨F38, b38, He.glo_ok X G (c1.fact 76 (f := .glo "_law_said") rfl)⟩,
    f_law_right := _, d_law_right := _, h_law_right := ⟨F39, b39, He.glo_ok X G (c1.fact 78 (f := .glo "_law_right") rfl)⟩,
    f_law := _, d_law := _, h_law := ⟨F40, b40, He.glo_ok X G (c1.fact 80 (f := .glo "law") rfl)⟩,
    a_Bad := He.ga K "BadTerm", i_Bad := He.ma K (He.ga K "BadTerm") "__init__", d_Bad := _, e_Bad := Hk.errB_ok x2 (He.glo_ok X G (c1.fact 101 (f := .glo "BadTerm") rfl)), F_Bad := F41, b_Bad := b41, x_Bad := Hk.isB_ok x4, y_Bad := Hk.kitB_ok x6,
    a_Noc := He.ga K "NoClause", i_Noc := He.ma K (He.ga K "NoClause") "__init__", d_Noc := _, e_Noc := Hk.errB_ok x3 (He.glo_ok X G (c1.fact 102 (f := .glo "NoClause") rfl)), F_Noc := F42, b_Noc := b42, x_Noc := Hk.isB_ok x5, y_Noc := Hk.kitB_ok x7,
    c_MOST_SIGNS := He.int_ok X G (c1.fact 96 (f := .int "MOST_SIGNS" 40) rfl),
    c_MOST_ARGUMENTS := He.int_ok X G (c1.fact 97 (f := .int "MOST_ARGUMENTS" 8) rfl),
    c_BARRED_SIGN := He.int_ok X G (c1.fact 98 (f := .int "BARRED_SIGN" 37) rfl),
    c_TOO_GREAT := He.int_ok X G (c1.fact 99 (f := .int "TOO_GREAT" Hm.tooGreat) rfl),
    b_all := He.free_ok X G (c1.fact 82 (f := .free "all") rfl),
    b_any := He.free_ok X G (c1.fact 83 (f := .free "any") rfl),
    b_bool := He.free_ok X G (c1.fact 84 (f := .free "bool") rfl),
    b_enumerate := He.free_ok X G (c1.fact 85 (f := .free "enumerate") rfl),
    b_int := He.free_ok X G (c1.fact 86 (f := .free "int") rfl),
    b_isinstance := He.free_ok X G (c1.fact 87 (f := .free "isinstance") rfl),
    b_len := He.free_ok X G (c1.fact 88 (f := .free "len") rfl),
    b_list := He.free_ok X G (c1.fact 89 (f := .free "list") rfl),
    b_ord := He.free_ok X G (c1.fact 90 (f := .free "ord") rfl),
    b_range := He.free_ok X G (c1.fact 91 (f := .free "range") rfl),
    b_repr := He.free_ok X G (c1.fact 92 (f := .free "repr") rfl),
    b_reversed := He.free_ok X G (c1.fact 93 (f := .free "reversed") rfl),
    b_str := He.free_ok X G (c1.fact 94 (f := .free "str") rfl),
    b_tuple := He.free_ok X G (c1.fact 95 (f := .free "tuple") rfl),
    a_Horn := He.ga K "HornError", e_Horn := Hk.baseB_ok x1 (He.glo_ok X G (c1.fact 100 (f := .glo "HornError") rfl)),
    a_Cons := He.ga K "CONSTRUCTS", m_Cons := He.glo_ok X G (c1.fact 103 (f := .glo "CONSTRUCTS") rfl),
    kvs := kvs, kn := kn, ks := ks } : Hm.Ty P' w K mg))⟩
end K21H
open PySem PySem.W PySem.Calls PyProof.Rows
set_option maxRecDepth 100000 in
set_option maxHeartbeats 0 in
theorem PySem.Challenge.cw_hornmill_k21_bodies_and_clauses_holds : PySem.Challenge.rw_hornmill_k21_bodies_and_clauses.Holds := by
  w_on; o_law
  refine holds_open (r := OpenLaw.row PySem.Challenge.rw_hornmill_k21_bodies_and_clauses) (q := K21H.qv) (loose := K21H.loose) (XP := XL K21H.qv []) (YP := K21H.hk.says) (d := HandSHeadRun.topDef K21H.P 53) (kwd := []) K21H.left K21H.hk.of K21H.hk.keeps (fun s z => xl_of s (Bool.and_eq_true_iff.mp z).1) XL.keeps
    (by kernel_rfl) (by kernel_rfl) (by kernel_rfl) (fun s z => recFacts_of (Bool.and_eq_true_iff.mp z).2) (by rfl) (by first | assumption | decide +kernel) (by decide +kernel) ⟨rfl, rfl, rfl, rfl, rfl, by decide +kernel⟩ ?hw ?hc
  case hw => w_witness2
  case hc =>
    refine K21H.walkE (l := PySem.Challenge.rw_hornmill_k21_bodies_and_clauses) rfl (by kernel_rfl) ?F
    intro w mg fl h Y G hmg0
    obtain ⟨K, KX, c⟩ := Y
    have hmg : mg ("law" : PySem.Str) = some (.ref fl) := by
      have e : (HandSHeadRun.topDef K21H.P 53).name = ("law" : PySem.Str) := by kernel_rfl
      rw [← e]
      exact hmg0
    obtain ⟨fd, hb, hF⟩ := K21H.all_of (P' := (PySem.Challenge.rw_hornmill_k21_bodies_and_clauses).prog) KX G hmg c
    exact ⟨K, fd, KX, hb, hF⟩

