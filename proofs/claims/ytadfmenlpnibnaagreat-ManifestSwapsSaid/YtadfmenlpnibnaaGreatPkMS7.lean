/- Texts put together by packtpl2.py: ApI. -/
import Derived.Test.YtadfmenlpnibnaaGreatPkMS4
import Derived.Test.YtadfmenlpnibnaaGreatPkMS6
import Derived.Shelf.Spec.SlicesInsertGrow
import Derived.Deep.CutBlock
section PkMS7_0
/- slices.Insert of one thing, of marks and of owners that a call owns. Written by genapi.py. -/
namespace Go.Proofs.YtadfmenlpnibnaaGreat
open Go.RowKit LabPlain
set_option linter.unusedVariables false
set_option linter.unusedSimpArgs false

theorem run_copyK {P : Program} (w : World) (dT sT ty elem : TypeId) (b o dLen dCap : Nat) (a : Addr) (sLen sCap n K : Nat) (cs : List Value)
    (hu : P.underlying dT = some (.slice elem)) (hs : (P.info? elem).map (·.size) = some K) (hn : Nat.min sLen dLen = n) (hl : cs.length = n * K)
    (hsrc : ∀ j v, cs[j]? = some v → w.cell? (a.add j) = some v) (hc : ∀ j, j < cs.length → (w.cell? ⟨b, o + j, none⟩).isSome = true) (hf : ∀ j, j < cs.length → w.frozen? ⟨b, o + j, none⟩ = false) (h1 : ∀ v ∈ cs, v.oneCell' = true) :
    (Builtin.copy_ #[dT, sT] ty #[.slice (some ⟨b, o, none⟩) dLen dCap, .slice (some a) sLen sCap]).run P w = .ok (goInt n) (w.setCells b o cs) := by
  have hl2 := run_loadCells_list (P := P) w a cs hsrc
  have hst := run_storeCells_cells (P := P) b o cs 0 w (by simpa using hc) (by simpa using hf) h1
  cases hq : P.info? elem with
  | none => simp [hq] at hs
  | some i =>
    have hi : i.size = K := by simpa [hq] using hs
    rw [hl] at hl2
    simp [Builtin.copy_, run_underlying hu, Builtin.lenOf, Builtin.firstCells, sizeOf, typeInfo, hq, hi, hn, hl2, hst]
theorem step_copyK {P : Program} {b : Bool} {o : Oper} {a : Act} {w : World} {K : Act → World → Prop} {Q : Exit → Act → World → Prop} {E : Prop} (hw : b = true)
    (d x : Operand) (dT sT : TypeId) (hop : o.op = Op.call { callee := Callee.builtin Builtin.copy, args := #[d, x], argTypes := #[dT, sT] })
    (v u : Value) (hd : a.eval d = v) (hx : a.eval x = u) {v' : Value} {w' : World} (hr : (Builtin.copy_ #[dT, sT] o.type #[v, u]).run P w = .ok v' w') (hK : K (a.put o.dst v') w') :
    if b = true then Oper.wp P o a w K Q else E := by
  rw [if_pos hw]
  unfold Oper.wp
  simp [execOp, hop, resolve, invoke, builtin, hd, hx, hr, Result.andThen]
  exact hK
theorem own_mk9 {w : World} {base n cap g K : Nat} {e : TypeId} {cur : Array Value} {xs : List Value} (hg : base ≤ g) (hh : w.heap[g]? = some (.cells cur e (0, 0))) (hn : n ≤ cap) (hm : cap ≤ maxLen) (hs : cur.size = cap * K) (hx : cur.toList.take (n * K) = xs) : w.ownsRow base e K (.slice (some ⟨g, 0, none⟩) n cap) n xs :=
  ⟨by rw [← hx, List.length_take, Array.length_toList, hs]; exact Nat.min_eq_left (Nat.mul_le_mul_right K hn), .inr ⟨g, cap, cur, rfl, hg, hh, hn, hm, hs, hx⟩⟩
/-- a row with one thing put in -/
theorem take_ins {c2 : Array Value} {A X R : List Value} {p q m : Nat} (hA : A.length = p) (hX : X.length = q) (hR : R.length = m) (hs : p + q + m ≤ c2.size)
    (h1 : ∀ k, k < p → c2[k]? = A[k]?) (h2 : ∀ k, p ≤ k → k < p + q → c2[k]? = X[k - p]?) (h3 : ∀ k, p + q ≤ k → k < p + q + m → c2[k]? = R[k - (p + q)]?) : c2.toList.take (p + q + m) = A ++ (X ++ R) := by
  refine List.ext_getElem? fun k => ?_
  rw [List.getElem?_take]
  by_cases hk : k < p + q + m
  · rw [if_pos hk, Array.getElem?_toList]
    by_cases g1 : k < p
    · rw [h1 k g1, List.getElem?_append_left (by omega)]
    · rw [List.getElem?_append_right (by omega), hA]
      by_cases g2 : k < p + q
      · rw [h2 k (by omega) g2, List.getElem?_append_left (by omega)]
      · rw [h3 k (by omega) hk, List.getElem?_append_right (by omega), hX]
        congr 1
        omega
  · rw [if_neg hk]
    symm
    rw [List.getElem?_eq_none]
    simp only [List.length_append]
    omega
theorem setMm_in {vs : List Value} {c : Array Value} {o k : Nat} (h : o + vs.length ≤ c.size) (h1 : o ≤ k) (h2 : k < o + vs.length) : (setMm c o vs)[k]? = vs[k - o]? := by rw [setMm_get vs c o k h, if_pos ⟨h1, h2⟩]
theorem setMm_off {vs : List Value} {c : Array Value} {o k : Nat} (h : o + vs.length ≤ c.size) (h1 : k < o ∨ o + vs.length ≤ k) : (setMm c o vs)[k]? = c[k]? := by rw [setMm_get vs c o k h, if_neg (by omega)]
theorem setCells_oth : ∀ (vs : List Value) (w : World) (g o k : Nat), k ≠ g → (w.setCells g o vs).heap[k]? = w.heap[k]?
  | [], _, _, _, _, _ => rfl
  | v :: r, w, g, o, k, h => by rw [World.setCells, setCells_oth r _ g _ k h]; exact Below.heap_setCell _ _ _ _ h
theorem setCells_env : ∀ (vs : List Value) (w : World) (g o : Nat), (w.setCells g o vs).os = w.os ∧ (w.setCells g o vs).tape = w.tape ∧ (w.setCells g o vs).output = w.output ∧ (w.setCells g o vs).heap.size = w.heap.size
  | [], _, _, _ => ⟨rfl, rfl, rfl, rfl⟩
  | v :: r, w, g, o => by
    have h := setCells_env r (w.setCell ⟨g, o, none⟩ v) g (o + 1)
    rw [World.setCells]
    exact ⟨h.1, h.2.1, h.2.2.1, h.2.2.2.trans (by simp [World.setCell])⟩
theorem setCells_grown (w : World) (g o : Nat) (vs : List Value) : w.grownBy (w.setCells g o vs) (some g) := by
  obtain ⟨h1, h2, h3, h4⟩ := setCells_env vs w g o
  exact ⟨h1, h2, h3, Nat.le_of_eq h4.symm, fun k hk hne => setCells_oth vs w g o k (fun e => hne (by rw [e]))⟩
theorem Sty.flat_app {α : Type} (S : Sty α) (a b : List α) : S.flat (a ++ b) = S.flat a ++ S.flat b := by unfold Sty.flat; rw [List.flatMap_append]
theorem Sty.flat_cut {α : Type} (S : Sty α) (l : List α) (i : Nat) : S.flat l = S.flat (l.take i) ++ S.flat (l.drop i) := by rw [← Sty.flat_app, List.take_append_drop]
theorem grown_set2 (w : World) (g o1 o2 : Nat) (v1 v2 : List Value) : w.grownBy ((w.drew.setCells g o1 v1).setCells g o2 v2) (some g) := by
  obtain ⟨h1, h2, h3, h4⟩ := setCells_env v1 w.drew g o1
  obtain ⟨k1, k2, k3, k4⟩ := setCells_env v2 (w.drew.setCells g o1 v1) g o2
  exact ⟨k1.trans h1, k2.trans h2, k3.trans h3, Nat.le_of_eq (k4.trans h4).symm, fun k hk hne => (setCells_oth _ _ g o2 k (fun e => hne (by rw [e]))).trans (setCells_oth _ _ g o1 k (fun e => hne (by rw [e])))⟩
theorem ins_size {n K i : Nat} (hi : i ≤ n) : (n + 1) * K = i * K + K + (n - i) * K := by
  rw [show n + 1 = i + 1 + (n - i) by omega, Nat.add_mul, Nat.succ_mul]
theorem own_slice9A {base n : Nat} {w : World} {e : TypeId} {k : Nat} {v : Value} {xs : List Value} (ho : w.ownsRow base e k v n xs) : ∃ a c, v = .slice a n c := by
  rcases ho.2 with ⟨h0, hz⟩ | ⟨g, cap, cu, h0, _⟩
  · exact ⟨none, 0, by rw [h0, hz]⟩
  · exact ⟨_, _, h0⟩

theorem infoAM : (Tryz.prog.info? 44).map (fun i => (i.zero, i.size, i.bytes)) = some (some (.agg #[.int .i64 0, .int .i64 0]), 2, 16) := by kernel_rfl
theorem sizeAM (w : World) : (Go.sizeOf 44).run Tryz.prog w = .ok 2 w := by kernel_rfl
theorem infAM : (Tryz.prog.info? 44).map (·.size) = some 2 := by kernel_rfl
theorem wpList_appAM {w : World} {ops : Array Oper} {rest : List Oper} {o : Oper} {a : Act} {Q : Exit → Act → World → Prop} (hgd : o.guard = none) (s x : Operand)
    (ho : o.op = .call { callee := .builtin .append, args := #[s, x], argTypes := #[23, 23] })
    (base : Nat) (v : Value) (n : Nat) (xs : List (Int × Int)) (hs : a.eval s = v) (hown : w.ownsRow base 44 2 v n (MarkS.flat xs))
    (src : Option Addr) (m c : Nat) (ys : List (Int × Int)) (hx : a.eval x = .slice src m c) (hb : VecAt MarkS w src m c ys)
    (h63 : (n + m) * 16 ≤ 140737488355328) (hbase : base ≤ w.heap.size)
    (h : ∀ v' w', w'.ownsRow base 44 2 v' (n + m) (MarkS.flat (xs ++ ys)) → w.grownBy w' v.ownBlock → wpList Tryz.prog ops Q rest (a.put o.dst v') w') : wpList Tryz.prog ops Q (o :: rest) a w := by
  obtain ⟨i0, hi, hz0, hz1, hz2⟩ := info_parts infoAM
  rcases src with _ | ad
  · have hc := hb.nl rfl
    have hm : m = 0 := by have := hb.cap; omega
    subst hm
    subst hc
    have hy : ys = [] := List.eq_nil_of_length_eq_zero hb.len
    subst hy
    refine wpList_append_own_none hgd s x 23 ho base 44 i0 2 Tryz.underlying23 hi v n (MarkS.flat xs) hs hown hx ?_
    exact h v w (by simpa using hown) (World.grownBy.refl _ _)
  · have hfl : MarkS.flat (xs ++ ys) = MarkS.flat xs ++ MarkS.flat ys := by unfold Sty.flat; rw [List.flatMap_append]
    refine wpList_append_own_at w hgd s x 23 ho base 44 i0 _ 2 16 Tryz.underlying23 hi hz0 hz1 hz2 rfl (by decide) v n (MarkS.flat xs) hs hown ad m c (MarkS.flat ys) hx (by rw [MarkS.flat_len, hb.len]; rfl) hb.src (MarkS.flat_one _) (by unfold maxLen; omega) h63 hbase ?_
    intro v' w' h1 h2 _ _
    exact h v' w' (by rw [hfl]; exact h1) h2
set_option maxRecDepth 100000 in
theorem fromAM (a : Option Addr) (n c i : Nat) (hi : i ≤ n) (w : World) :
    (Instr.slice 23 (.slice a n c) (some (.int .i64 (i : Int))) none none).run Tryz.prog w = .ok (.slice (if c = i then a else a.map (·.add (i * 2))) (n - i) (c - i)) w := by
  have ht' : Tryz.prog.underlying 23 = some (.slice (Tryz.prog.elem 23)) := by simp [Program.elem, Tryz.underlying23]
  have he : Tryz.prog.elem 23 = 44 := by simp [Program.elem, Tryz.underlying23]
  rw [run_slice_l w 23 _ _ _ ht' .i64 _ (by omega) (by omega), he, sizeAM]
  simp only [Result.andThen, sliced, Int.toNat_natCast]
theorem toAM (a : Option Addr) (n c i : Nat) (hi : i ≤ c) (w : World) :
    (Instr.slice 23 (.slice a n c) none (some (.int .i64 (i : Int))) none).run Tryz.prog w = .ok (.slice a i c) w := by
  have ht' : Tryz.prog.underlying 23 = some (.slice (Tryz.prog.elem 23)) := by simp [Program.elem, Tryz.underlying23]
  have he : Tryz.prog.elem 23 = 44 := by simp [Program.elem, Tryz.underlying23]
  rw [run_slice_h w 23 _ _ _ ht' .i64 _ (by omega) (by omega), he, sizeAM]
  have hz : a.map (·.add 0) = a := by
    cases a with
    | none => rfl
    | some x =>
      have : x.add 0 = x := by cases x; unfold Addr.add; split <;> simp_all
      simp [this]
  simp only [Result.andThen, sliced, Int.toNat_natCast, Nat.zero_mul, Nat.sub_zero]
  simp [hz]
/-- s[i:] of a row that is longer -/
theorem fromAM2 (g n c i : Nat) (hi : i ≤ n) (hc : i < c) (w : World) :
    (Instr.slice 23 (.slice (some ⟨g, 0, none⟩) n c) (some (.int .i64 (i : Int))) none none).run Tryz.prog w = .ok (.slice (some ⟨g, i * 2, none⟩) (n - i) (c - i)) w := by
  rw [fromAM _ n c i hi w, if_neg (by omega)]
  simp [Addr.add]
  intro h
  omega
/-- the thing put in lies in a block of its own -/
theorem vecAM {w : World} {vb : Nat} {x : (Int × Int)} (hv : w.heap[vb]? = some (.cells (MarkS.f x).toArray 44 (0, 0))) : VecAt MarkS w (some ⟨vb, 0, none⟩) 1 1 [x] :=
  ⟨rfl, Nat.le_refl _, by decide, (fun h => by cases h), (fun _ _ => trivial), fun _ => ⟨vb, 0, rfl, (Array.getElem?_eq_some_iff.1 hv).1, fun i hi j u hu => by
    obtain rfl : i = 0 := by omega
    rw [cell_of_row w _ _ _ _ (0, 0) hv]
    simp only [Nat.zero_mul, Nat.zero_add, List.getElem?_toArray]
    exact hu⟩⟩
set_option maxRecDepth 100000 in
set_option maxHeartbeats 2000000 in
/-- at the end -/
theorem ins_endM {w : World} {base n vb : Nat} {a : Option Addr} {c : Nat} {l : List (Int × Int)} {x : (Int × Int)} (h : w.ownsRow base 44 2 (.slice a n c) n (MarkS.flat l)) (hn : n ≤ 1000) (hbase : base ≤ w.heap.size) (hv : w.heap[vb]? = some (.cells (MarkS.f x).toArray 44 (0, 0))) :
    Calls Tryz.prog 61 #[.slice a n c, .int .i64 (n : Int), .slice (some ⟨vb, 0, none⟩) 1 1] w fun e w' => ∃ v', e = .returned v' ∧ w'.ownsRow base 44 2 v' (n + 1) (MarkS.flat (l ++ [x])) ∧ w.grownBy w' (Value.slice a n c).ownBlock := by
  have hsl := fromAM a n c n (Nat.le_refl _)
  obtain ⟨a5, ha5⟩ : ∃ a5, a5 = (if c = n then a else a.map (·.add (n * 2))) := ⟨_, rfl⟩
  rw [← ha5] at hsl
  have HVX := Lib.hid (vecAM hv)
  have HO := Lib.hid h
  have HBS := Lib.hid hbase
  clear ha5 hv h hbase
  go_enter Tryz.func61, Tryz.ntmps61
  go_wp2_with (at_builtin; refine wpList_appAM rfl _ _ rfl base _ n l rfl HO.out _ 1 1 [x] rfl HVX.out (by omega) HBS.out ?_; intro v' w' ho' hg'; have HO2 := Lib.hid ho'; have HG2 := Lib.hid hg'; obtain ⟨a', c', rfl⟩ := own_slice9A ho'; clear ho' hg')
  go_ret
  exact ⟨_, rfl, HO2.out, HG2.out⟩

set_option maxRecDepth 100000 in
set_option maxHeartbeats 4000000 in
/-- in place, where there is room -/
theorem ins_roomM {w : World} {base n i g vb : Nat} {c : Nat} {l : List (Int × Int)} {x : (Int × Int)} (h : w.ownsRow base 44 2 (.slice (some ⟨g, 0, none⟩) n c) n (MarkS.flat l)) (hl : l.length = n) (hi : i < n) (hr : n + 1 ≤ c) (hn : n ≤ 1000) (hv : w.heap[vb]? = some (.cells (MarkS.f x).toArray 44 (0, 0))) (hvb : vb ≠ g) :
    Calls Tryz.prog 61 #[.slice (some ⟨g, 0, none⟩) n c, .int .i64 (i : Int), .slice (some ⟨vb, 0, none⟩) 1 1] w fun e w' => ∃ v', e = .returned v' ∧ w'.ownsRow base 44 2 v' (n + 1) (MarkS.flat (l.take i ++ x :: l.drop i)) ∧ w.grownBy w' (some g) := by
  obtain ⟨g', cap, cur, he, hg, hh, hnc, hcm, hsz, htk⟩ : ∃ g' cap cur, (Value.slice (some ⟨g, 0, none⟩) n c) = .slice (some ⟨g', 0, none⟩) n cap ∧ base ≤ g' ∧ w.heap[g']? = some (.cells cur 44 (0, 0)) ∧ n ≤ cap ∧ cap ≤ maxLen ∧ cur.size = cap * 2 ∧ cur.toList.take (n * 2) = MarkS.flat l := by
    rcases h.2 with ⟨h0, _⟩ | ⟨g', cap, cur, q1, q2, q3, q4, q5, q6, q7⟩
    · cases h0
    · exact ⟨g', cap, cur, q1, q2, q3, q4, q5, q6, q7⟩
  cases he
  have hsz2 : cur.size = c * 2 := hsz
  have hc1 : (n + 1) * 2 ≤ c * 2 := Nat.mul_le_mul_right _ hr
  have hR : (MarkS.flat (l.drop i)).length = (n - i) * 2 := by rw [MarkS.flat_len, List.length_drop, hl]; rfl
  have hA : (MarkS.flat (l.take i)).length = i * 2 := by rw [MarkS.flat_len, List.length_take, hl, Nat.min_eq_left (by omega)]; rfl
  have hX : (MarkS.f x).length = 2 := rfl
  have hcur : ∀ k, k < n * 2 → cur[k]? = (MarkS.flat l)[k]? := fun k hk => by rw [← htk, List.getElem?_take, if_pos hk, Array.getElem?_toList]
  have hcell : ∀ j, j < c * 2 → (w.cell? ⟨g, j, none⟩).isSome = true := fun j hj => by
    rw [cell_of_row w _ _ _ _ (0, 0) hh, Array.getElem?_eq_getElem (by omega)]; rfl
  have hfz : ∀ j, w.frozen? ⟨g, j, none⟩ = false := fun j => fro_blk hh j
  obtain ⟨W1, hW1⟩ : ∃ W1, W1 = w.drew.setCells g ((i + 1) * 2) (MarkS.flat (l.drop i)) := ⟨_, rfl⟩
  have hh1 : W1.heap[g]? = some (.cells (setMm cur ((i + 1) * 2) (MarkS.flat (l.drop i))) 44 (0, 0)) := by rw [hW1]; exact setCells_blk _ w.drew g _ cur _ hh
  have HCP := Lib.hid (fun ty => fun dc => fun sc => (by
    rw [hW1]
    refine run_copyK w.drew 23 23 ty 44 g ((i + 1) * 2) (n - i) dc ⟨g, i * 2, none⟩ (n + 1 - i) sc (n - i) 2 (MarkS.flat (l.drop i)) Tryz.underlying23 infAM (by simp only [Nat.min_def]; split <;> omega) hR (fun j u hj => ?_) (fun j hj => ?_) (fun j hj => hfz _) (MarkS.flat_one _)
    · have hjl : j < (n - i) * 2 := by rw [← hR]; exact (List.getElem?_eq_some_iff.1 hj).1
      rw [Addr.add_lit]
      show w.cell? ⟨g, i * 2 + j, none⟩ = some u
      rw [cell_of_row w _ _ _ _ (0, 0) hh, hcur _ (by omega), MarkS.flat_cut l i, List.getElem?_append_right (by omega), hA, Nat.add_sub_cancel_left]
      exact hj
    · show (w.cell? ⟨g, (i + 1) * 2 + j, none⟩).isSome = true
      exact hcell _ (by omega) : (Builtin.copy_ #[23, 23] ty #[.slice (some ⟨g, (i + 1) * 2, none⟩) (n - i) dc, .slice (some ⟨g, i * 2, none⟩) (n + 1 - i) sc]).run Tryz.prog w.drew = .ok (goInt ((n - i : Nat) : Int)) W1))
  have HCQ := Lib.hid (fun ty => fun dc => (run_copyK W1 23 23 ty 44 g (i * 2) (n + 1 - i) dc ⟨vb, 0, none⟩ 1 1 1 2 (MarkS.f x) Tryz.underlying23 infAM (by simp only [Nat.min_def]; split <;> omega) (by rw [hX]) (fun j u hj => by
      rw [Addr.add_lit]
      have e1 : W1.heap[vb]? = some (.cells (MarkS.f x).toArray 44 (0, 0)) := by rw [hW1, setCells_oth _ _ _ _ _ hvb]; exact hv
      rw [cell_of_row W1 _ _ _ _ (0, 0) e1, Nat.zero_add, List.getElem?_toArray]
      exact hj) (fun j hj => by
      rw [cell_of_row W1 _ _ _ _ (0, 0) hh1, Array.getElem?_eq_getElem (by rw [setMm_size]; omega)]; rfl) (fun j hj => fro_blk hh1 _) (fun u hu => MarkS.one x u hu) : (Builtin.copy_ #[23, 23] ty #[.slice (some ⟨g, i * 2, none⟩) (n + 1 - i) dc, .slice (some ⟨vb, 0, none⟩) 1 1]).run Tryz.prog W1 = .ok (goInt 1) (W1.setCells g (i * 2) (MarkS.f x))))
  have HFO := Lib.hid (show (W1.setCells g (i * 2) (MarkS.f x)).ownsRow base 44 2 (.slice (some ⟨g, 0, none⟩) (n + 1) c) (n + 1) (MarkS.flat (l.take i ++ x :: l.drop i)) from by
    refine own_mk9 hg (setCells_blk _ W1 g _ _ _ hh1) hr hcm (by rw [setMm_size, setMm_size, hsz2]) ?_
    rw [ins_size (Nat.le_of_lt hi), Sty.flat_app, show MarkS.flat (x :: l.drop i) = MarkS.f x ++ MarkS.flat (l.drop i) from by unfold Sty.flat; rfl]
    have hs1 : (i + 1) * 2 + (MarkS.flat (l.drop i)).length ≤ cur.size := by omega
    have hs2 : i * 2 + (MarkS.f x).length ≤ (setMm cur ((i + 1) * 2) (MarkS.flat (l.drop i))).size := by rw [setMm_size]; omega
    refine take_ins hA hX hR (by rw [setMm_size, setMm_size]; omega) (fun k hk => ?_) (fun k h1 h2 => ?_) (fun k h1 h2 => ?_)
    · rw [setMm_off hs2 (.inl hk), setMm_off hs1 (.inl (by omega)), hcur k (by omega), MarkS.flat_cut l i, List.getElem?_append_left (by omega)]
    · rw [setMm_in hs2 h1 (by omega)]
    · rw [setMm_off hs2 (.inr (by omega)), setMm_in hs1 (by omega) (by omega)]
      congr 1
      omega)
  have HFG := Lib.hid (show w.grownBy (W1.setCells g (i * 2) (MarkS.f x)) (some g) from by rw [hW1]; exact grown_set2 w g _ _ _ _)
  have hov : (callFunc 78 #[.slice (some ⟨vb, 0, none⟩) 1 1, .slice (some ⟨g, (i + 1) * 2, none⟩) (n - i) (c - (i + 1))]).run Tryz.prog w = .ok (.value (.bool false)) w := by
    rw [run_callFunc_extern Tryz.func78 (by kernel_rfl) (by kernel_rfl) (by kernel_rfl) (e := Extern.SlicesOverlaps.overlaps #[23, 23] #[4]) (by kernel_rfl),
      Lib.run_overlaps_apart w 23 4 44 Tryz.underlying23 2 sizeAM ⟨vb, 0, none⟩ ⟨g, (i + 1) * 2, none⟩ 1 1 (n - i) (c - (i + 1)) hvb 44 44 2 (c * 2) (by simp [World.shape?, hv]; rfl) (by simp [World.shape?, hh, hsz2]) (by omega) (fro_blk hv 0) (fro_blk hv 2)]
    rfl
  have HS1 := Lib.hid (fun w => (by have := fromAM2 g (n + 1) c (i + 1) (by omega) (by omega) w; rw [show n + 1 - (i + 1) = n - i by omega] at this; push_cast at this; exact this : (Instr.slice 23 (.slice (some ⟨g, 0, none⟩) (n + 1) c) (some (.int .i64 ((i : Int) + 1))) none none).run Tryz.prog w = .ok (.slice (some ⟨g, (i + 1) * 2, none⟩) (n - i) (c - (i + 1))) w))
  have HS2 := Lib.hid (fun w => fromAM2 g (n + 1) c i (by omega) (by omega) w)
  have e0 := fromAM2 g n c i (by omega) (by omega) w
  have e1 : (Instr.slice 23 (.slice (some ⟨g, 0, none⟩) n c) none (some (.int .i64 ((n : Int) + 1))) none).run Tryz.prog w = .ok (.slice (some ⟨g, 0, none⟩) (n + 1) c) w := by have := toAM (some ⟨g, 0, none⟩) n c (n + 1) hr w; push_cast at this; exact this
  have e2 := HS1.out w
  have e3 := HS2.out W1
  have z1 : ((i : Int) == (n : Int)) = false := by rw [beq_eq_false_iff_ne]; omega
  have z2 : ¬ ((c : Int) < (n : Int) + 1) := by omega
  have w1 : IntKind.i64.wrap ((i : Int) + 1) = (i : Int) + 1 := IntWalk.i64_in _ (by omega)
  have w2 : IntKind.i64.wrap ((n : Int) + 1) = (n : Int) + 1 := IntWalk.i64_in _ (by omega)
  clear hcell hcur hfz hR hA hX hc1 hsz hsz2 htk hh hh1 hW1 hv h
  go_enter Tryz.func61, Tryz.ntmps61
  go_upto_region 15 with fail
  refine wp_region_chain2 (by kernel_rfl) (by kernel_rfl) (by kernel_rfl) [8] false (by kernel_rfl) (fun k _ y => match k with
      | 0 => y = w.drew
      | _ => y = W1) (fun y => y = w.drew) (fun j_9 => match j_9 with | 0 => some (.slice (some ⟨g, 0, none⟩) (n + 1) c) | 1 => some (.int .i64 (i : Int)) | 2 => some (.int .i64 1) | 3 => some (.int .i64 ((i : Int) + 1)) | 4 => some (.slice (some ⟨g, (i + 1) * 2, none⟩) (n - i) (c - (i + 1))) | 5 => some (.slice (some ⟨g, 0, none⟩) (n + 1) c) | 6 => some (.int .i64 (i : Int)) | 7 => some (.slice (some ⟨g, i * 2, none⟩) (n + 1 - i) (c - i)) | _ => none) (by rfl) (fun _ => rfl) (fun k u y hk9 _ hs => by
      have hk : k < 1 := hk9 rfl
      clear hk9
      match k, hk, hs with
      | 0, _, hs => exact hs) ?_ ?_ ?_
  · intro i9 o ho hc9 V w9 K hR9 hdep hK
    have HR9 := Lib.hid hR9
    have e4 := HS1.out w9
    have e7 := HS2.out w9
    clear hR9
    have hin9 : i9 < 9 := (Array.getElem?_eq_some_iff.1 ho).1
    have hcs : i9 = 0 ∨ i9 = 1 ∨ i9 = 2 ∨ i9 = 3 ∨ i9 = 4 ∨ i9 = 5 ∨ i9 = 6 ∨ i9 = 7 ∨ i9 = 8 := by omega
    clear hin9
    rcases hcs with rfl | rfl | rfl | rfl | rfl | rfl | rfl | rfl | rfl
    all_goals first
      | (cases hc9; done)
      | (obtain rfl := Option.some.inj ho.symm
         simp [KnB, Region.binds] at hdep
         clear ho hc9
         simp only [fill, slotOf, List.size_toArray, List.length_cons, List.length_nil, Nat.reduceAdd, List.getElem?_toArray, List.getElem?_cons_zero, List.getElem?_cons_succ, Option.bind_some, Act.put, List.setIfInBounds_toArray, List.set_cons_zero, List.set_cons_succ] at hK ⊢
         try simp only [hdep] at hK ⊢
         go_simp
         exact hK _ rfl _ rfl)
  · intro i9 j9 o he9 ho V w9 K hS9 hdep hK
    have hin9 : i9 < 1 := (List.getElem?_eq_some_iff.1 he9).1
    obtain rfl : i9 = 0 := by omega
    all_goals
      obtain rfl := Option.some.inj he9.symm
      obtain rfl := Option.some.inj ho.symm
      simp [KnB, Region.binds] at hdep
      clear ho he9
      simp only [fill, slotOf, List.size_toArray, List.length_cons, List.length_nil, Nat.reduceAdd, List.getElem?_toArray, List.getElem?_cons_zero, List.getElem?_cons_succ, Option.bind_some, Act.put, List.setIfInBounds_toArray, List.set_cons_zero, List.set_cons_succ] at hK ⊢
      try simp only [hdep] at hK ⊢
    · have e9 : w9 = w.drew := hS9
      subst e9
      exact step_copyK (by first | rfl | kernel_rfl) (.tmp 73) (.tmp 76) 23 23 rfl _ _ rfl rfl (HCP.out _ _ _) (hK _ _ rfl (fun y h => by cases h) _ rfl)
  · intro V wN hS9 hv9
    have e9 : wN = W1 := hS9
    clear hS9 hv9
    simp only [fill, slotOf, List.size_toArray, List.length_cons, List.length_nil, Nat.reduceAdd, List.getElem?_toArray, List.getElem?_cons_zero, List.getElem?_cons_succ, Option.bind_some, Act.put, List.setIfInBounds_toArray, List.set_cons_zero, List.set_cons_succ]
    rw [e9]
    clear e9
    have e5 := HCQ.out 3 (c - i)
    go_wp2_with fail
    go_ret
    exact ⟨_, rfl, HFO.out, HFG.out⟩

set_option maxRecDepth 100000 in
set_option maxHeartbeats 4000000 in
/-- a new row, where there is no room -/
theorem ins_growM {w : World} {base n i g vb : Nat} {c : Nat} {l : List (Int × Int)} {x : (Int × Int)} (h : w.ownsRow base 44 2 (.slice (some ⟨g, 0, none⟩) n c) n (MarkS.flat l)) (hl : l.length = n) (hi : i < n) (hr : c < n + 1) (hn : n ≤ 1000) (hbase : base ≤ w.heap.size) (hv : w.heap[vb]? = some (.cells (MarkS.f x).toArray 44 (0, 0))) :
    Calls Tryz.prog 61 #[.slice (some ⟨g, 0, none⟩) n c, .int .i64 (i : Int), .slice (some ⟨vb, 0, none⟩) 1 1] w fun e w' => ∃ v', e = .returned v' ∧ w'.ownsRow base 44 2 v' (n + 1) (MarkS.flat (l.take i ++ x :: l.drop i)) ∧ w.grownBy w' (some g) := by
  obtain ⟨g', cap, cur, he, hg, hh, hnc, hcm, hsz, htk⟩ : ∃ g' cap cur, (Value.slice (some ⟨g, 0, none⟩) n c) = .slice (some ⟨g', 0, none⟩) n cap ∧ base ≤ g' ∧ w.heap[g']? = some (.cells cur 44 (0, 0)) ∧ n ≤ cap ∧ cap ≤ maxLen ∧ cur.size = cap * 2 ∧ cur.toList.take (n * 2) = MarkS.flat l := by
    rcases h.2 with ⟨h0, _⟩ | ⟨g', cap, cur, q1, q2, q3, q4, q5, q6, q7⟩
    · cases h0
    · exact ⟨g', cap, cur, q1, q2, q3, q4, q5, q6, q7⟩
  cases he
  obtain ⟨i0, hi0, hz0, hzs, hzb⟩ := info_parts infoAM
  have hgw : g < w.heap.size := (Array.getElem?_eq_some_iff.1 hh).1
  have hvw : vb < w.heap.size := (Array.getElem?_eq_some_iff.1 hv).1
  have hR : (MarkS.flat (l.drop i)).length = (n - i) * 2 := by rw [MarkS.flat_len, List.length_drop, hl]; rfl
  have hA : (MarkS.flat (l.take i)).length = i * 2 := by rw [MarkS.flat_len, List.length_take, hl, Nat.min_eq_left (by omega)]; rfl
  have hX : (MarkS.f x).length = 2 := rfl
  have hcur : ∀ k, k < n * 2 → cur[k]? = (MarkS.flat l)[k]? := fun k hk => by rw [← htk, List.getElem?_take, if_pos hk, Array.getElem?_toList]
  have hold : (Builtin.firstCells i0.size i (.slice (some ⟨g, 0, none⟩) i c)).run Tryz.prog w.drew = .ok (MarkS.flat (l.take i)).toArray w.drew := by
    rw [hzs]
    exact run_firstCells_some w.drew 2 i ⟨g, 0, none⟩ i c _ hA (fun j u hj => by
      have hjl : j < i * 2 := by rw [← hA]; exact (List.getElem?_eq_some_iff.1 hj).1
      rw [Addr.add_lit, Nat.zero_add]
      show w.cell? ⟨g, j, none⟩ = some u
      rw [cell_of_row w _ _ _ _ (0, 0) hh, hcur _ (by omega), MarkS.flat_cut l i, List.getElem?_append_left (by omega)]
      exact hj)
  have hkk : (n : Int) + 1 - (i : Int) = ((n + 1 - i : Nat) : Int) := by omega
  have hik : i + (n + 1 - i) = n + 1 := by omega
  obtain ⟨G, hG⟩ : ∃ G, G = grownCap w (n + 1) c 44 := ⟨_, rfl⟩
  obtain ⟨ROW, hROW⟩ : ∃ ROW : Array Value, ROW = (MarkS.flat (l.take i)).toArray ++ Builtin.zeroCells (Value.agg #[.int .i64 0, .int .i64 0]).cells (n + 1 - i) ++ Builtin.zeroCells (Value.agg #[.int .i64 0, .int .i64 0]).cells (G - (n + 1)) := ⟨_, rfl⟩
  obtain ⟨W2, hW2⟩ : ∃ W2, W2 = w.drew.alloc (.cells ROW 44) := ⟨_, rfl⟩
  obtain ⟨N, hN⟩ : ∃ N, N = w.heap.size := ⟨_, rfl⟩
  have HRZ := Lib.hid (fun ty => (by
    have h9 := Lib.run_append_grow_zeros w 23 3 ty 44 i0 _ .i64 .i64 Tryz.underlying23 Tryz.underlying3 hi0 hz0 (some ⟨g, 0, none⟩) i c _ hold (n + 1 - i) (by omega) (by omega) (by omega) (by omega) (by rw [hzb]; omega) (by rw [hzb, hik]; exact growslice_fits hr (by omega))
    rw [hik] at h9
    rw [hkk, hW2, hROW, hG, hN]
    exact h9 : (Builtin.append_ #[23, 3] ty #[.slice (some ⟨g, 0, none⟩) i c, .int .i64 ((n : Int) + 1 - (i : Int))]).run Tryz.prog w = .ok (.slice (some ⟨N, 0, none⟩) (n + 1) G) W2))
  have hGn : n + 1 ≤ G := by rw [hG]; exact grownCap_ge w _ _ _
  have hGm : G ≤ maxLen := by rw [hG]; exact grownCap_le_maxLen w (n + 1) c 44 (by unfold maxLen; omega)
  have hRs : ROW.size = G * 2 := by
    rw [hROW]
    simp [Builtin.zeroCells, Value.cells, hA]
    omega
  have hh2 : W2.heap[N]? = some (.cells ROW 44 (0, 0)) := by rw [hW2, hN]; exact heap_alloc_new w.drew _
  have ho2 : ∀ k, k < w.heap.size → W2.heap[k]? = w.heap[k]? := fun k hk => by rw [hW2]; exact hao9 w.drew _ k hk
  obtain ⟨W3, hW3⟩ : ∃ W3, W3 = W2.setCells N (i * 2) (MarkS.f x) := ⟨_, rfl⟩
  have hh3 : W3.heap[N]? = some (.cells (setMm ROW (i * 2) (MarkS.f x)) 44 (0, 0)) := by rw [hW3]; exact setCells_blk _ W2 N _ ROW _ hh2
  have ho3 : ∀ k, k < w.heap.size → W3.heap[k]? = w.heap[k]? := fun k hk => by rw [hW3, setCells_oth _ _ _ _ _ (by omega)]; exact ho2 k hk
  obtain ⟨W4, hW4⟩ : ∃ W4, W4 = W3.drew.setCells N ((i + 1) * 2) (MarkS.flat (l.drop i)) := ⟨_, rfl⟩
  have HCQ := Lib.hid (fun ty => fun dc => (by
    rw [hW3]
    refine run_copyK W2 23 23 ty 44 N (i * 2) (n + 1 - i) dc ⟨vb, 0, none⟩ 1 1 1 2 (MarkS.f x) Tryz.underlying23 infAM (by simp only [Nat.min_def]; split <;> omega) (by rw [hX]) (fun j u hj => ?_) (fun j hj => ?_) (fun j hj => fro_blk hh2 _) (fun u hu => MarkS.one x u hu)
    · rw [Addr.add_lit, cell_of_row W2 _ _ _ _ (0, 0) ((ho2 vb hvw).trans hv), Nat.zero_add, List.getElem?_toArray]
      exact hj
    · rw [cell_of_row W2 _ _ _ _ (0, 0) hh2, Array.getElem?_eq_getElem (by omega)]; rfl : (Builtin.copy_ #[23, 23] ty #[.slice (some ⟨N, i * 2, none⟩) (n + 1 - i) dc, .slice (some ⟨vb, 0, none⟩) 1 1]).run Tryz.prog W2 = .ok (goInt 1) W3))
  have HCP := Lib.hid (fun ty => fun dc => fun sc => (by
    rw [hW4]
    refine run_copyK W3.drew 23 23 ty 44 N ((i + 1) * 2) (n - i) dc ⟨g, i * 2, none⟩ (n - i) sc (n - i) 2 (MarkS.flat (l.drop i)) Tryz.underlying23 infAM (Nat.min_self _) hR (fun j u hj => ?_) (fun j hj => ?_) (fun j hj => fro_blk (w := W3) hh3 _) (MarkS.flat_one _)
    · have hjl : j < (n - i) * 2 := by rw [← hR]; exact (List.getElem?_eq_some_iff.1 hj).1
      rw [Addr.add_lit]
      show W3.cell? ⟨g, i * 2 + j, none⟩ = some u
      rw [cell_of_row W3 _ _ _ _ (0, 0) ((ho3 g hgw).trans hh), hcur _ (by omega), MarkS.flat_cut l i, List.getElem?_append_right (by omega), hA, Nat.add_sub_cancel_left]
      exact hj
    · show (W3.cell? ⟨N, (i + 1) * 2 + j, none⟩).isSome = true
      rw [cell_of_row W3 _ _ _ _ (0, 0) hh3, Array.getElem?_eq_getElem (by rw [setMm_size]; omega)]; rfl : (Builtin.copy_ #[23, 23] ty #[.slice (some ⟨N, (i + 1) * 2, none⟩) (n - i) dc, .slice (some ⟨g, i * 2, none⟩) (n - i) sc]).run Tryz.prog W3.drew = .ok (goInt ((n - i : Nat) : Int)) W4))
  have HFO := Lib.hid (show W4.ownsRow base 44 2 (.slice (some ⟨N, 0, none⟩) (n + 1) G) (n + 1) (MarkS.flat (l.take i ++ x :: l.drop i)) from by
    have hh4 : W4.heap[N]? = some (.cells (setMm (setMm ROW (i * 2) (MarkS.f x)) ((i + 1) * 2) (MarkS.flat (l.drop i))) 44 (0, 0)) := by rw [hW4]; exact setCells_blk _ W3.drew N _ _ _ hh3
    refine own_mk9 (by omega) hh4 hGn hGm (by rw [setMm_size, setMm_size, hRs]) ?_
    rw [ins_size (Nat.le_of_lt hi), Sty.flat_app, show MarkS.flat (x :: l.drop i) = MarkS.f x ++ MarkS.flat (l.drop i) from by unfold Sty.flat; rfl]
    have hs1 : i * 2 + (MarkS.f x).length ≤ ROW.size := by omega
    have hs2 : (i + 1) * 2 + (MarkS.flat (l.drop i)).length ≤ (setMm ROW (i * 2) (MarkS.f x)).size := by rw [setMm_size]; omega
    refine take_ins hA hX hR (by rw [setMm_size, setMm_size]; omega) (fun k hk => ?_) (fun k h1 h2 => ?_) (fun k h1 h2 => ?_)
    · rw [setMm_off hs2 (.inl (by omega)), setMm_off hs1 (.inl hk), hROW, Array.getElem?_append_left (by simp [hA]; omega), Array.getElem?_append_left (by simp [hA]; omega), List.getElem?_toArray]
    · rw [setMm_off hs2 (.inl (by omega)), setMm_in hs1 h1 (by omega)]
    · rw [setMm_in hs2 (by omega) (by omega)]
      congr 1
      omega)
  have HFG := Lib.hid (show w.grownBy W4 (some g) from by
    obtain ⟨p1, p2, p3, p4⟩ := setCells_env (MarkS.f x) W2 N (i * 2)
    obtain ⟨q1, q2, q3, q4⟩ := setCells_env (MarkS.flat (l.drop i)) W3.drew N ((i + 1) * 2)
    rw [← hW3] at p1 p2 p3 p4
    rw [← hW4] at q1 q2 q3 q4
    have e2 : W2.os = w.os ∧ W2.tape = w.tape ∧ W2.output = w.output ∧ w.heap.size ≤ W2.heap.size := by rw [hW2]; exact ⟨rfl, rfl, rfl, by simp⟩
    exact ⟨(q1.trans p1).trans e2.1, (q2.trans p2).trans e2.2.1, (q3.trans p3).trans e2.2.2.1, Nat.le_trans e2.2.2.2 (Nat.le_of_eq (q4.trans p4).symm), fun k hk _ => by
      rw [hW4, setCells_oth _ _ _ _ _ (by omega)]
      exact ho3 k hk⟩)
  have HS1 := Lib.hid (fun w => (by have := fromAM2 N (n + 1) G (i + 1) (by omega) (by omega) w; rw [show n + 1 - (i + 1) = n - i by omega] at this; push_cast at this; exact this : (Instr.slice 23 (.slice (some ⟨N, 0, none⟩) (n + 1) G) (some (.int .i64 ((i : Int) + 1))) none none).run Tryz.prog w = .ok (.slice (some ⟨N, (i + 1) * 2, none⟩) (n - i) (G - (i + 1))) w))
  have HS2 := Lib.hid (fun w => fromAM2 g n c i (by omega) (by omega) w)
  have e0 := HS2.out w
  have e1 := toAM (some ⟨g, 0, none⟩) n c i (by omega) w
  have e2 := fromAM2 N (n + 1) G i (by omega) (by omega) W2
  have e5 := HCQ.out 3 (G - i)
  have z1 : ((i : Int) == (n : Int)) = false := by rw [beq_eq_false_iff_ne]; omega
  have z2 : decide ((c : Int) < (n : Int) + 1) = true := decide_eq_true (by omega)
  have z3 : (c : Int) < (n : Int) + 1 := by omega
  have w1 : IntKind.i64.wrap ((i : Int) + 1) = (i : Int) + 1 := IntWalk.i64_in _ (by omega)
  have w2 : IntKind.i64.wrap ((n : Int) + 1) = (n : Int) + 1 := IntWalk.i64_in _ (by omega)
  have w3 : IntKind.i64.wrap ((n : Int) + 1 - (i : Int)) = (n : Int) + 1 - (i : Int) := IntWalk.i64_in _ (by omega)
  clear hcur hR hA hX hsz htk hh hh2 hh3 ho2 ho3 hW2 hW3 hW4 hROW hRs hG hGm hN hold hkk hik hi0 hz0 hzs hzb hv hvw hgw h
  go_enter Tryz.func61, Tryz.ntmps61
  go_upto_region 9 with fail
  go_wp2_with (at_builtin; refine Lib.wpList_append_run _ rfl _ _ _ _ rfl _ _ rfl rfl _ _ (HRZ.out _) ?_)
  refine wp_region_chain2 (by kernel_rfl) (by kernel_rfl) (by kernel_rfl) [8] false (by kernel_rfl) (fun k _ y => match k with
      | 0 => y = W3.drew
      | _ => y = W4) (fun y => y = W3.drew) (fun j_9 => match j_9 with | 0 => some (.slice (some ⟨N, 0, none⟩) (n + 1) G) | 1 => some (.int .i64 (i : Int)) | 2 => some (.int .i64 1) | 3 => some (.int .i64 ((i : Int) + 1)) | 4 => some (.slice (some ⟨N, (i + 1) * 2, none⟩) (n - i) (G - (i + 1))) | 5 => some (.slice (some ⟨g, 0, none⟩) n c) | 6 => some (.int .i64 (i : Int)) | 7 => some (.slice (some ⟨g, i * 2, none⟩) (n - i) (c - i)) | _ => none) (by rfl) (fun _ => rfl) (fun k u y hk9 _ hs => by
      have hk : k < 1 := hk9 rfl
      clear hk9
      match k, hk, hs with
      | 0, _, hs => exact hs) ?_ ?_ ?_
  · intro i9 o ho hc9 V w9 K hR9 hdep hK
    have HR9 := Lib.hid hR9
    have e4 := HS1.out w9
    have e7 := HS2.out w9
    clear hR9
    have hin9 : i9 < 9 := (Array.getElem?_eq_some_iff.1 ho).1
    have hcs : i9 = 0 ∨ i9 = 1 ∨ i9 = 2 ∨ i9 = 3 ∨ i9 = 4 ∨ i9 = 5 ∨ i9 = 6 ∨ i9 = 7 ∨ i9 = 8 := by omega
    clear hin9
    rcases hcs with rfl | rfl | rfl | rfl | rfl | rfl | rfl | rfl | rfl
    all_goals first
      | (cases hc9; done)
      | (obtain rfl := Option.some.inj ho.symm
         simp [KnB, Region.binds] at hdep
         clear ho hc9
         simp only [fill, slotOf, List.size_toArray, List.length_cons, List.length_nil, Nat.reduceAdd, List.getElem?_toArray, List.getElem?_cons_zero, List.getElem?_cons_succ, Option.bind_some, Act.put, List.setIfInBounds_toArray, List.set_cons_zero, List.set_cons_succ] at hK ⊢
         try simp only [hdep] at hK ⊢
         go_simp
         exact hK _ rfl _ rfl)
  · intro i9 j9 o he9 ho V w9 K hS9 hdep hK
    have hin9 : i9 < 1 := (List.getElem?_eq_some_iff.1 he9).1
    obtain rfl : i9 = 0 := by omega
    all_goals
      obtain rfl := Option.some.inj he9.symm
      obtain rfl := Option.some.inj ho.symm
      simp [KnB, Region.binds] at hdep
      clear ho he9
      simp only [fill, slotOf, List.size_toArray, List.length_cons, List.length_nil, Nat.reduceAdd, List.getElem?_toArray, List.getElem?_cons_zero, List.getElem?_cons_succ, Option.bind_some, Act.put, List.setIfInBounds_toArray, List.set_cons_zero, List.set_cons_succ] at hK ⊢
      try simp only [hdep] at hK ⊢
    · have e9 : w9 = W3.drew := hS9
      subst e9
      exact step_copyK (by first | rfl | kernel_rfl) (.tmp 50) (.tmp 53) 23 23 rfl _ _ rfl rfl (HCP.out _ _ _) (hK _ _ rfl (fun y h => by cases h) _ rfl)
  · intro V wN hS9 hv9
    have e9 : wN = W4 := hS9
    clear hS9 hv9
    simp only [fill, slotOf, List.size_toArray, List.length_cons, List.length_nil, Nat.reduceAdd, List.getElem?_toArray, List.getElem?_cons_zero, List.getElem?_cons_succ, Option.bind_some, Act.put, List.setIfInBounds_toArray, List.set_cons_zero, List.set_cons_succ]
    rw [e9]
    clear e9
    go_wp2_with fail
    go_ret
    exact ⟨_, rfl, HFO.out, HFG.out⟩

theorem infoAO : (Tryz.prog.info? 29).map (fun i => (i.zero, i.size, i.bytes)) = some (some (.agg #[.int .i64 0, .int .i64 0, .int .i64 0]), 3, 24) := by kernel_rfl
theorem sizeAO (w : World) : (Go.sizeOf 29).run Tryz.prog w = .ok 3 w := by kernel_rfl
theorem infAO : (Tryz.prog.info? 29).map (·.size) = some 3 := by kernel_rfl
theorem wpList_appAO {w : World} {ops : Array Oper} {rest : List Oper} {o : Oper} {a : Act} {Q : Exit → Act → World → Prop} (hgd : o.guard = none) (s x : Operand)
    (ho : o.op = .call { callee := .builtin .append, args := #[s, x], argTypes := #[24, 24] })
    (base : Nat) (v : Value) (n : Nat) (xs : List (Int × Int × Int)) (hs : a.eval s = v) (hown : w.ownsRow base 29 3 v n (OwnS.flat xs))
    (src : Option Addr) (m c : Nat) (ys : List (Int × Int × Int)) (hx : a.eval x = .slice src m c) (hb : VecAt OwnS w src m c ys)
    (h63 : (n + m) * 24 ≤ 140737488355328) (hbase : base ≤ w.heap.size)
    (h : ∀ v' w', w'.ownsRow base 29 3 v' (n + m) (OwnS.flat (xs ++ ys)) → w.grownBy w' v.ownBlock → wpList Tryz.prog ops Q rest (a.put o.dst v') w') : wpList Tryz.prog ops Q (o :: rest) a w := by
  obtain ⟨i0, hi, hz0, hz1, hz2⟩ := info_parts infoAO
  rcases src with _ | ad
  · have hc := hb.nl rfl
    have hm : m = 0 := by have := hb.cap; omega
    subst hm
    subst hc
    have hy : ys = [] := List.eq_nil_of_length_eq_zero hb.len
    subst hy
    refine wpList_append_own_none hgd s x 24 ho base 29 i0 3 Tryz.underlying24 hi v n (OwnS.flat xs) hs hown hx ?_
    exact h v w (by simpa using hown) (World.grownBy.refl _ _)
  · have hfl : OwnS.flat (xs ++ ys) = OwnS.flat xs ++ OwnS.flat ys := by unfold Sty.flat; rw [List.flatMap_append]
    refine wpList_append_own_at w hgd s x 24 ho base 29 i0 _ 3 24 Tryz.underlying24 hi hz0 hz1 hz2 rfl (by decide) v n (OwnS.flat xs) hs hown ad m c (OwnS.flat ys) hx (by rw [OwnS.flat_len, hb.len]; rfl) hb.src (OwnS.flat_one _) (by unfold maxLen; omega) h63 hbase ?_
    intro v' w' h1 h2 _ _
    exact h v' w' (by rw [hfl]; exact h1) h2
set_option maxRecDepth 100000 in
theorem fromAO (a : Option Addr) (n c i : Nat) (hi : i ≤ n) (w : World) :
    (Instr.slice 24 (.slice a n c) (some (.int .i64 (i : Int))) none none).run Tryz.prog w = .ok (.slice (if c = i then a else a.map (·.add (i * 3))) (n - i) (c - i)) w := by
  have ht' : Tryz.prog.underlying 24 = some (.slice (Tryz.prog.elem 24)) := by simp [Program.elem, Tryz.underlying24]
  have he : Tryz.prog.elem 24 = 29 := by simp [Program.elem, Tryz.underlying24]
  rw [run_slice_l w 24 _ _ _ ht' .i64 _ (by omega) (by omega), he, sizeAO]
  simp only [Result.andThen, sliced, Int.toNat_natCast]
theorem toAO (a : Option Addr) (n c i : Nat) (hi : i ≤ c) (w : World) :
    (Instr.slice 24 (.slice a n c) none (some (.int .i64 (i : Int))) none).run Tryz.prog w = .ok (.slice a i c) w := by
  have ht' : Tryz.prog.underlying 24 = some (.slice (Tryz.prog.elem 24)) := by simp [Program.elem, Tryz.underlying24]
  have he : Tryz.prog.elem 24 = 29 := by simp [Program.elem, Tryz.underlying24]
  rw [run_slice_h w 24 _ _ _ ht' .i64 _ (by omega) (by omega), he, sizeAO]
  have hz : a.map (·.add 0) = a := by
    cases a with
    | none => rfl
    | some x =>
      have : x.add 0 = x := by cases x; unfold Addr.add; split <;> simp_all
      simp [this]
  simp only [Result.andThen, sliced, Int.toNat_natCast, Nat.zero_mul, Nat.sub_zero]
  simp [hz]
/-- s[i:] of a row that is longer -/
theorem fromAO2 (g n c i : Nat) (hi : i ≤ n) (hc : i < c) (w : World) :
    (Instr.slice 24 (.slice (some ⟨g, 0, none⟩) n c) (some (.int .i64 (i : Int))) none none).run Tryz.prog w = .ok (.slice (some ⟨g, i * 3, none⟩) (n - i) (c - i)) w := by
  rw [fromAO _ n c i hi w, if_neg (by omega)]
  simp [Addr.add]
  intro h
  omega
/-- the thing put in lies in a block of its own -/
theorem vecAO {w : World} {vb : Nat} {x : (Int × Int × Int)} (hv : w.heap[vb]? = some (.cells (OwnS.f x).toArray 29 (0, 0))) : VecAt OwnS w (some ⟨vb, 0, none⟩) 1 1 [x] :=
  ⟨rfl, Nat.le_refl _, by decide, (fun h => by cases h), (fun _ _ => trivial), fun _ => ⟨vb, 0, rfl, (Array.getElem?_eq_some_iff.1 hv).1, fun i hi j u hu => by
    obtain rfl : i = 0 := by omega
    rw [cell_of_row w _ _ _ _ (0, 0) hv]
    simp only [Nat.zero_mul, Nat.zero_add, List.getElem?_toArray]
    exact hu⟩⟩
set_option maxRecDepth 100000 in
set_option maxHeartbeats 2000000 in
/-- at the end -/
theorem ins_endO {w : World} {base n vb : Nat} {a : Option Addr} {c : Nat} {l : List (Int × Int × Int)} {x : (Int × Int × Int)} (h : w.ownsRow base 29 3 (.slice a n c) n (OwnS.flat l)) (hn : n ≤ 1000) (hbase : base ≤ w.heap.size) (hv : w.heap[vb]? = some (.cells (OwnS.f x).toArray 29 (0, 0))) :
    Calls Tryz.prog 64 #[.slice a n c, .int .i64 (n : Int), .slice (some ⟨vb, 0, none⟩) 1 1] w fun e w' => ∃ v', e = .returned v' ∧ w'.ownsRow base 29 3 v' (n + 1) (OwnS.flat (l ++ [x])) ∧ w.grownBy w' (Value.slice a n c).ownBlock := by
  have hsl := fromAO a n c n (Nat.le_refl _)
  obtain ⟨a5, ha5⟩ : ∃ a5, a5 = (if c = n then a else a.map (·.add (n * 3))) := ⟨_, rfl⟩
  rw [← ha5] at hsl
  have HVX := Lib.hid (vecAO hv)
  have HO := Lib.hid h
  have HBS := Lib.hid hbase
  clear ha5 hv h hbase
  go_enter Tryz.func64, Tryz.ntmps64
  go_wp2_with (at_builtin; refine wpList_appAO rfl _ _ rfl base _ n l rfl HO.out _ 1 1 [x] rfl HVX.out (by omega) HBS.out ?_; intro v' w' ho' hg'; have HO2 := Lib.hid ho'; have HG2 := Lib.hid hg'; obtain ⟨a', c', rfl⟩ := own_slice9A ho'; clear ho' hg')
  go_ret
  exact ⟨_, rfl, HO2.out, HG2.out⟩

set_option maxRecDepth 100000 in
set_option maxHeartbeats 4000000 in
/-- in place, where there is room -/
theorem ins_roomO {w : World} {base n i g vb : Nat} {c : Nat} {l : List (Int × Int × Int)} {x : (Int × Int × Int)} (h : w.ownsRow base 29 3 (.slice (some ⟨g, 0, none⟩) n c) n (OwnS.flat l)) (hl : l.length = n) (hi : i < n) (hr : n + 1 ≤ c) (hn : n ≤ 1000) (hv : w.heap[vb]? = some (.cells (OwnS.f x).toArray 29 (0, 0))) (hvb : vb ≠ g) :
    Calls Tryz.prog 64 #[.slice (some ⟨g, 0, none⟩) n c, .int .i64 (i : Int), .slice (some ⟨vb, 0, none⟩) 1 1] w fun e w' => ∃ v', e = .returned v' ∧ w'.ownsRow base 29 3 v' (n + 1) (OwnS.flat (l.take i ++ x :: l.drop i)) ∧ w.grownBy w' (some g) := by
  obtain ⟨g', cap, cur, he, hg, hh, hnc, hcm, hsz, htk⟩ : ∃ g' cap cur, (Value.slice (some ⟨g, 0, none⟩) n c) = .slice (some ⟨g', 0, none⟩) n cap ∧ base ≤ g' ∧ w.heap[g']? = some (.cells cur 29 (0, 0)) ∧ n ≤ cap ∧ cap ≤ maxLen ∧ cur.size = cap * 3 ∧ cur.toList.take (n * 3) = OwnS.flat l := by
    rcases h.2 with ⟨h0, _⟩ | ⟨g', cap, cur, q1, q2, q3, q4, q5, q6, q7⟩
    · cases h0
    · exact ⟨g', cap, cur, q1, q2, q3, q4, q5, q6, q7⟩
  cases he
  have hsz2 : cur.size = c * 3 := hsz
  have hc1 : (n + 1) * 3 ≤ c * 3 := Nat.mul_le_mul_right _ hr
  have hR : (OwnS.flat (l.drop i)).length = (n - i) * 3 := by rw [OwnS.flat_len, List.length_drop, hl]; rfl
  have hA : (OwnS.flat (l.take i)).length = i * 3 := by rw [OwnS.flat_len, List.length_take, hl, Nat.min_eq_left (by omega)]; rfl
  have hX : (OwnS.f x).length = 3 := rfl
  have hcur : ∀ k, k < n * 3 → cur[k]? = (OwnS.flat l)[k]? := fun k hk => by rw [← htk, List.getElem?_take, if_pos hk, Array.getElem?_toList]
  have hcell : ∀ j, j < c * 3 → (w.cell? ⟨g, j, none⟩).isSome = true := fun j hj => by
    rw [cell_of_row w _ _ _ _ (0, 0) hh, Array.getElem?_eq_getElem (by omega)]; rfl
  have hfz : ∀ j, w.frozen? ⟨g, j, none⟩ = false := fun j => fro_blk hh j
  obtain ⟨W1, hW1⟩ : ∃ W1, W1 = w.drew.setCells g ((i + 1) * 3) (OwnS.flat (l.drop i)) := ⟨_, rfl⟩
  have hh1 : W1.heap[g]? = some (.cells (setMm cur ((i + 1) * 3) (OwnS.flat (l.drop i))) 29 (0, 0)) := by rw [hW1]; exact setCells_blk _ w.drew g _ cur _ hh
  have HCP := Lib.hid (fun ty => fun dc => fun sc => (by
    rw [hW1]
    refine run_copyK w.drew 24 24 ty 29 g ((i + 1) * 3) (n - i) dc ⟨g, i * 3, none⟩ (n + 1 - i) sc (n - i) 3 (OwnS.flat (l.drop i)) Tryz.underlying24 infAO (by simp only [Nat.min_def]; split <;> omega) hR (fun j u hj => ?_) (fun j hj => ?_) (fun j hj => hfz _) (OwnS.flat_one _)
    · have hjl : j < (n - i) * 3 := by rw [← hR]; exact (List.getElem?_eq_some_iff.1 hj).1
      rw [Addr.add_lit]
      show w.cell? ⟨g, i * 3 + j, none⟩ = some u
      rw [cell_of_row w _ _ _ _ (0, 0) hh, hcur _ (by omega), OwnS.flat_cut l i, List.getElem?_append_right (by omega), hA, Nat.add_sub_cancel_left]
      exact hj
    · show (w.cell? ⟨g, (i + 1) * 3 + j, none⟩).isSome = true
      exact hcell _ (by omega) : (Builtin.copy_ #[24, 24] ty #[.slice (some ⟨g, (i + 1) * 3, none⟩) (n - i) dc, .slice (some ⟨g, i * 3, none⟩) (n + 1 - i) sc]).run Tryz.prog w.drew = .ok (goInt ((n - i : Nat) : Int)) W1))
  have HCQ := Lib.hid (fun ty => fun dc => (run_copyK W1 24 24 ty 29 g (i * 3) (n + 1 - i) dc ⟨vb, 0, none⟩ 1 1 1 3 (OwnS.f x) Tryz.underlying24 infAO (by simp only [Nat.min_def]; split <;> omega) (by rw [hX]) (fun j u hj => by
      rw [Addr.add_lit]
      have e1 : W1.heap[vb]? = some (.cells (OwnS.f x).toArray 29 (0, 0)) := by rw [hW1, setCells_oth _ _ _ _ _ hvb]; exact hv
      rw [cell_of_row W1 _ _ _ _ (0, 0) e1, Nat.zero_add, List.getElem?_toArray]
      exact hj) (fun j hj => by
      rw [cell_of_row W1 _ _ _ _ (0, 0) hh1, Array.getElem?_eq_getElem (by rw [setMm_size]; omega)]; rfl) (fun j hj => fro_blk hh1 _) (fun u hu => OwnS.one x u hu) : (Builtin.copy_ #[24, 24] ty #[.slice (some ⟨g, i * 3, none⟩) (n + 1 - i) dc, .slice (some ⟨vb, 0, none⟩) 1 1]).run Tryz.prog W1 = .ok (goInt 1) (W1.setCells g (i * 3) (OwnS.f x))))
  have HFO := Lib.hid (show (W1.setCells g (i * 3) (OwnS.f x)).ownsRow base 29 3 (.slice (some ⟨g, 0, none⟩) (n + 1) c) (n + 1) (OwnS.flat (l.take i ++ x :: l.drop i)) from by
    refine own_mk9 hg (setCells_blk _ W1 g _ _ _ hh1) hr hcm (by rw [setMm_size, setMm_size, hsz2]) ?_
    rw [ins_size (Nat.le_of_lt hi), Sty.flat_app, show OwnS.flat (x :: l.drop i) = OwnS.f x ++ OwnS.flat (l.drop i) from by unfold Sty.flat; rfl]
    have hs1 : (i + 1) * 3 + (OwnS.flat (l.drop i)).length ≤ cur.size := by omega
    have hs2 : i * 3 + (OwnS.f x).length ≤ (setMm cur ((i + 1) * 3) (OwnS.flat (l.drop i))).size := by rw [setMm_size]; omega
    refine take_ins hA hX hR (by rw [setMm_size, setMm_size]; omega) (fun k hk => ?_) (fun k h1 h2 => ?_) (fun k h1 h2 => ?_)
    · rw [setMm_off hs2 (.inl hk), setMm_off hs1 (.inl (by omega)), hcur k (by omega), OwnS.flat_cut l i, List.getElem?_append_left (by omega)]
    · rw [setMm_in hs2 h1 (by omega)]
    · rw [setMm_off hs2 (.inr (by omega)), setMm_in hs1 (by omega) (by omega)]
      congr 1
      omega)
  have HFG := Lib.hid (show w.grownBy (W1.setCells g (i * 3) (OwnS.f x)) (some g) from by rw [hW1]; exact grown_set2 w g _ _ _ _)
  have hov : (callFunc 81 #[.slice (some ⟨vb, 0, none⟩) 1 1, .slice (some ⟨g, (i + 1) * 3, none⟩) (n - i) (c - (i + 1))]).run Tryz.prog w = .ok (.value (.bool false)) w := by
    rw [run_callFunc_extern Tryz.func81 (by kernel_rfl) (by kernel_rfl) (by kernel_rfl) (e := Extern.SlicesOverlaps.overlaps #[24, 24] #[4]) (by kernel_rfl),
      Lib.run_overlaps_apart w 24 4 29 Tryz.underlying24 3 sizeAO ⟨vb, 0, none⟩ ⟨g, (i + 1) * 3, none⟩ 1 1 (n - i) (c - (i + 1)) hvb 29 29 3 (c * 3) (by simp [World.shape?, hv]; rfl) (by simp [World.shape?, hh, hsz2]) (by omega) (fro_blk hv 0) (fro_blk hv 3)]
    rfl
  have HS1 := Lib.hid (fun w => (by have := fromAO2 g (n + 1) c (i + 1) (by omega) (by omega) w; rw [show n + 1 - (i + 1) = n - i by omega] at this; push_cast at this; exact this : (Instr.slice 24 (.slice (some ⟨g, 0, none⟩) (n + 1) c) (some (.int .i64 ((i : Int) + 1))) none none).run Tryz.prog w = .ok (.slice (some ⟨g, (i + 1) * 3, none⟩) (n - i) (c - (i + 1))) w))
  have HS2 := Lib.hid (fun w => fromAO2 g (n + 1) c i (by omega) (by omega) w)
  have e0 := fromAO2 g n c i (by omega) (by omega) w
  have e1 : (Instr.slice 24 (.slice (some ⟨g, 0, none⟩) n c) none (some (.int .i64 ((n : Int) + 1))) none).run Tryz.prog w = .ok (.slice (some ⟨g, 0, none⟩) (n + 1) c) w := by have := toAO (some ⟨g, 0, none⟩) n c (n + 1) hr w; push_cast at this; exact this
  have e2 := HS1.out w
  have e3 := HS2.out W1
  have z1 : ((i : Int) == (n : Int)) = false := by rw [beq_eq_false_iff_ne]; omega
  have z2 : ¬ ((c : Int) < (n : Int) + 1) := by omega
  have w1 : IntKind.i64.wrap ((i : Int) + 1) = (i : Int) + 1 := IntWalk.i64_in _ (by omega)
  have w2 : IntKind.i64.wrap ((n : Int) + 1) = (n : Int) + 1 := IntWalk.i64_in _ (by omega)
  clear hcell hcur hfz hR hA hX hc1 hsz hsz2 htk hh hh1 hW1 hv h
  go_enter Tryz.func64, Tryz.ntmps64
  go_upto_region 15 with fail
  refine wp_region_chain2 (by kernel_rfl) (by kernel_rfl) (by kernel_rfl) [8] false (by kernel_rfl) (fun k _ y => match k with
      | 0 => y = w.drew
      | _ => y = W1) (fun y => y = w.drew) (fun j_9 => match j_9 with | 0 => some (.slice (some ⟨g, 0, none⟩) (n + 1) c) | 1 => some (.int .i64 (i : Int)) | 2 => some (.int .i64 1) | 3 => some (.int .i64 ((i : Int) + 1)) | 4 => some (.slice (some ⟨g, (i + 1) * 3, none⟩) (n - i) (c - (i + 1))) | 5 => some (.slice (some ⟨g, 0, none⟩) (n + 1) c) | 6 => some (.int .i64 (i : Int)) | 7 => some (.slice (some ⟨g, i * 3, none⟩) (n + 1 - i) (c - i)) | _ => none) (by rfl) (fun _ => rfl) (fun k u y hk9 _ hs => by
      have hk : k < 1 := hk9 rfl
      clear hk9
      match k, hk, hs with
      | 0, _, hs => exact hs) ?_ ?_ ?_
  · intro i9 o ho hc9 V w9 K hR9 hdep hK
    have HR9 := Lib.hid hR9
    have e4 := HS1.out w9
    have e7 := HS2.out w9
    clear hR9
    have hin9 : i9 < 9 := (Array.getElem?_eq_some_iff.1 ho).1
    have hcs : i9 = 0 ∨ i9 = 1 ∨ i9 = 2 ∨ i9 = 3 ∨ i9 = 4 ∨ i9 = 5 ∨ i9 = 6 ∨ i9 = 7 ∨ i9 = 8 := by omega
    clear hin9
    rcases hcs with rfl | rfl | rfl | rfl | rfl | rfl | rfl | rfl | rfl
    all_goals first
      | (cases hc9; done)
      | (obtain rfl := Option.some.inj ho.symm
         simp [KnB, Region.binds] at hdep
         clear ho hc9
         simp only [fill, slotOf, List.size_toArray, List.length_cons, List.length_nil, Nat.reduceAdd, List.getElem?_toArray, List.getElem?_cons_zero, List.getElem?_cons_succ, Option.bind_some, Act.put, List.setIfInBounds_toArray, List.set_cons_zero, List.set_cons_succ] at hK ⊢
         try simp only [hdep] at hK ⊢
         go_simp
         exact hK _ rfl _ rfl)
  · intro i9 j9 o he9 ho V w9 K hS9 hdep hK
    have hin9 : i9 < 1 := (List.getElem?_eq_some_iff.1 he9).1
    obtain rfl : i9 = 0 := by omega
    all_goals
      obtain rfl := Option.some.inj he9.symm
      obtain rfl := Option.some.inj ho.symm
      simp [KnB, Region.binds] at hdep
      clear ho he9
      simp only [fill, slotOf, List.size_toArray, List.length_cons, List.length_nil, Nat.reduceAdd, List.getElem?_toArray, List.getElem?_cons_zero, List.getElem?_cons_succ, Option.bind_some, Act.put, List.setIfInBounds_toArray, List.set_cons_zero, List.set_cons_succ] at hK ⊢
      try simp only [hdep] at hK ⊢
    · have e9 : w9 = w.drew := hS9
      subst e9
      exact step_copyK (by first | rfl | kernel_rfl) (.tmp 73) (.tmp 76) 24 24 rfl _ _ rfl rfl (HCP.out _ _ _) (hK _ _ rfl (fun y h => by cases h) _ rfl)
  · intro V wN hS9 hv9
    have e9 : wN = W1 := hS9
    clear hS9 hv9
    simp only [fill, slotOf, List.size_toArray, List.length_cons, List.length_nil, Nat.reduceAdd, List.getElem?_toArray, List.getElem?_cons_zero, List.getElem?_cons_succ, Option.bind_some, Act.put, List.setIfInBounds_toArray, List.set_cons_zero, List.set_cons_succ]
    rw [e9]
    clear e9
    have e5 := HCQ.out 3 (c - i)
    go_wp2_with fail
    go_ret
    exact ⟨_, rfl, HFO.out, HFG.out⟩

set_option maxRecDepth 100000 in
set_option maxHeartbeats 4000000 in
/-- a new row, where there is no room -/
theorem ins_growO {w : World} {base n i g vb : Nat} {c : Nat} {l : List (Int × Int × Int)} {x : (Int × Int × Int)} (h : w.ownsRow base 29 3 (.slice (some ⟨g, 0, none⟩) n c) n (OwnS.flat l)) (hl : l.length = n) (hi : i < n) (hr : c < n + 1) (hn : n ≤ 1000) (hbase : base ≤ w.heap.size) (hv : w.heap[vb]? = some (.cells (OwnS.f x).toArray 29 (0, 0))) :
    Calls Tryz.prog 64 #[.slice (some ⟨g, 0, none⟩) n c, .int .i64 (i : Int), .slice (some ⟨vb, 0, none⟩) 1 1] w fun e w' => ∃ v', e = .returned v' ∧ w'.ownsRow base 29 3 v' (n + 1) (OwnS.flat (l.take i ++ x :: l.drop i)) ∧ w.grownBy w' (some g) := by
  obtain ⟨g', cap, cur, he, hg, hh, hnc, hcm, hsz, htk⟩ : ∃ g' cap cur, (Value.slice (some ⟨g, 0, none⟩) n c) = .slice (some ⟨g', 0, none⟩) n cap ∧ base ≤ g' ∧ w.heap[g']? = some (.cells cur 29 (0, 0)) ∧ n ≤ cap ∧ cap ≤ maxLen ∧ cur.size = cap * 3 ∧ cur.toList.take (n * 3) = OwnS.flat l := by
    rcases h.2 with ⟨h0, _⟩ | ⟨g', cap, cur, q1, q2, q3, q4, q5, q6, q7⟩
    · cases h0
    · exact ⟨g', cap, cur, q1, q2, q3, q4, q5, q6, q7⟩
  cases he
  obtain ⟨i0, hi0, hz0, hzs, hzb⟩ := info_parts infoAO
  have hgw : g < w.heap.size := (Array.getElem?_eq_some_iff.1 hh).1
  have hvw : vb < w.heap.size := (Array.getElem?_eq_some_iff.1 hv).1
  have hR : (OwnS.flat (l.drop i)).length = (n - i) * 3 := by rw [OwnS.flat_len, List.length_drop, hl]; rfl
  have hA : (OwnS.flat (l.take i)).length = i * 3 := by rw [OwnS.flat_len, List.length_take, hl, Nat.min_eq_left (by omega)]; rfl
  have hX : (OwnS.f x).length = 3 := rfl
  have hcur : ∀ k, k < n * 3 → cur[k]? = (OwnS.flat l)[k]? := fun k hk => by rw [← htk, List.getElem?_take, if_pos hk, Array.getElem?_toList]
  have hold : (Builtin.firstCells i0.size i (.slice (some ⟨g, 0, none⟩) i c)).run Tryz.prog w.drew = .ok (OwnS.flat (l.take i)).toArray w.drew := by
    rw [hzs]
    exact run_firstCells_some w.drew 3 i ⟨g, 0, none⟩ i c _ hA (fun j u hj => by
      have hjl : j < i * 3 := by rw [← hA]; exact (List.getElem?_eq_some_iff.1 hj).1
      rw [Addr.add_lit, Nat.zero_add]
      show w.cell? ⟨g, j, none⟩ = some u
      rw [cell_of_row w _ _ _ _ (0, 0) hh, hcur _ (by omega), OwnS.flat_cut l i, List.getElem?_append_left (by omega)]
      exact hj)
  have hkk : (n : Int) + 1 - (i : Int) = ((n + 1 - i : Nat) : Int) := by omega
  have hik : i + (n + 1 - i) = n + 1 := by omega
  obtain ⟨G, hG⟩ : ∃ G, G = grownCap w (n + 1) c 29 := ⟨_, rfl⟩
  obtain ⟨ROW, hROW⟩ : ∃ ROW : Array Value, ROW = (OwnS.flat (l.take i)).toArray ++ Builtin.zeroCells (Value.agg #[.int .i64 0, .int .i64 0, .int .i64 0]).cells (n + 1 - i) ++ Builtin.zeroCells (Value.agg #[.int .i64 0, .int .i64 0, .int .i64 0]).cells (G - (n + 1)) := ⟨_, rfl⟩
  obtain ⟨W2, hW2⟩ : ∃ W2, W2 = w.drew.alloc (.cells ROW 29) := ⟨_, rfl⟩
  obtain ⟨N, hN⟩ : ∃ N, N = w.heap.size := ⟨_, rfl⟩
  have HRZ := Lib.hid (fun ty => (by
    have h9 := Lib.run_append_grow_zeros w 24 3 ty 29 i0 _ .i64 .i64 Tryz.underlying24 Tryz.underlying3 hi0 hz0 (some ⟨g, 0, none⟩) i c _ hold (n + 1 - i) (by omega) (by omega) (by omega) (by omega) (by rw [hzb]; omega) (by rw [hzb, hik]; exact growslice_fits hr (by omega))
    rw [hik] at h9
    rw [hkk, hW2, hROW, hG, hN]
    exact h9 : (Builtin.append_ #[24, 3] ty #[.slice (some ⟨g, 0, none⟩) i c, .int .i64 ((n : Int) + 1 - (i : Int))]).run Tryz.prog w = .ok (.slice (some ⟨N, 0, none⟩) (n + 1) G) W2))
  have hGn : n + 1 ≤ G := by rw [hG]; exact grownCap_ge w _ _ _
  have hGm : G ≤ maxLen := by rw [hG]; exact grownCap_le_maxLen w (n + 1) c 29 (by unfold maxLen; omega)
  have hRs : ROW.size = G * 3 := by
    rw [hROW]
    simp [Builtin.zeroCells, Value.cells, hA]
    omega
  have hh2 : W2.heap[N]? = some (.cells ROW 29 (0, 0)) := by rw [hW2, hN]; exact heap_alloc_new w.drew _
  have ho2 : ∀ k, k < w.heap.size → W2.heap[k]? = w.heap[k]? := fun k hk => by rw [hW2]; exact hao9 w.drew _ k hk
  obtain ⟨W3, hW3⟩ : ∃ W3, W3 = W2.setCells N (i * 3) (OwnS.f x) := ⟨_, rfl⟩
  have hh3 : W3.heap[N]? = some (.cells (setMm ROW (i * 3) (OwnS.f x)) 29 (0, 0)) := by rw [hW3]; exact setCells_blk _ W2 N _ ROW _ hh2
  have ho3 : ∀ k, k < w.heap.size → W3.heap[k]? = w.heap[k]? := fun k hk => by rw [hW3, setCells_oth _ _ _ _ _ (by omega)]; exact ho2 k hk
  obtain ⟨W4, hW4⟩ : ∃ W4, W4 = W3.drew.setCells N ((i + 1) * 3) (OwnS.flat (l.drop i)) := ⟨_, rfl⟩
  have HCQ := Lib.hid (fun ty => fun dc => (by
    rw [hW3]
    refine run_copyK W2 24 24 ty 29 N (i * 3) (n + 1 - i) dc ⟨vb, 0, none⟩ 1 1 1 3 (OwnS.f x) Tryz.underlying24 infAO (by simp only [Nat.min_def]; split <;> omega) (by rw [hX]) (fun j u hj => ?_) (fun j hj => ?_) (fun j hj => fro_blk hh2 _) (fun u hu => OwnS.one x u hu)
    · rw [Addr.add_lit, cell_of_row W2 _ _ _ _ (0, 0) ((ho2 vb hvw).trans hv), Nat.zero_add, List.getElem?_toArray]
      exact hj
    · rw [cell_of_row W2 _ _ _ _ (0, 0) hh2, Array.getElem?_eq_getElem (by omega)]; rfl : (Builtin.copy_ #[24, 24] ty #[.slice (some ⟨N, i * 3, none⟩) (n + 1 - i) dc, .slice (some ⟨vb, 0, none⟩) 1 1]).run Tryz.prog W2 = .ok (goInt 1) W3))
  have HCP := Lib.hid (fun ty => fun dc => fun sc => (by
    rw [hW4]
    refine run_copyK W3.drew 24 24 ty 29 N ((i + 1) * 3) (n - i) dc ⟨g, i * 3, none⟩ (n - i) sc (n - i) 3 (OwnS.flat (l.drop i)) Tryz.underlying24 infAO (Nat.min_self _) hR (fun j u hj => ?_) (fun j hj => ?_) (fun j hj => fro_blk (w := W3) hh3 _) (OwnS.flat_one _)
    · have hjl : j < (n - i) * 3 := by rw [← hR]; exact (List.getElem?_eq_some_iff.1 hj).1
      rw [Addr.add_lit]
      show W3.cell? ⟨g, i * 3 + j, none⟩ = some u
      rw [cell_of_row W3 _ _ _ _ (0, 0) ((ho3 g hgw).trans hh), hcur _ (by omega), OwnS.flat_cut l i, List.getElem?_append_right (by omega), hA, Nat.add_sub_cancel_left]
      exact hj
    · show (W3.cell? ⟨N, (i + 1) * 3 + j, none⟩).isSome = true
      rw [cell_of_row W3 _ _ _ _ (0, 0) hh3, Array.getElem?_eq_getElem (by rw [setMm_size]; omega)]; rfl : (Builtin.copy_ #[24, 24] ty #[.slice (some ⟨N, (i + 1) * 3, none⟩) (n - i) dc, .slice (some ⟨g, i * 3, none⟩) (n - i) sc]).run Tryz.prog W3.drew = .ok (goInt ((n - i : Nat) : Int)) W4))
  have HFO := Lib.hid (show W4.ownsRow base 29 3 (.slice (some ⟨N, 0, none⟩) (n + 1) G) (n + 1) (OwnS.flat (l.take i ++ x :: l.drop i)) from by
    have hh4 : W4.heap[N]? = some (.cells (setMm (setMm ROW (i * 3) (OwnS.f x)) ((i + 1) * 3) (OwnS.flat (l.drop i))) 29 (0, 0)) := by rw [hW4]; exact setCells_blk _ W3.drew N _ _ _ hh3
    refine own_mk9 (by omega) hh4 hGn hGm (by rw [setMm_size, setMm_size, hRs]) ?_
    rw [ins_size (Nat.le_of_lt hi), Sty.flat_app, show OwnS.flat (x :: l.drop i) = OwnS.f x ++ OwnS.flat (l.drop i) from by unfold Sty.flat; rfl]
    have hs1 : i * 3 + (OwnS.f x).length ≤ ROW.size := by omega
    have hs2 : (i + 1) * 3 + (OwnS.flat (l.drop i)).length ≤ (setMm ROW (i * 3) (OwnS.f x)).size := by rw [setMm_size]; omega
    refine take_ins hA hX hR (by rw [setMm_size, setMm_size]; omega) (fun k hk => ?_) (fun k h1 h2 => ?_) (fun k h1 h2 => ?_)
    · rw [setMm_off hs2 (.inl (by omega)), setMm_off hs1 (.inl hk), hROW, Array.getElem?_append_left (by simp [hA]; omega), Array.getElem?_append_left (by simp [hA]; omega), List.getElem?_toArray]
    · rw [setMm_off hs2 (.inl (by omega)), setMm_in hs1 h1 (by omega)]
    · rw [setMm_in hs2 (by omega) (by omega)]
      congr 1
      omega)
  have HFG := Lib.hid (show w.grownBy W4 (some g) from by
    obtain ⟨p1, p2, p3, p4⟩ := setCells_env (OwnS.f x) W2 N (i * 3)
    obtain ⟨q1, q2, q3, q4⟩ := setCells_env (OwnS.flat (l.drop i)) W3.drew N ((i + 1) * 3)
    rw [← hW3] at p1 p2 p3 p4
    rw [← hW4] at q1 q2 q3 q4
    have e2 : W2.os = w.os ∧ W2.tape = w.tape ∧ W2.output = w.output ∧ w.heap.size ≤ W2.heap.size := by rw [hW2]; exact ⟨rfl, rfl, rfl, by simp⟩
    exact ⟨(q1.trans p1).trans e2.1, (q2.trans p2).trans e2.2.1, (q3.trans p3).trans e2.2.2.1, Nat.le_trans e2.2.2.2 (Nat.le_of_eq (q4.trans p4).symm), fun k hk _ => by
      rw [hW4, setCells_oth _ _ _ _ _ (by omega)]
      exact ho3 k hk⟩)
  have HS1 := Lib.hid (fun w => (by have := fromAO2 N (n + 1) G (i + 1) (by omega) (by omega) w; rw [show n + 1 - (i + 1) = n - i by omega] at this; push_cast at this; exact this : (Instr.slice 24 (.slice (some ⟨N, 0, none⟩) (n + 1) G) (some (.int .i64 ((i : Int) + 1))) none none).run Tryz.prog w = .ok (.slice (some ⟨N, (i + 1) * 3, none⟩) (n - i) (G - (i + 1))) w))
  have HS2 := Lib.hid (fun w => fromAO2 g n c i (by omega) (by omega) w)
  have e0 := HS2.out w
  have e1 := toAO (some ⟨g, 0, none⟩) n c i (by omega) w
  have e2 := fromAO2 N (n + 1) G i (by omega) (by omega) W2
  have e5 := HCQ.out 3 (G - i)
  have z1 : ((i : Int) == (n : Int)) = false := by rw [beq_eq_false_iff_ne]; omega
  have z2 : decide ((c : Int) < (n : Int) + 1) = true := decide_eq_true (by omega)
  have z3 : (c : Int) < (n : Int) + 1 := by omega
  have w1 : IntKind.i64.wrap ((i : Int) + 1) = (i : Int) + 1 := IntWalk.i64_in _ (by omega)
  have w2 : IntKind.i64.wrap ((n : Int) + 1) = (n : Int) + 1 := IntWalk.i64_in _ (by omega)
  have w3 : IntKind.i64.wrap ((n : Int) + 1 - (i : Int)) = (n : Int) + 1 - (i : Int) := IntWalk.i64_in _ (by omega)
  clear hcur hR hA hX hsz htk hh hh2 hh3 ho2 ho3 hW2 hW3 hW4 hROW hRs hG hGm hN hold hkk hik hi0 hz0 hzs hzb hv hvw hgw h
  go_enter Tryz.func64, Tryz.ntmps64
  go_upto_region 9 with fail
  go_wp2_with (at_builtin; refine Lib.wpList_append_run _ rfl _ _ _ _ rfl _ _ rfl rfl _ _ (HRZ.out _) ?_)
  refine wp_region_chain2 (by kernel_rfl) (by kernel_rfl) (by kernel_rfl) [8] false (by kernel_rfl) (fun k _ y => match k with
      | 0 => y = W3.drew
      | _ => y = W4) (fun y => y = W3.drew) (fun j_9 => match j_9 with | 0 => some (.slice (some ⟨N, 0, none⟩) (n + 1) G) | 1 => some (.int .i64 (i : Int)) | 2 => some (.int .i64 1) | 3 => some (.int .i64 ((i : Int) + 1)) | 4 => some (.slice (some ⟨N, (i + 1) * 3, none⟩) (n - i) (G - (i + 1))) | 5 => some (.slice (some ⟨g, 0, none⟩) n c) | 6 => some (.int .i64 (i : Int)) | 7 => some (.slice (some ⟨g, i * 3, none⟩) (n - i) (c - i)) | _ => none) (by rfl) (fun _ => rfl) (fun k u y hk9 _ hs => by
      have hk : k < 1 := hk9 rfl
      clear hk9
      match k, hk, hs with
      | 0, _, hs => exact hs) ?_ ?_ ?_
  · intro i9 o ho hc9 V w9 K hR9 hdep hK
    have HR9 := Lib.hid hR9
    have e4 := HS1.out w9
    have e7 := HS2.out w9
    clear hR9
    have hin9 : i9 < 9 := (Array.getElem?_eq_some_iff.1 ho).1
    have hcs : i9 = 0 ∨ i9 = 1 ∨ i9 = 2 ∨ i9 = 3 ∨ i9 = 4 ∨ i9 = 5 ∨ i9 = 6 ∨ i9 = 7 ∨ i9 = 8 := by omega
    clear hin9
    rcases hcs with rfl | rfl | rfl | rfl | rfl | rfl | rfl | rfl | rfl
    all_goals first
      | (cases hc9; done)
      | (obtain rfl := Option.some.inj ho.symm
         simp [KnB, Region.binds] at hdep
         clear ho hc9
         simp only [fill, slotOf, List.size_toArray, List.length_cons, List.length_nil, Nat.reduceAdd, List.getElem?_toArray, List.getElem?_cons_zero, List.getElem?_cons_succ, Option.bind_some, Act.put, List.setIfInBounds_toArray, List.set_cons_zero, List.set_cons_succ] at hK ⊢
         try simp only [hdep] at hK ⊢
         go_simp
         exact hK _ rfl _ rfl)
  · intro i9 j9 o he9 ho V w9 K hS9 hdep hK
    have hin9 : i9 < 1 := (List.getElem?_eq_some_iff.1 he9).1
    obtain rfl : i9 = 0 := by omega
    all_goals
      obtain rfl := Option.some.inj he9.symm
      obtain rfl := Option.some.inj ho.symm
      simp [KnB, Region.binds] at hdep
      clear ho he9
      simp only [fill, slotOf, List.size_toArray, List.length_cons, List.length_nil, Nat.reduceAdd, List.getElem?_toArray, List.getElem?_cons_zero, List.getElem?_cons_succ, Option.bind_some, Act.put, List.setIfInBounds_toArray, List.set_cons_zero, List.set_cons_succ] at hK ⊢
      try simp only [hdep] at hK ⊢
    · have e9 : w9 = W3.drew := hS9
      subst e9
      exact step_copyK (by first | rfl | kernel_rfl) (.tmp 50) (.tmp 53) 24 24 rfl _ _ rfl rfl (HCP.out _ _ _) (hK _ _ rfl (fun y h => by cases h) _ rfl)
  · intro V wN hS9 hv9
    have e9 : wN = W4 := hS9
    clear hS9 hv9
    simp only [fill, slotOf, List.size_toArray, List.length_cons, List.length_nil, Nat.reduceAdd, List.getElem?_toArray, List.getElem?_cons_zero, List.getElem?_cons_succ, Option.bind_some, Act.put, List.setIfInBounds_toArray, List.set_cons_zero, List.set_cons_succ]
    rw [e9]
    clear e9
    go_wp2_with fail
    go_ret
    exact ⟨_, rfl, HFO.out, HFG.out⟩
end Go.Proofs.YtadfmenlpnibnaaGreat
end PkMS7_0
