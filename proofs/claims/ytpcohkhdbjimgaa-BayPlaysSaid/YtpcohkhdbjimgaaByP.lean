/- The document's bay, plainly: what fits is what fits; what is drained is what is drained. -/
import Derived.Test.YtpcohkhdbjimgaaByR3
namespace Go.Proofs.Ytpcohkhdbjimgaa
open Go.RowKit Go.Conc
set_option linter.unusedVariables false

/-- a key's order -/
def kL (k : ByteArray) : List UInt8 := k.data.toList
theorem kL_inj {a b : ByteArray} (h : kL a = kL b) : a = b := ByteArray.ext (Array.toList_inj.1 h)
def kGt (a b : ByteArray) : Bool := !Op.bytesLess a.toList b.toList && !a.toList == b.toList
theorem bl_lexB : ∀ (x y : List UInt8), Op.bytesLess x y = decide (x < y)
  | [], [] => by simp [Op.bytesLess]
  | _ :: _, [] => by simp [Op.bytesLess]
  | [], _ :: _ => by simp [Op.bytesLess]
  | a :: x, b :: y => by
    rw [Op.bytesLess, bl_lexB x y]
    rw [Bool.eq_iff_iff]
    simp [List.cons_lt_cons_iff]
theorem kGt_iff (a b : ByteArray) : kGt a b = true ↔ kL b < kL a := by
  unfold kGt
  rw [ByteArray.toList_eq, ByteArray.toList_eq, bl_lexB]
  show (!decide (kL a < kL b) && !kL a == kL b) = true ↔ kL b < kL a
  rw [Bool.and_eq_true, Bool.not_eq_true', Bool.not_eq_true', decide_eq_false_iff_not, beq_eq_false_iff_ne]
  constructor
  · rintro ⟨h1, h2⟩
    rcases List.le_total (kL a) (kL b) with g | g
    · rcases List.le_iff_lt_or_eq.1 g with g | g
      · exact absurd g h1
      · exact absurd g h2
    · rcases List.le_iff_lt_or_eq.1 g with g | g
      · exact g
      · exact absurd g.symm h2
  · intro h
    exact ⟨fun g => List.lt_irrefl _ (List.lt_trans g h), fun g => by rw [g] at h; exact List.lt_irrefl _ h⟩
/-- rising keys -/
def KSort (l : List (ByteArray × Int)) : Prop := l.Pairwise fun x y => kL x.1 ≤ kL y.1
theorem xsOf_cons (x : ByteArray × Int) (r : List (ByteArray × Int)) (k : ByteArray) : xsOf (x :: r) k = if x.1 = k then x.2 :: xsOf r k else xsOf r k := by
  unfold xsOf
  rw [List.filter_cons]
  by_cases e : x.1 = k
  · rw [if_pos (by simpa using e), if_pos e, List.map_cons]
  · rw [if_neg (by simpa using e), if_neg e]
theorem xsOf_mem {l : List (ByteArray × Int)} {k : ByteArray} {z : Int} {r : List Int} (h : xsOf l k = z :: r) : ∃ x ∈ l, x.1 = k := by
  have h3 : z ∈ xsOf l k := by rw [h]; exact List.mem_cons_self
  unfold xsOf at h3
  obtain ⟨x, hx, _⟩ := List.mem_map.1 h3
  obtain ⟨h1, h2⟩ := List.mem_filter.1 hx
  exact ⟨x, h1, by simpa using h2⟩
theorem ksort_uniq : ∀ {l m : List (ByteArray × Int)}, KSort l → KSort m → (∀ k, xsOf l k = xsOf m k) → l = m
  | [], m, _, _, h => (xsOf_nil_all (fun k => (h k).symm)).symm
  | x :: l, [], _, _, h => by
    have := h x.1
    rw [xsOf_cons, if_pos rfl] at this
    cases this
  | x :: l, y :: m, hl, hm, h => by
    have hl' := List.pairwise_cons.1 hl
    have hm' := List.pairwise_cons.1 hm
    have h1 : kL y.1 ≤ kL x.1 := by
      have h2 := h x.1
      rw [xsOf_cons, if_pos rfl] at h2
      obtain ⟨u, hu, e⟩ := xsOf_mem h2.symm
      rw [← e]
      rcases List.mem_cons.1 hu with rfl | g
      · exact List.le_refl _
      · exact hm'.1 u g
    have h2 : kL x.1 ≤ kL y.1 := by
      have h2 := h y.1
      rw [xsOf_cons (x := y), if_pos rfl] at h2
      obtain ⟨u, hu, e⟩ := xsOf_mem h2
      rw [← e]
      rcases List.mem_cons.1 hu with rfl | g
      · exact List.le_refl _
      · exact hl'.1 u g
    have hk : x.1 = y.1 := kL_inj (List.le_antisymm h2 h1)
    have hx : x = y := by
      have h3 := h x.1
      rw [xsOf_cons, xsOf_cons, if_pos rfl, if_pos hk.symm] at h3
      exact Prod.ext hk (List.cons.inj h3).1
    subst hx
    rw [ksort_uniq hl'.2 hm'.2 (fun k => by
      have h3 := h k
      rw [xsOf_cons, xsOf_cons] at h3
      split at h3
      · exact (List.cons.inj h3).2
      · exact h3)]
theorem kz_xs (k j : ByteArray) (zs : List Int) : xsOf (kz k zs) j = if k = j then zs else [] := by
  unfold kz
  induction zs with
  | nil => rw [List.map_nil]; unfold xsOf; simp
  | cons z r ih =>
    rw [List.map_cons, xsOf_cons]
    by_cases e : k = j
    · rw [if_pos e, if_pos e]
      rw [if_pos e] at ih
      rw [ih]
    · rw [if_neg e, if_neg e]
      rw [if_neg e] at ih
      exact ih
theorem drainL_cons (p : ByteArray × BoxV) (r : List (ByteArray × BoxV)) : drainL (p :: r) = kz p.1 p.2.xs ++ drainL r := by unfold drainL; rw [List.flatMap_cons]
theorem kz_mem {k : ByteArray} {zs : List Int} {x : ByteArray × Int} (h : x ∈ kz k zs) : x.1 = k := by
  unfold kz at h
  obtain ⟨z, _, rfl⟩ := List.mem_map.1 h
  rfl
theorem drainL_mem {l : List (ByteArray × BoxV)} {x : ByteArray × Int} (h : x ∈ drainL l) : ∃ p ∈ l, x.1 = p.1 := by
  unfold drainL at h
  obtain ⟨p, hp, h2⟩ := List.mem_flatMap.1 h
  exact ⟨p, hp, kz_mem h2⟩
theorem drain_sort : ∀ {l : List (ByteArray × BoxV)}, (l.Pairwise fun p q => (slit p.1).before (slit q.1) = true) → KSort (drainL l)
  | [], _ => .nil
  | p :: r, h => by
    obtain ⟨h1, h2⟩ := List.pairwise_cons.1 h
    rw [drainL_cons]
    unfold KSort
    rw [List.pairwise_append]
    refine ⟨?_, drain_sort h2, fun x hx y hy => ?_⟩
    · refine List.pairwise_of_forall_mem_list (fun x hx y hy => ?_)
      rw [kz_mem hx, kz_mem hy]
      exact List.le_refl _
    · obtain ⟨q, hq, e⟩ := drainL_mem hy
      rw [kz_mem hx, e]
      exact List.le_of_lt (show p.1.data.toList < q.1.data.toList from bb_lt _ _ (by simpa [slit, Lit.before] using h1 q hq))
theorem drain_xs : ∀ {l : List (ByteArray × BoxV)}, l.Pairwise (fun p q => slit p.1 ≠ slit q.1) → ∀ k, xsOf (drainL l) k = cont l k
  | [], _, k => rfl
  | p :: r, h, k => by
    rw [List.pairwise_cons] at h
    rw [drainL_cons, xsOf_append, kz_xs, cont_cons, drain_xs h.2]
    by_cases e : p.1 = k
    · rw [if_pos e, if_pos e, cont_none (fun q hq g => h.1 q hq (by rw [e, g])), List.append_nil]
    · rw [if_neg e, if_neg e]; rfl
theorem Holds.drained {w : World} {Y M room : Nat} {l : List (ByteArray × BoxV)} {L R : List (ByteArray × Int)} (h : Holds w Y M room l L) (hs : KSort R) (hx : ∀ k, xsOf R k = xsOf L k) : R = drainL l :=
  ksort_uniq hs (drain_sort h.bay.map.rise) (fun k => by rw [hx, drain_xs h.bay.map.apart, h.says])
/-- a thing put behind those whose keys are no greater -/
theorem ins_sort {R : List (ByteArray × Int)} {n : Nat} {x : ByteArray × Int} (hs : KSort R) (hn : n ≤ R.length) (h1 : ∀ y ∈ R.drop n, kL x.1 < kL y.1) (h2 : ∀ y ∈ R.take n, kL y.1 ≤ kL x.1) : KSort (R.take n ++ [x] ++ R.drop n) := by
  unfold KSort at hs ⊢
  have hd := List.pairwise_append.1 (by rw [List.take_append_drop n R]; exact hs : (R.take n ++ R.drop n).Pairwise _)
  rw [List.pairwise_append, List.pairwise_append]
  refine ⟨⟨hd.1, List.pairwise_singleton _ _, fun a ha b hb => ?_⟩, hd.2.1, fun a ha b hb => ?_⟩
  · rw [List.mem_singleton.1 hb]; exact h2 a ha
  · rcases List.mem_append.1 ha with g | g
    · exact hd.2.2 a g b hb
    · rw [List.mem_singleton.1 g]; exact List.le_of_lt (h1 b hb)
theorem ins_xs {R : List (ByteArray × Int)} {n : Nat} {x : ByteArray × Int} (h1 : ∀ y ∈ R.drop n, kL x.1 < kL y.1) (k : ByteArray) : xsOf (R.take n ++ [x] ++ R.drop n) k = xsOf R k ++ xsOf [x] k := by
  have e : xsOf R k = xsOf (R.take n) k ++ xsOf (R.drop n) k := by rw [← xsOf_append, List.take_append_drop]
  rw [xsOf_append, xsOf_append, e, xsOf_one]
  by_cases g : x.1 = k
  · have : xsOf (R.drop n) k = [] := by
      unfold xsOf
      rw [List.map_eq_nil_iff, List.filter_eq_nil_iff]
      intro y hy
      have := h1 y hy
      intro e2
      have e3 : y.1 = k := by simpa using e2
      rw [e3, ← g] at this
      exact List.lt_irrefl _ this
    rw [this, List.append_nil, List.append_nil]
  · rw [if_neg g, List.append_nil, List.append_nil]
theorem take_le {R : List (ByteArray × Int)} {n : Nat} {x : ByteArray × Int} (hs : KSort R) (hn : n ≤ R.length) (h : n = 0 ∨ kL (R.getD (n - 1) KdS.z).1 ≤ kL x.1) : ∀ y ∈ R.take n, kL y.1 ≤ kL x.1 := by
  intro y hy
  obtain ⟨j, hj, e⟩ := List.getElem_of_mem hy
  rw [List.length_take] at hj
  rw [List.getElem_take] at e
  rcases h with h | h
  · omega
  · have hl : n - 1 < R.length := by omega
    rw [List.getD_eq_getElem?_getD, List.getElem?_eq_getElem hl] at h
    have h' : kL R[n - 1].1 ≤ kL x.1 := h
    rw [← e]
    rcases Nat.lt_or_ge j (n - 1) with g | g
    · exact List.le_trans (List.pairwise_iff_getElem.1 hs j (n - 1) (by omega) hl g) h'
    · obtain rfl : j = n - 1 := by omega
      exact h'
theorem drop_gt {R : List (ByteArray × Int)} {n : Nat} {x : ByteArray × Int} (hn : n + 1 ≤ R.length) (h1 : ∀ y ∈ R.drop (n + 1), kL x.1 < kL y.1) (h2 : kL x.1 < kL (R.getD n KdS.z).1) : ∀ y ∈ R.drop n, kL x.1 < kL y.1 := by
  intro y hy
  rw [List.drop_eq_getElem_cons (by omega)] at hy
  rcases List.mem_cons.1 hy with rfl | g
  · rw [List.getD_eq_getElem?_getD, List.getElem?_eq_getElem (by omega)] at h2
    exact h2
  · exact h1 y g
theorem cntK_mono (ks : List (ByteArray × Int)) (k : ByteArray) (i : Nat) : cntK (ks.take i) k ≤ cntK ks k := by
  unfold cntK
  exact (List.Sublist.filter _ (List.take_sublist i ks)).length_le
theorem cntK_append (a b : List (ByteArray × Int)) (k : ByteArray) : cntK (a ++ b) k = cntK a k + cntK b k := by unfold cntK; rw [List.filter_append, List.length_append]
theorem cnt_last {ks : List (ByteArray × Int)} {k : ByteArray} : ∀ n, n ≤ ks.length → 1 ≤ cntK (ks.take n) k → ∃ j, j < n ∧ (ks.getD j KdS.z).1 = k ∧ cntK (ks.take (j + 1)) k = cntK (ks.take n) k
  | 0, _, h => by rw [List.take_zero] at h; simp [cntK] at h
  | n + 1, hn, h => by
    have hs := cntK_succ (ks := ks) (i := n) (by omega) k
    by_cases e : (ks.getD n KdS.z).1 = k
    · exact ⟨n, by omega, e, rfl⟩
    · rw [if_neg e, Nat.add_zero] at hs
      obtain ⟨j, h1, h2, h3⟩ := cnt_last (ks := ks) (k := k) n (by omega) (by omega)
      exact ⟨j, by omega, h2, by omega⟩
theorem Holds.fits {w : World} {Y M room : Nat} {l : List (ByteArray × BoxV)} {L ks : List (ByteArray × Int)} (h : Holds w Y M room l L) : fitsB room l ks = fitsR room L ks := by
  have hc : ∀ k, (cont l k).length = cntK L k := fun k => by rw [h.says, xsOf_len]
  cases hf : fitsR room L ks with
  | true =>
    refine fits_yes fun i hi => ?_
    unfold okAt
    rw [hc]
    unfold fitsR at hf
    rw [List.all_eq_true] at hf
    have h1 : cntK (L ++ ks) (ks.getD i KdS.z).1 ≤ room := by simpa using hf i (List.mem_range.2 hi)
    rw [cntK_append] at h1
    have := cntK_mono ks (ks.getD i KdS.z).1 (i + 1)
    omega
  | false =>
    rw [Bool.eq_false_iff]
    intro hb
    refine absurd (fitsR_yes (room := room) (L := L) (ks := ks) fun i hi => ?_) (by rw [hf]; decide)
    have h1 := cntK_succ (ks := ks) hi (ks.getD i KdS.z).1
    rw [if_pos rfl] at h1
    have h2 := cntK_mono ks (ks.getD i KdS.z).1 (i + 1)
    obtain ⟨j, hj, e, h3⟩ := cnt_last (k := (ks.getD i KdS.z).1) ks.length (Nat.le_refl _) (by rw [List.take_length]; omega)
    have h4 := fits_ok hb hj
    unfold okAt at h4
    rw [e, hc, h3, List.take_length] at h4
    rw [cntK_append]
    exact h4
end Go.Proofs.Ytpcohkhdbjimgaa
