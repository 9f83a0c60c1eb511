/- Texts put together by packtpl2.py: Uj, Us, Ut, Uca, Uu, Ucb, Uv. -/
import Derived.Test.YtodoklnohedolaaPkUC5
section PkUC6_0
/- An upload's Next of a part, walked. Written by genuj.py. -/
namespace Go.Proofs.Ytodoklnohedolaa
open Go.RowKit
set_option linter.unusedVariables false
set_option linter.unusedSimpArgs false

theorem bytes_set7 {w : World} {a : Option Addr} {n c R : Nat} {xs : List Nat} (h : BytesAt w a n c xs) (hne : ∀ b off s, a = some ⟨b, off, s⟩ → b ≠ R) {x0 x1 x2 x3 x4 x5 x6 : Value} : BytesAt (set7 w R x0 x1 x2 x3 x4 x5 x6) a n c xs :=
  ⟨h.len, h.cap, h.byte, h.reach, h.capm, h.nl, fun hn => by
    obtain ⟨b, off, e, hb, hc⟩ := h.cells hn
    have hbR := hne b off none e
    have hblk : (set7 w R x0 x1 x2 x3 x4 x5 x6).heap[b]? = w.heap[b]? := by
      unfold set7
      exact (Below.heap_setCell _ _ _ _ (show b ≠ R from hbR)).trans ((Below.heap_setCell _ _ _ _ (show b ≠ R from hbR)).trans ((Below.heap_setCell _ _ _ _ (show b ≠ R from hbR)).trans ((Below.heap_setCell _ _ _ _ (show b ≠ R from hbR)).trans ((Below.heap_setCell _ _ _ _ (show b ≠ R from hbR)).trans ((Below.heap_setCell _ _ _ _ (show b ≠ R from hbR)).trans (Below.heap_setCell _ _ _ _ (show b ≠ R from hbR)))))))
    refine ⟨b, off, e, ?_, fun i hi => ?_⟩
    · have : (set7 w R x0 x1 x2 x3 x4 x5 x6).heap.size = w.heap.size := by unfold set7; simp [World.setCell]
      omega
    · rw [← hc i hi]
      unfold World.cell?
      rw [hblk]⟩
set_option maxRecDepth 100000 in
set_option maxHeartbeats 8000000 in
theorem unext_part {w : World} {B : Nat} {u : UG} (g : UAt w B u) {now : Int} {dx : List Nat} (hd : BytesAt w u.da u.dn u.dc dx) (htl : u.told = false) (h : u.rd ≤ now) (hst : u.st = 1) {k s p m : Nat} (hnx : u.nx = (k : Int) + 1) (hsz : u.sz = (s : Int)) (hk : k ≤ 100) (hs : s ≤ 262144) (hp : p = k * s) (hpd : p ≤ u.dn) (hm : m = min s (u.dn - p)) :
    Calls Try.prog 22 #[.pointer (some ⟨B, 0, none⟩), .int .i64 now] w fun e w' => ∃ c9 c8, e = .returned (.tuple #[.agg #[.int .i64 8, .string { data := #[] }, .slice c9 m c8, .int .i64 0, .int .i64 0, .int .i64 u.nx, .int .i64 u.id], .bool true]) ∧ BytesAt w' c9 m c8 ((dx.drop p).take m) ∧ UAt w' B { u with told := true } ∧ Turns B w w' := by
  obtain ⟨w1, hw1⟩ : ∃ w1, w1 = w.alloc (.cells #[.int .i64 0, .string { data := #[] }, .slice none 0 0, .int .i64 0, .int .i64 0, .int .i64 0, .int .i64 0] 30) := ⟨_, rfl⟩
  have hb1 : Below w.heap.size w w1 := by rw [hw1]; exact (Below.refl _ _).alloc (Nat.le_refl _) _
  obtain ⟨R, hR⟩ : ∃ R, R = w.heap.size := ⟨_, rfl⟩
  have gr : w1.heap[R]? = some (.cells #[.int .i64 0, .string { data := #[] }, .slice none 0 0, .int .i64 0, .int .i64 0, .int .i64 0, .int .i64 0] 30 (0, 0)) := by rw [hw1, hR]; exact heap_alloc_newG w _
  have g1 := g.below hb1
  have hBR : B ≠ R := by have := g.lt; omega
  have HBR := Lib.hid hBR
  have hRw : w.heap.size ≤ R := by omega
  have HRW := Lib.hid hRw
  have HT := Lib.hid ((Turns.refl B w).below hb1)
  have HW1 := Lib.hid hw1
  have HRE := Lib.hid hR
  have hRl : R < w1.heap.size := (Array.getElem?_eq_some_iff.1 gr).1
  have c10 := cell_blk g1 (i := 10) (u := .int .i64 u.st) rfl
  have z5 : (u.st == 5) = false := by rw [beq_eq_false_iff_ne]; omega
  have hps : p ≤ 26214400 := by rw [hp]; exact Nat.mul_le_mul hk hs
  have hcp := hd.cap
  have hcm := hd.capm
  obtain ⟨E, hE⟩ : ∃ E : Int, E = (p : Int) + (s : Int) := ⟨_, rfl⟩
  have wm : IntKind.i64.wrap (u.nx * u.sz) = E := by
    have e1 : u.nx * u.sz = E := by rw [hnx, hsz, hE, hp, Int.add_mul, Int.one_mul]; push_cast; rfl
    rw [e1]
    exact IntWalk.i64_in _ (by omega)
  have ws : IntKind.i64.wrap (E - u.sz) = (p : Int) := by rw [hsz, hE, show (p : Int) + (s : Int) - (s : Int) = (p : Int) from by omega]; exact IntWalk.i64_in _ (by omega)
  have hmC : min E (u.dn : Int) = (p : Int) + (m : Int) := by omega
  have hsl := slice_runD2 u.da u.dn u.dc p m (by omega)
  obtain ⟨a5, ha5⟩ : ∃ a5, a5 = (if u.dc = p then (u.da : Option Addr) else u.da.map (·.add p)) := ⟨_, rfl⟩
  rw [← ha5] at hsl
  have HSB1 := Lib.hid (show ∀ w2, Turns B w1 w2 → BytesAt w2 a5 m (u.dc - p) ((dx.drop p).take m) from fun w2 ht => by
    rw [ha5]
    exact (bytes_turns g1 (hd.kept hb1) ht).subAnyD2 p m (by omega))
  have HTL := Lib.hid (tell_yes (o := 5) (now := now) g1 (uAt_told htl) rfl h)
  have HRK := Lib.hid (show ∀ w2, Turns B w1 w2 → w2.heap[R]? = _ from fun w2 h => (h.block R hRl (Ne.symm hBR)).trans gr)
  have HRl := Lib.hid hRl
  have z0 : (u.st == 0) = false := by simp [hst]
  have z1 : (u.st == 1) = true := by simp [hst]
  clear g g1 hb1 hw1 hR hRl hBR h hRw gr hd ha5 hst hnx hsz hE hp hm
  go_enter Try.func22, Try.ntmps22
  go_upto_region 1 with fail
  rw [← HW1.out, ← HRE.out]
  go_wp2_with fail
  refine HTL.out.mono ?_
  rintro e w2 ⟨rfl, hg2, ht2⟩
  have hg3 : UAt w2 B { u with told := true } := hg2
  have HGR := Lib.hid (HRK.out w2 ht2)
  have HT2 := Lib.hid (HT.out.trans ht2)
  have HSB := Lib.hid (HSB1.out w2 ht2)
  have HG3 := Lib.hid hg3
  have HRL := Lib.hid (Nat.lt_of_lt_of_le HRl.out ht2.size)
  have c10 := cell_blk hg3 (i := 10) (u := .int .i64 u.st) rfl
  have c4 := cell_blk hg3 (i := 4) (u := .int .i64 u.nx) rfl
  have c2 := cell_blk hg3 (i := 2) (u := .int .i64 u.sz) rfl
  clear hg2 ht2 hg3 HRK HSB1
  go_upto_region 7 with fail
  go_region
  go_upto_region 8 with fail
  clear c10 c4 c2 wm
  have HI8 := Lib.hid ((Below.refl w2.heap.size w2).drew.drew)
  refine wp_region_chain (by kernel_rfl) (by kernel_rfl) (by kernel_rfl) [18, 19] false (by kernel_rfl) (fun k u y => match k with
      | 0 => Below w2.heap.size w2 y
      | 1 => ∃ c9 c8, u 0 = .slice c9 m c8 ∧ BytesAt y c9 m c8 ((dx.drop p).take m) ∧ (∀ b off s, c9 = some ⟨b, off, s⟩ → w2.heap.size ≤ b) ∧ Below w2.heap.size w2 y
      | _ => ∃ c9 c8, u 1 = .slice c9 m c8 ∧ BytesAt y c9 m c8 ((dx.drop p).take m) ∧ (∀ b off s, c9 = some ⟨b, off, s⟩ → w2.heap.size ≤ b) ∧ Below w2.heap.size w2 y) (fun y => Below w2.heap.size w2 y) (fun j_9 => match j_9 with | 0 => some (.pointer (some ⟨B, 0, none⟩)) | 1 => some (.pointer (some ⟨B, 0, none⟩)) | 2 => some (.pointer (some ⟨B, 1, none⟩)) | 3 => some (.slice u.da u.dn u.dc) | 4 => some (.int .i64 E) | 5 => some (.pointer (some ⟨B, 0, none⟩)) | 6 => some (.pointer (some ⟨B, 0, none⟩)) | 7 => some (.pointer (some ⟨B, 2, none⟩)) | 8 => some (.int .i64 u.sz) | 9 => some (.int .i64 (p : Int)) | 10 => some (.int .i64 E) | 11 => some (.pointer (some ⟨B, 0, none⟩)) | 12 => some (.pointer (some ⟨B, 0, none⟩)) | 13 => some (.pointer (some ⟨B, 1, none⟩)) | 14 => some (.slice u.da u.dn u.dc) | 15 => some (.int .i64 (u.dn : Int)) | 16 => some (.int .i64 ((p : Int) + (m : Int))) | 17 => some (.slice a5 m (u.dc - p)) | 18 => none | 19 => none | _ => none) (by rfl) (fun u => HI8.out) (fun k u y hk9 _ hs => by
      have hk : k < 2 := hk9 rfl
      clear hk9
      match k, hk, hs with
      | 0, _, hs => exact hs
      | 1, _, hs =>
        obtain ⟨_, _, _, _, _, hb⟩ := hs
        exact hb) ?_ ?_ ?_
  · intro i9 o ho hc9 V w9 K hR9 hdep hK
    have HR9 := Lib.hid hR9
    simp only [fill, slotOf, List.size_toArray, List.length_cons, List.length_nil, Nat.reduceAdd, List.getElem?_toArray, List.getElem?_cons_zero, List.getElem?_cons_succ, Option.bind_some, Act.put, List.setIfInBounds_toArray, List.set_cons_zero, List.set_cons_succ] at hK ⊢
    have hin9 : i9 < 20 := (Array.getElem?_eq_some_iff.1 ho).1
    have hcs : i9 = 0 ∨ i9 = 1 ∨ i9 = 2 ∨ i9 = 3 ∨ i9 = 4 ∨ i9 = 5 ∨ i9 = 6 ∨ i9 = 7 ∨ i9 = 8 ∨ i9 = 9 ∨ i9 = 10 ∨ i9 = 11 ∨ i9 = 12 ∨ i9 = 13 ∨ i9 = 14 ∨ i9 = 15 ∨ i9 = 16 ∨ i9 = 17 ∨ i9 = 18 ∨ i9 = 19 := by omega
    clear hin9
    rcases hcs with rfl | rfl | rfl | rfl | rfl | rfl | rfl | rfl | rfl | rfl | rfl | rfl | rfl | rfl | rfl | rfl | rfl | rfl | rfl | rfl
    · obtain rfl := Option.some.inj ho.symm
      clear hdep ho hR9 hc9
      try simp only [fill, slotOf, List.size_toArray, List.length_cons, List.length_nil, Nat.reduceAdd, List.getElem?_toArray, List.getElem?_cons_zero, List.getElem?_cons_succ, Option.bind_some, Act.put, List.setIfInBounds_toArray, List.set_cons_zero, List.set_cons_succ] at hK ⊢
      go_simp
      exact hK (.pointer (some ⟨B, 0, none⟩)) rfl _ rfl
    · obtain rfl := Option.some.inj ho.symm
      have d0 : V 0 = .pointer (some ⟨B, 0, none⟩) := hdep ⟨0, .data⟩ (by simp) rfl _ rfl
      clear hdep ho hR9 hc9
      try simp only [fill, slotOf, List.size_toArray, List.length_cons, List.length_nil, Nat.reduceAdd, List.getElem?_toArray, List.getElem?_cons_zero, List.getElem?_cons_succ, Option.bind_some, Act.put, List.setIfInBounds_toArray, List.set_cons_zero, List.set_cons_succ] at hK ⊢
      rw [d0] at hK ⊢
      go_simp
      exact hK (.pointer (some ⟨B, 0, none⟩)) rfl _ rfl
    · obtain rfl := Option.some.inj ho.symm
      have d1 : V 1 = .pointer (some ⟨B, 0, none⟩) := hdep ⟨1, .data⟩ (by simp) rfl _ rfl
      clear hdep ho hR9 hc9
      try simp only [fill, slotOf, List.size_toArray, List.length_cons, List.length_nil, Nat.reduceAdd, List.getElem?_toArray, List.getElem?_cons_zero, List.getElem?_cons_succ, Option.bind_some, Act.put, List.setIfInBounds_toArray, List.set_cons_zero, List.set_cons_succ] at hK ⊢
      rw [d1] at hK ⊢
      go_simp
      exact hK (.pointer (some ⟨B, 1, none⟩)) rfl _ rfl
    · obtain rfl := Option.some.inj ho.symm
      have d2 : V 2 = .pointer (some ⟨B, 1, none⟩) := hdep ⟨2, .data⟩ (by simp) rfl _ rfl
      have u0 := cell_blk (HG3.out.below HR9.out) (i := 1) (u := .slice u.da u.dn u.dc) rfl
      clear hdep ho hR9 hc9
      try simp only [fill, slotOf, List.size_toArray, List.length_cons, List.length_nil, Nat.reduceAdd, List.getElem?_toArray, List.getElem?_cons_zero, List.getElem?_cons_succ, Option.bind_some, Act.put, List.setIfInBounds_toArray, List.set_cons_zero, List.set_cons_succ] at hK ⊢
      rw [d2] at hK ⊢
      go_simp
      exact hK (.slice u.da u.dn u.dc) rfl _ rfl
    · obtain rfl := Option.some.inj ho.symm
      clear hdep ho hR9 hc9
      try simp only [fill, slotOf, List.size_toArray, List.length_cons, List.length_nil, Nat.reduceAdd, List.getElem?_toArray, List.getElem?_cons_zero, List.getElem?_cons_succ, Option.bind_some, Act.put, List.setIfInBounds_toArray, List.set_cons_zero, List.set_cons_succ] at hK ⊢
      go_simp
      exact hK (.int .i64 E) rfl _ rfl
    · obtain rfl := Option.some.inj ho.symm
      clear hdep ho hR9 hc9
      try simp only [fill, slotOf, List.size_toArray, List.length_cons, List.length_nil, Nat.reduceAdd, List.getElem?_toArray, List.getElem?_cons_zero, List.getElem?_cons_succ, Option.bind_some, Act.put, List.setIfInBounds_toArray, List.set_cons_zero, List.set_cons_succ] at hK ⊢
      go_simp
      exact hK (.pointer (some ⟨B, 0, none⟩)) rfl _ rfl
    · obtain rfl := Option.some.inj ho.symm
      have d5 : V 5 = .pointer (some ⟨B, 0, none⟩) := hdep ⟨5, .data⟩ (by simp) rfl _ rfl
      clear hdep ho hR9 hc9
      try simp only [fill, slotOf, List.size_toArray, List.length_cons, List.length_nil, Nat.reduceAdd, List.getElem?_toArray, List.getElem?_cons_zero, List.getElem?_cons_succ, Option.bind_some, Act.put, List.setIfInBounds_toArray, List.set_cons_zero, List.set_cons_succ] at hK ⊢
      rw [d5] at hK ⊢
      go_simp
      exact hK (.pointer (some ⟨B, 0, none⟩)) rfl _ rfl
    · obtain rfl := Option.some.inj ho.symm
      have d6 : V 6 = .pointer (some ⟨B, 0, none⟩) := hdep ⟨6, .data⟩ (by simp) rfl _ rfl
      clear hdep ho hR9 hc9
      try simp only [fill, slotOf, List.size_toArray, List.length_cons, List.length_nil, Nat.reduceAdd, List.getElem?_toArray, List.getElem?_cons_zero, List.getElem?_cons_succ, Option.bind_some, Act.put, List.setIfInBounds_toArray, List.set_cons_zero, List.set_cons_succ] at hK ⊢
      rw [d6] at hK ⊢
      go_simp
      exact hK (.pointer (some ⟨B, 2, none⟩)) rfl _ rfl
    · obtain rfl := Option.some.inj ho.symm
      have d7 : V 7 = .pointer (some ⟨B, 2, none⟩) := hdep ⟨7, .data⟩ (by simp) rfl _ rfl
      have u0 := cell_blk (HG3.out.below HR9.out) (i := 2) (u := .int .i64 u.sz) rfl
      clear hdep ho hR9 hc9
      try simp only [fill, slotOf, List.size_toArray, List.length_cons, List.length_nil, Nat.reduceAdd, List.getElem?_toArray, List.getElem?_cons_zero, List.getElem?_cons_succ, Option.bind_some, Act.put, List.setIfInBounds_toArray, List.set_cons_zero, List.set_cons_succ] at hK ⊢
      rw [d7] at hK ⊢
      go_simp
      exact hK (.int .i64 u.sz) rfl _ rfl
    · obtain rfl := Option.some.inj ho.symm
      have d4 : V 4 = .int .i64 E := hdep ⟨4, .data⟩ (by simp) rfl _ rfl
      have d8 : V 8 = .int .i64 u.sz := hdep ⟨8, .data⟩ (by simp) rfl _ rfl
      clear hdep ho hR9 hc9
      try simp only [fill, slotOf, List.size_toArray, List.length_cons, List.length_nil, Nat.reduceAdd, List.getElem?_toArray, List.getElem?_cons_zero, List.getElem?_cons_succ, Option.bind_some, Act.put, List.setIfInBounds_toArray, List.set_cons_zero, List.set_cons_succ] at hK ⊢
      rw [d4, d8] at hK ⊢
      go_simp
      exact hK (.int .i64 (p : Int)) rfl _ rfl
    · obtain rfl := Option.some.inj ho.symm
      clear hdep ho hR9 hc9
      try simp only [fill, slotOf, List.size_toArray, List.length_cons, List.length_nil, Nat.reduceAdd, List.getElem?_toArray, List.getElem?_cons_zero, List.getElem?_cons_succ, Option.bind_some, Act.put, List.setIfInBounds_toArray, List.set_cons_zero, List.set_cons_succ] at hK ⊢
      go_simp
      exact hK (.int .i64 E) rfl _ rfl
    · obtain rfl := Option.some.inj ho.symm
      clear hdep ho hR9 hc9
      try simp only [fill, slotOf, List.size_toArray, List.length_cons, List.length_nil, Nat.reduceAdd, List.getElem?_toArray, List.getElem?_cons_zero, List.getElem?_cons_succ, Option.bind_some, Act.put, List.setIfInBounds_toArray, List.set_cons_zero, List.set_cons_succ] at hK ⊢
      go_simp
      exact hK (.pointer (some ⟨B, 0, none⟩)) rfl _ rfl
    · obtain rfl := Option.some.inj ho.symm
      have d11 : V 11 = .pointer (some ⟨B, 0, none⟩) := hdep ⟨11, .data⟩ (by simp) rfl _ rfl
      clear hdep ho hR9 hc9
      try simp only [fill, slotOf, List.size_toArray, List.length_cons, List.length_nil, Nat.reduceAdd, List.getElem?_toArray, List.getElem?_cons_zero, List.getElem?_cons_succ, Option.bind_some, Act.put, List.setIfInBounds_toArray, List.set_cons_zero, List.set_cons_succ] at hK ⊢
      rw [d11] at hK ⊢
      go_simp
      exact hK (.pointer (some ⟨B, 0, none⟩)) rfl _ rfl
    · obtain rfl := Option.some.inj ho.symm
      have d12 : V 12 = .pointer (some ⟨B, 0, none⟩) := hdep ⟨12, .data⟩ (by simp) rfl _ rfl
      clear hdep ho hR9 hc9
      try simp only [fill, slotOf, List.size_toArray, List.length_cons, List.length_nil, Nat.reduceAdd, List.getElem?_toArray, List.getElem?_cons_zero, List.getElem?_cons_succ, Option.bind_some, Act.put, List.setIfInBounds_toArray, List.set_cons_zero, List.set_cons_succ] at hK ⊢
      rw [d12] at hK ⊢
      go_simp
      exact hK (.pointer (some ⟨B, 1, none⟩)) rfl _ rfl
    · obtain rfl := Option.some.inj ho.symm
      have d13 : V 13 = .pointer (some ⟨B, 1, none⟩) := hdep ⟨13, .data⟩ (by simp) rfl _ rfl
      have u0 := cell_blk (HG3.out.below HR9.out) (i := 1) (u := .slice u.da u.dn u.dc) rfl
      clear hdep ho hR9 hc9
      try simp only [fill, slotOf, List.size_toArray, List.length_cons, List.length_nil, Nat.reduceAdd, List.getElem?_toArray, List.getElem?_cons_zero, List.getElem?_cons_succ, Option.bind_some, Act.put, List.setIfInBounds_toArray, List.set_cons_zero, List.set_cons_succ] at hK ⊢
      rw [d13] at hK ⊢
      go_simp
      exact hK (.slice u.da u.dn u.dc) rfl _ rfl
    · obtain rfl := Option.some.inj ho.symm
      have d14 : V 14 = .slice u.da u.dn u.dc := hdep ⟨14, .data⟩ (by simp) rfl _ rfl
      clear hdep ho hR9 hc9
      try simp only [fill, slotOf, List.size_toArray, List.length_cons, List.length_nil, Nat.reduceAdd, List.getElem?_toArray, List.getElem?_cons_zero, List.getElem?_cons_succ, Option.bind_some, Act.put, List.setIfInBounds_toArray, List.set_cons_zero, List.set_cons_succ] at hK ⊢
      rw [d14] at hK ⊢
      go_simp
      exact hK (.int .i64 (u.dn : Int)) rfl _ rfl
    · obtain rfl := Option.some.inj ho.symm
      have d10 : V 10 = .int .i64 E := hdep ⟨10, .data⟩ (by simp) rfl _ rfl
      have d15 : V 15 = .int .i64 (u.dn : Int) := hdep ⟨15, .data⟩ (by simp) rfl _ rfl
      clear hdep ho hR9 hc9
      try simp only [fill, slotOf, List.size_toArray, List.length_cons, List.length_nil, Nat.reduceAdd, List.getElem?_toArray, List.getElem?_cons_zero, List.getElem?_cons_succ, Option.bind_some, Act.put, List.setIfInBounds_toArray, List.set_cons_zero, List.set_cons_succ] at hK ⊢
      rw [d10, d15] at hK ⊢
      go_simp
      exact hK (.int .i64 ((p : Int) + (m : Int))) rfl _ rfl
    · obtain rfl := Option.some.inj ho.symm
      have d3 : V 3 = .slice u.da u.dn u.dc := hdep ⟨3, .data⟩ (by simp) rfl _ rfl
      have d9 : V 9 = .int .i64 (p : Int) := hdep ⟨9, .data⟩ (by simp) rfl _ rfl
      have d16 : V 16 = .int .i64 ((p : Int) + (m : Int)) := hdep ⟨16, .data⟩ (by simp) rfl _ rfl
      clear hdep ho hR9 hc9
      try simp only [fill, slotOf, List.size_toArray, List.length_cons, List.length_nil, Nat.reduceAdd, List.getElem?_toArray, List.getElem?_cons_zero, List.getElem?_cons_succ, Option.bind_some, Act.put, List.setIfInBounds_toArray, List.set_cons_zero, List.set_cons_succ] at hK ⊢
      rw [d3, d9, d16] at hK ⊢
      go_simp
      exact hK (.slice a5 m (u.dc - p)) rfl _ rfl
    · cases hc9
    · cases hc9
  · intro i9 j9 o he9 ho V w9 K hS9 hdep hK
    simp only [fill, slotOf, List.size_toArray, List.length_cons, List.length_nil, Nat.reduceAdd, List.getElem?_toArray, List.getElem?_cons_zero, List.getElem?_cons_succ, Option.bind_some, Act.put, List.setIfInBounds_toArray, List.set_cons_zero, List.set_cons_succ] at hK ⊢
    have hin9 : i9 < 2 := (List.getElem?_eq_some_iff.1 he9).1
    have hcs : i9 = 0 ∨ i9 = 1 := by omega
    clear hin9
    rcases hcs with rfl | rfl
    · obtain rfl := Option.some.inj he9.symm
      obtain rfl := Option.some.inj ho.symm
      have d17 : V 17 = .slice a5 m (u.dc - p) := hdep ⟨17, .data⟩ (by simp) rfl _ rfl
      have hs : Below w2.heap.size w2 w9 := hS9
      have HCL := Lib.hid (clone_any ((HSB.out).kept hs))
      have HS9 := Lib.hid hs
      clear hdep ho he9 hS9 hs
      try simp only [fill, slotOf, List.size_toArray, List.length_cons, List.length_nil, Nat.reduceAdd, List.getElem?_toArray, List.getElem?_cons_zero, List.getElem?_cons_succ, Option.bind_some, Act.put, List.setIfInBounds_toArray, List.set_cons_zero, List.set_cons_succ] at hK ⊢
      rw [d17] at hK ⊢
      go_simp
      refine HCL.out.mono ?_
      rintro e w8 ⟨c9, c8, rfl, hb8, hbe8, hn8⟩
      exact hK _ w8 ⟨c9, c8, rfl, hb8, fun b off s e => Nat.le_trans HS9.out.size (hn8 b off s e), HS9.out.trans (hbe8.mono HS9.out.size)⟩ (fun y h => by cases h) _ rfl
    · obtain rfl := Option.some.inj he9.symm
      obtain rfl := Option.some.inj ho.symm
      have hs : ∃ c9 c8, V 18 = .slice c9 m c8 ∧ BytesAt w9 c9 m c8 ((dx.drop p).take m) ∧ (∀ b off s, c9 = some ⟨b, off, s⟩ → w2.heap.size ≤ b) ∧ Below w2.heap.size w2 w9 := hS9
      obtain ⟨c9, c8, e18, hb8, hn8, hbe8⟩ := hs
      have HS9 := Lib.hid (And.intro hb8 (And.intro hn8 hbe8))
      clear hdep ho he9 hS9 hb8 hn8 hbe8
      try simp only [fill, slotOf, List.size_toArray, List.length_cons, List.length_nil, Nat.reduceAdd, List.getElem?_toArray, List.getElem?_cons_zero, List.getElem?_cons_succ, Option.bind_some, Act.put, List.setIfInBounds_toArray, List.set_cons_zero, List.set_cons_succ] at hK ⊢
      rw [e18] at hK ⊢
      go_simp
      exact hK _ w9 ⟨c9, c8, rfl, HS9.out⟩ (fun y h => by cases h) _ rfl
  · intro V w4 hS9 hv9
    have hs : ∃ c9 c8, V 19 = .slice c9 m c8 ∧ BytesAt w4 c9 m c8 ((dx.drop p).take m) ∧ (∀ b off s, c9 = some ⟨b, off, s⟩ → w2.heap.size ≤ b) ∧ Below w2.heap.size w2 w4 := hS9
    obtain ⟨c9, c8, e19, hb8, hn8, hbe8⟩ := hs
    simp only [fill, slotOf, List.size_toArray, List.length_cons, List.length_nil, Nat.reduceAdd, List.getElem?_toArray, List.getElem?_cons_zero, List.getElem?_cons_succ, Option.bind_some, Act.put, List.setIfInBounds_toArray, List.set_cons_zero, List.set_cons_succ]
    rw [e19]
    clear e19 hv9 hS9
    have hg4 : UAt w4 B { u with told := true } := HG3.out.below hbe8
    have gr := (hbe8.block R HRL.out).trans HGR.out
    have HT4 := Lib.hid (HT2.out.below hbe8)
    have x4 := cell_blk hg4 (i := 4) (u := .int .i64 u.nx) rfl
    have x11 := cell_blk hg4 (i := 11) (u := .int .i64 u.id) rfl
  
    have q0 := cell_blk gr (i := 0) (u := .int .i64 0) rfl
    have p0 := fro_blk gr 0
    have q1 := cell_blk gr (i := 1) (u := .string { data := #[] }) rfl
    have p1 := fro_blk gr 1
    have q2 := cell_blk gr (i := 2) (u := .slice none 0 0) rfl
    have p2 := fro_blk gr 2
    have q3 := cell_blk gr (i := 3) (u := .int .i64 0) rfl
    have p3 := fro_blk gr 3
    have q4 := cell_blk gr (i := 4) (u := .int .i64 0) rfl
    have p4 := fro_blk gr 4
    have q5 := cell_blk gr (i := 5) (u := .int .i64 0) rfl
    have p5 := fro_blk gr 5
    have q6 := cell_blk gr (i := 6) (u := .int .i64 0) rfl
    have p6 := fro_blk gr 6
    obtain ⟨W9, hW9⟩ : ∃ W9, W9 = set7 w4 R (.int .i64 8) (.string { data := #[] }) (.slice c9 m c8) (.int .i64 0) (.int .i64 0) (.int .i64 u.nx) (.int .i64 u.id) := ⟨_, rfl⟩
    have g9 : W9.heap[R]? = some (.cells #[.int .i64 8, .string { data := #[] }, .slice c9 m c8, .int .i64 0, .int .i64 0, .int .i64 u.nx, .int .i64 u.id] 30 (0, 0)) := by rw [hW9]; exact set7_at gr (.int .i64 8) (.string { data := #[] }) (.slice c9 m c8) (.int .i64 0) (.int .i64 0) (.int .i64 u.nx) (.int .i64 u.id)
    have v0 := cell_blk g9 (i := 0) (u := .int .i64 8) rfl
    have v1 := cell_blk g9 (i := 1) (u := .string { data := #[] }) rfl
    have v2 := cell_blk g9 (i := 2) (u := .slice c9 m c8) rfl
    have v3 := cell_blk g9 (i := 3) (u := .int .i64 0) rfl
    have v4 := cell_blk g9 (i := 4) (u := .int .i64 0) rfl
    have v5 := cell_blk g9 (i := 5) (u := .int .i64 u.nx) rfl
    have v6 := cell_blk g9 (i := 6) (u := .int .i64 u.id) rfl
    have HGB := Lib.hid (show UAt W9 B { u with told := true } from by rw [hW9]; exact hg4.set7 HBR.out (.int .i64 8) (.string { data := #[] }) (.slice c9 m c8) (.int .i64 0) (.int .i64 0) (.int .i64 u.nx) (.int .i64 u.id))
    have HTB := Lib.hid (show Turns B w W9 from by rw [hW9]; exact HT4.out.set7 HRW.out (.int .i64 8) (.string { data := #[] }) (.slice c9 m c8) (.int .i64 0) (.int .i64 0) (.int .i64 u.nx) (.int .i64 u.id))
    have HW9x := hW9
    unfold set7 at hW9
    have HW9 := Lib.hid hW9
    clear hW9 g9 gr
    have HCB := Lib.hid (show BytesAt W9 c9 m c8 ((dx.drop p).take m) from by
      rw [HW9x]
      exact bytes_set7 hb8 (fun b off s e => by have := hn8 b off s e; have := HRL.out; omega))
    clear hb8 hn8 hbe8 hg4 HW9x
    go_upto_region 9 with fail
    go_region
    rw [← HW9.out]
    clear q0 p0 q1 p1 q2 p2 q3 p3 q4 p4 q5 p5 q6 p6
    go_wp2_with fail
    exact bodyPost_ret (v := .tuple #[.agg #[.int .i64 8, .string { data := #[] }, .slice c9 m c8, .int .i64 0, .int .i64 0, .int .i64 u.nx, .int .i64 u.id], .bool true]) (by simp [results, Try.results22, go_sem, v0, v1, v2, v3, v4, v5, v6]) rfl ⟨c9, c8, rfl, HCB.out.drew, HGB.out, HTB.out.drew⟩

end Go.Proofs.Ytodoklnohedolaa
end PkUC6_0
section PkUC6_1
/- A run's calls, told by the upload and done by the store, in one form. -/
namespace Go.Proofs.Ytodoklnohedolaa
open Go.RowKit
set_option linter.unusedVariables false

/-- the call of an upload that stands at st -/
def CallOk (y : World) (K : ByteArray) (D : List Nat) (s P : Nat) (st ki : Int) (ky : ByteArray) (a : Option Addr) (n c : Nat) (nn id : Int) : Prop :=
  (st = 0 ∧ ki = 7 ∧ ky = K ∧ a = none ∧ n = 0 ∧ c = 0 ∧ nn = 0 ∧ id = 0) ∨ (st = 1 ∧ ki = 8 ∧ ky = ByteArray.empty ∧ BytesAt y a n c (pieceD D s nn) ∧ 1 ≤ nn ∧ nn ≤ (P : Int)) ∨
  (st = 2 ∧ ki = 9 ∧ ky = ByteArray.empty ∧ a = none ∧ n = 0 ∧ c = 0 ∧ nn = (P : Int)) ∨ (st = 3 ∧ ki = 3 ∧ ky = K ∧ a = none ∧ n = 0 ∧ c = 0 ∧ nn = 0 ∧ id = 0) ∨ (st = 4 ∧ ki = 10 ∧ ky = ByteArray.empty ∧ a = none ∧ n = 0 ∧ c = 0 ∧ nn = 0)
variable {w w' : World} {S base B s P c : Nat} {K : ByteArray} {D : List Nat} {σ : DSto} {u : UG}
/-- what comes of it -/
def DidC (w : World) (S base : Nat) (K : ByteArray) (D : List Nat) (s P c : Nat) (σ : DSto) (st : Int) (e : Ending) (w' : World) : Prop :=
  ∃ (er v bo io : Int) (ra : Option Addr) (rn rc : Nat) (σ' : DSto), e = .returned (rep er (.slice ra rn rc) v bo io (.slice none 0 0) false) ∧ Did w w' S base K D s P c σ σ' ∧ ((st = 2 ∨ st = 3) → er = 0 → ∃ o, σ'.objs = [o] ∧ o.key = K ∧ o.data = D ∧ o.born = bo) ∧ (st = 3 → er = 0 → BytesAt w' ra rn rc D)
theorem did_any (h : DStAt w S base σ) (hS : base ≤ S) (hb : base ≤ w.heap.size) (hr : RunS K D s P c σ) (hc : c ≤ 100000) (hP : P ≤ 32) (hD : D.length ≤ P * s) {st ki : Int} {ky : ByteArray} {a : Option Addr} {n cc : Nat} {nn id : Int} (hk : CallOk w K D s P st ki ky a n cc nn id) :
    Calls Try.prog 21 #[.pointer (some ⟨S, 0, none⟩), .agg #[.int .i64 ki, .string ky, .slice a n cc, .int .i64 0, .int .i64 0, .int .i64 nn, .int .i64 id]] w (DidC w S base K D s P c σ st) := by
  rcases hk with ⟨rfl, rfl, rfl, rfl, rfl, rfl, rfl, rfl⟩ | ⟨rfl, rfl, rfl, hx, h1, h2⟩ | ⟨rfl, rfl, rfl, rfl, rfl, rfl, rfl⟩ | ⟨rfl, rfl, rfl, rfl, rfl, rfl, rfl, rfl⟩ | ⟨rfl, rfl, rfl, rfl, rfl, rfl, rfl⟩
  · refine (did_7 h hS hb hr hc).mono fun e w' hd => ?_
    obtain ⟨er, io, bo, σ', e1, hd, _⟩ := hd
    exact ⟨er, 0, bo, io, none, 0, 0, σ', e1, hd, (fun h => by rcases h with h | h <;> cases h), (fun h => by cases h)⟩
  · refine (did_8 h hS hb hr hP ⟨h1, h2⟩ hx).mono fun e w' hd => ?_
    obtain ⟨er, σ', e1, hd⟩ := hd
    exact ⟨er, 0, 0, 0, none, 0, 0, σ', e1, hd, (fun h => by rcases h with h | h <;> cases h), (fun h => by cases h)⟩
  · refine (did_9 h hS hb hr hc hD).mono fun e w' hd => ?_
    obtain ⟨er, v, bo, σ', e1, hd, ho⟩ := hd
    exact ⟨er, v, bo, 0, none, 0, 0, σ', e1, hd, (fun _ => ho), (fun h => by cases h)⟩
  · refine (did_3 h hS hb hr).mono fun e w' hd => ?_
    obtain ⟨hd, e1 | ⟨j, o, da, n, dc, _, hj, e1, hby⟩⟩ := hd
    · exact ⟨7, 0, 0, 0, none, 0, 0, σ, e1, hd, (fun _ h => by cases h), (fun _ h => by cases h)⟩
    · obtain ⟨g1, g2, g3⟩ := run_one hr hj
      exact ⟨0, o.ver, o.born, 0, da, n, dc, σ, e1, hd, (fun _ _ => ⟨o, g1, g2, g3, rfl⟩), (fun _ _ => hby)⟩
  · refine (did_10 h hS hb hr id).mono fun e w' hd => ?_
    obtain ⟨er, σ', e1, hd⟩ := hd
    exact ⟨er, 0, 0, 0, none, 0, 0, σ', e1, hd, (fun h => by rcases h with h | h <;> cases h), (fun h => by cases h)⟩
/-- the call that an upload tells -/
theorem next_run {da : Option Addr} {dn dc T W n : Nat} {objs : List DObj} (g : UAt w B u) (h : RnU K da dn dc s P T W D n objs u) (hst : u.st ≤ 4) {now : Int} (hr : u.rd ≤ now) (hby : BytesAt w da dn dc D) (hs : s ≤ 262144) (hP : P ≤ 32) (hpd : (P - 1) * s ≤ dn) (hl : dn ≤ P * s) :
    Calls Try.prog 22 #[.pointer (some ⟨B, 0, none⟩), .int .i64 now] w fun e w' => ∃ ki ky a m c nn id, e = .returned (.tuple #[.agg #[.int .i64 ki, .string ky, .slice a m c, .int .i64 0, .int .i64 0, .int .i64 nn, .int .i64 id], .bool true]) ∧ CallOk w' K D s P u.st ki ky a m c nn id ∧ UAt w' B { u with told := true } ∧ Turns B w w' := by
  obtain ⟨hk, hda, hdn, hdc, hsz, hpt, _, _⟩ := h.eq
  have hst0 := h.st.1
  by_cases h1 : u.st = 1
  · have hx := h.nx
    have hx3 := hx.2.2 (by omega)
    obtain ⟨k, hkk⟩ : ∃ k : Nat, u.nx = (k : Int) + 1 := ⟨(u.nx - 1).toNat, by omega⟩
    have hkP : k + 1 ≤ P := by omega
    have hkd : k * s ≤ dn := Nat.le_trans (Nat.mul_le_mul_right s (show k ≤ P - 1 by omega)) hpd
    refine (unext_part g (dx := D) (k := k) (s := s) (p := k * s) (m := min s (dn - k * s)) (by rw [hda, hdn, hdc]; exact hby) h.told hr h1 hkk hsz (by omega) hs rfl (by rw [hdn]; exact hkd) (by rw [hdn])).mono fun e w' hd => ?_
    obtain ⟨c9, c8, e1, hb9, hu, ht⟩ := hd
    refine ⟨8, ByteArray.empty, c9, _, c8, u.nx, u.id, e1, .inr (.inl ⟨h1, rfl, rfl, ?_, by omega, hx3⟩), hu, ht⟩
    have e2 : pieceD D s u.nx = (D.drop (k * s)).take (min s (dn - k * s)) := by
      unfold pieceD
      have e3 : u.nx.toNat - 1 = k := by omega
      rw [e3]
      have e4 : (D.drop (k * s)).length = dn - k * s := by rw [List.length_drop, hby.len]
      rw [← e4, Nat.min_comm, ← List.take_take]
      exact (List.take_of_length_le (by rw [List.length_take]; omega)).symm
    rw [e2]
    exact hb9
  · refine (unext_yes g h.told hr (by omega)).mono fun e w' hd => ?_
    obtain ⟨e1, hu, ht⟩ := hd
    unfold UG.callC at e1
    have hcs : u.st = 0 ∨ u.st = 2 ∨ u.st = 3 ∨ u.st = 4 := by omega
    rcases hcs with e | e | e | e
    · rw [if_pos e] at e1
      exact ⟨_, _, _, _, _, _, _, e1, .inl ⟨e, rfl, hk, rfl, rfl, rfl, rfl, rfl⟩, hu, ht⟩
    · rw [if_neg (by omega), if_pos e] at e1
      exact ⟨_, _, _, _, _, _, _, e1, .inr (.inr (.inl ⟨e, rfl, rfl, rfl, rfl, rfl, hpt⟩)), hu, ht⟩
    · rw [if_neg (by omega), if_neg (by omega), if_pos e] at e1
      exact ⟨_, _, _, _, _, _, _, e1, .inr (.inr (.inr (.inl ⟨e, rfl, hk, rfl, rfl, rfl, rfl, rfl⟩))), hu, ht⟩
    · rw [if_neg (by omega), if_neg (by omega), if_neg (by omega)] at e1
      exact ⟨_, _, _, _, _, _, _, e1, .inr (.inr (.inr (.inr ⟨e, rfl, rfl, rfl, rfl, rfl, rfl⟩))), hu, ht⟩
end Go.Proofs.Ytodoklnohedolaa
end PkUC6_1
section PkUC6_2
/- A reply taken within a run. -/
namespace Go.Proofs.Ytodoklnohedolaa
open Go.RowKit
set_option linter.unusedVariables false

variable {w w' : World} {S base B s P c : Nat} {K : ByteArray} {D : List Nat} {σ : DSto} {u : UG}
theorem takeF_told (u : UG) (b : Bool) (er bo io now : Int) (same : Bool) : UG.takeF { u with told := b } er bo io now same = u.takeF er bo io now same := rfl
theorem give_f (u : UG) : u.give.f = u.f := by unfold UG.give UG.ends; split <;> rfl
theorem fail_f (u : UG) (p : Bool) (now : Int) : u.f ≤ (u.failF p now).f := by
  unfold UG.failF
  split
  · split
    · exact Nat.le_succ _
    · rw [give_f]; exact Nat.le_succ _
  · rw [give_f]; exact Nat.le_refl _
theorem take_f (u : UG) (er bo io now : Int) (same : Bool) : u.f ≤ (u.takeF er bo io now same).f := by
  unfold UG.takeF UG.createdF UG.broughtF UG.completedF UG.lookedF UG.doneF UG.ends
  simp only
  repeat' split
  all_goals first
    | exact Nat.le_refl _
    | exact fail_f { u with told := false } _ _
    | exact fail_f { u with told := false, st := 3 } _ _
    | exact fail_f { u with told := false, st := 3, gone := true } _ _
theorem wSum_mono {W f g : Nat} (h : f ≤ g) : wSum W f ≤ wSum W g := by
  unfold wSum
  have := Nat.pow_le_pow_right (show 0 < 2 by decide) h
  exact Nat.mul_le_mul_left _ (by omega)
theorem take_run {da : Option Addr} {dn dc T W n : Nat} {objs objs' : List DObj} (g : UAt w B { u with told := true }) (h : RnU K da dn dc s P T W D n objs u) (hst : u.st ≤ 4) (hP : 1 ≤ P ∧ P ≤ 32) (hT : T ≤ 8) (hW : W ≤ 1000) (hby : BytesAt w da dn dc D) {er v bo io : Int} {ra : Option Addr} {rn rc : Nat} {now : Nat} (hw : now ≤ wSum W u.f) (hn : now ≤ 10000000) (ho : (u.st = 2 ∨ u.st = 3) → er = 0 → ∃ o, objs' = [o] ∧ o.key = K ∧ o.data = D ∧ o.born = bo) (hs : u.st = 3 → er = 0 → BytesAt w ra rn rc D) :
    Calls Try.prog 23 #[.pointer (some ⟨B, 0, none⟩), .agg #[.int .i64 er, .slice ra rn rc, .int .i64 v, .int .i64 bo, .int .i64 io, .slice none 0 0, .bool false], .int .i64 (now : Int)] w fun e w' => (∃ v, e = .returned v) ∧ ∃ u', UAt w' B u' ∧ RnU K da dn dc s P T W D (n + 1) objs' u' ∧ u.f ≤ u'.f ∧ Turns B w w' := by
  obtain ⟨hk, hda, hdn, hdc, hsz, hpt, htr, hwt⟩ := h.eq
  have hff := h.ff.1
  have hx := h.nx
  have hs0 := h.st.1
  have hT2 := take_ok h hst hP.1 (er := er) (bo := bo) (io := io) (same := true) hw ho
  refine (utake_any g (er := er) (v := v) (bo := bo) (io := io) (now := (now : Int)) (d := .slice ra rn rc) (l := .slice none 0 0) (mo := false) rfl ⟨hs0, hst⟩ (show u.f ≤ 10 by omega) ⟨by omega, by omega⟩ (fun _ => by show 0 ≤ u.wt ∧ u.wt ≤ 1000; omega) (by show 0 ≤ u.nx ∧ u.nx ≤ 1000000; omega) (same := true) (fun h3 h0 => ⟨ra, rn, rc, D, D, rfl, hs h3 h0, by show BytesAt w u.da u.dn u.dc D; rw [hda, hdn, hdc]; exact hby, by simp⟩)).mono fun e w' hd => ?_
  obtain ⟨e1, hu, ht⟩ := hd
  rw [takeF_told] at hu
  exact ⟨⟨_, e1⟩, _, hu, hT2, take_f _ _ _ _ _ _, ht⟩
set_option maxRecDepth 100000 in
theorem ustate_any (g : UAt w B u) :
    Calls Try.prog 18 #[.pointer (some ⟨B, 0, none⟩)] w fun e w' => e = .returned (.int .i64 u.state) ∧ w = w' := by
  have c14 := cell_blk g (i := 14) (u := .int .i64 u.state) rfl
  clear g
  go_enter Try.func18, Try.ntmps18
  go_wp2_with fail
  go_ret
  exact ⟨rfl, rfl⟩
set_option maxRecDepth 100000 in
theorem uborn_any (g : UAt w B u) :
    Calls Try.prog 20 #[.pointer (some ⟨B, 0, none⟩)] w fun e w' => e = .returned (.int .i64 u.born) ∧ w = w' := by
  have c15 := cell_blk g (i := 15) (u := .int .i64 u.born) rfl
  clear g
  go_enter Try.func20, Try.ntmps20
  go_wp2_with fail
  go_ret
  exact ⟨rfl, rfl⟩
end Go.Proofs.Ytodoklnohedolaa
end PkUC6_2
section PkUC6_3
/- A run of an upload in which nothing goes wrong, plainly; its calls and the store's answers. -/
namespace Go.Proofs.Ytodoklnohedolaa
open Go.RowKit
set_option linter.unusedVariables false

/-- nothing has gone wrong: by where the upload stands; n: the calls made -/
structure CalmS (K : ByteArray) (da : Option Addr) (dn dc s P : Nat) (D : List Nat) (n : Nat) (σ : DSto) (u : UG) : Prop where
  eq : u.key = K ∧ u.da = da ∧ u.dn = dn ∧ u.dc = dc ∧ u.sz = (s : Int) ∧ u.pt = (P : Int)
  f0 : u.f = 0 ∧ u.rd = 0 ∧ u.told = false
  now : σ.now = 0
  ids : 0 ≤ σ.id ∧ σ.id ≤ (n : Int) + 1 ∧ 0 ≤ σ.ver ∧ σ.ver ≤ (n : Int)
  std : (u.st = 0 ∧ n = 0 ∧ u.nx = 1 ∧ u.state = 0 ∧ σ.ups = [] ∧ σ.objs = []) ∨
    (∃ k p, (u.st = 1 ∧ k + 1 ≤ P ∨ u.st = 2 ∧ k = P) ∧ n = k + 1 ∧ u.nx = (k : Int) + 1 ∧ u.state = 0 ∧ σ.objs = [] ∧ σ.ups = [p] ∧ p.id = u.id ∧ p.key = K ∧ p.parts.length = k ∧ ∀ (i : Nat) (q : DPrt), p.parts[i]? = some q → q.n = (i : Int) + 1 ∧ q.data = pieceD D s q.n) ∨
    (u.st = 5 ∧ n = P + 2 ∧ u.state = 1 ∧ σ.ups = [] ∧ ∃ o, σ.objs = [o])
variable {w w' : World} {S base B s P n : Nat} {K : ByteArray} {D : List Nat} {σ : DSto} {u : UG} {da : Option Addr} {dn dc : Nat}
def CallC (y : World) (K : ByteArray) (D : List Nat) (s P : Nat) (u : UG) (ki : Int) (ky : ByteArray) (a : Option Addr) (m c : Nat) (nn id : Int) : Prop :=
  CallOk y K D s P u.st ki ky a m c nn id ∧ (u.st = 1 → nn = u.nx) ∧ (u.st = 1 ∨ u.st = 2 → id = u.id)
/-- the call that it tells -/
theorem next_calm (g : UAt w B u) (h : CalmS K da dn dc s P D n σ u) (hst : u.st ≠ 5) (hby : BytesAt w da dn dc D) (hs : s ≤ 262144) (hP : P ≤ 32) (hpd : (P - 1) * s ≤ dn) :
    Calls Try.prog 22 #[.pointer (some ⟨B, 0, none⟩), .int .i64 0] w fun e w' => ∃ ki ky a m c nn id, e = .returned (.tuple #[.agg #[.int .i64 ki, .string ky, .slice a m c, .int .i64 0, .int .i64 0, .int .i64 nn, .int .i64 id], .bool true]) ∧ CallC w' K D s P u ki ky a m c nn id ∧ UAt w' B { u with told := true } ∧ Turns B w w' := by
  obtain ⟨hk, hda, hdn, hdc, hsz, hpt⟩ := h.eq
  obtain ⟨hf, hrd, htl⟩ := h.f0
  have hr : u.rd ≤ 0 := by omega
  rcases h.std with ⟨h0, _⟩ | ⟨k, p, hk12, _, hnx, _⟩ | ⟨h5, _⟩
  · refine (unext_yes g htl hr (by omega)).mono fun e w' hd => ?_
    obtain ⟨e1, hu, ht⟩ := hd
    unfold UG.callC at e1
    rw [if_pos h0] at e1
    exact ⟨_, _, _, _, _, _, _, e1, ⟨.inl ⟨h0, rfl, hk, rfl, rfl, rfl, rfl, rfl⟩, (fun h => by omega), (fun h => by omega)⟩, hu, ht⟩
  · rcases hk12 with ⟨h1, hkP⟩ | ⟨h2, hkP⟩
    · have hkd : k * s ≤ dn := Nat.le_trans (Nat.mul_le_mul_right s (show k ≤ P - 1 by omega)) hpd
      refine (unext_part g (dx := D) (k := k) (s := s) (p := k * s) (m := min s (dn - k * s)) (by rw [hda, hdn, hdc]; exact hby) htl hr h1 hnx hsz (by omega) hs rfl (by rw [hdn]; exact hkd) (by rw [hdn])).mono fun e w' hd => ?_
      obtain ⟨c9, c8, e1, hb9, hu, ht⟩ := hd
      refine ⟨8, ByteArray.empty, c9, _, c8, u.nx, u.id, e1, ⟨.inr (.inl ⟨h1, rfl, rfl, ?_, by omega, by omega⟩), fun _ => rfl, fun _ => rfl⟩, hu, ht⟩
      have e2 : pieceD D s u.nx = (D.drop (k * s)).take (min s (dn - k * s)) := by
        unfold pieceD
        have e3 : u.nx.toNat - 1 = k := by omega
        rw [e3]
        have e4 : (D.drop (k * s)).length = dn - k * s := by rw [List.length_drop, hby.len]
        rw [← e4, Nat.min_comm, ← List.take_take]
        exact (List.take_of_length_le (by rw [List.length_take]; omega)).symm
      rw [e2]
      exact hb9
    · refine (unext_yes g htl hr (by omega)).mono fun e w' hd => ?_
      obtain ⟨e1, hu, ht⟩ := hd
      unfold UG.callC at e1
      rw [if_neg (by omega), if_pos h2] at e1
      exact ⟨_, _, _, _, _, _, _, e1, ⟨.inr (.inr (.inl ⟨h2, rfl, rfl, rfl, rfl, rfl, hpt⟩)), (fun h => by omega), fun _ => rfl⟩, hu, ht⟩
  · exact absurd h5 hst
theorem catD_all {l : List DPrt} : ∀ k : Nat, (∀ i : Nat, i < k → hasP l ((i + 1 : Nat) : Int) = true) → ∃ d, catD l k = some d
  | 0, _ => ⟨[], rfl⟩
  | k + 1, h => by
    obtain ⟨d, hd⟩ := catD_all k (fun i hi => h i (by omega))
    exact ⟨d ++ matchD l ((k + 1 : Nat) : Int), by
      unfold catD
      rw [hd]
      simp only
      rw [if_pos (h k (by omega))]⟩
theorem calm_upl {p : DUpl} {k : Nat} (hk : p.key = K) (hl : p.parts.length = k) (hkP : k ≤ P) (hq : ∀ (i : Nat) (q : DPrt), p.parts[i]? = some q → q.n = (i : Int) + 1 ∧ q.data = pieceD D s q.n) : UplIn K D s P p := by
  refine ⟨hk, fun q hm => ?_, ?_⟩
  · obtain ⟨i, hi, e⟩ := List.getElem_of_mem hm
    obtain ⟨h1, h2⟩ := hq i q (by rw [List.getElem?_eq_getElem hi, e])
    exact ⟨h2, by omega, by omega⟩
  · rw [List.pairwise_iff_getElem]
    intro i j hi hj hij e
    obtain ⟨h1, _⟩ := hq i _ (List.getElem?_eq_getElem hi)
    obtain ⟨h2, _⟩ := hq j _ (List.getElem?_eq_getElem hj)
    omega
/-- what comes of it -/
def DidK (w : World) (S base : Nat) (K : ByteArray) (da : Option Addr) (dn dc s P : Nat) (D : List Nat) (n : Nat) (σ : DSto) (u : UG) (e : Ending) (w' : World) : Prop :=
  ∃ (v bo io : Int) (σ' : DSto), e = .returned (rep 0 (.slice none 0 0) v bo io (.slice none 0 0) false) ∧ DStAt w' S base σ' ∧ Frm (DF S σ) w w' ∧ CalmS K da dn dc s P D (n + 1) σ' (u.takeF 0 bo io 0 true)
theorem did_calm (h : DStAt w S base σ) (hS : base ≤ S) (hb : base ≤ w.heap.size) (hc : CalmS K da dn dc s P D n σ u) (hK : isKeyB K = true) (hst : u.st ≠ 5) (hP : 1 ≤ P ∧ P ≤ 32) (hs : s ≤ 262144) (hD : D.length = dn ∧ dn ≤ 3000) (hpd : (P - 1) * s ≤ dn) (hl : dn ≤ P * s) {ki : Int} {ky : ByteArray} {a : Option Addr} {m cc : Nat} {nn id : Int} (hk : CallC w K D s P u ki ky a m cc nn id) :
    Calls Try.prog 21 #[.pointer (some ⟨S, 0, none⟩), .agg #[.int .i64 ki, .string ky, .slice a m cc, .int .i64 0, .int .i64 0, .int .i64 nn, .int .i64 id]] w (DidK w S base K da dn dc s P D n σ u) := by
  obtain ⟨hco, hn1, hid1⟩ := hk
  obtain ⟨i0, i1, v0, v1⟩ := hc.ids
  have hu0 : ({ u with told := false } : UG) = u := by rw [← hc.f0.2.2]
  rcases hc.std with ⟨h0, hn0, hnx, hs0, hups, hobj⟩ | ⟨k, p, hk12, hn, hnx, hs0, hobj, hups, hpid, hpk, hpl, hq⟩ | ⟨h5, _⟩
  · rcases hco with ⟨_, rfl, rfl, rfl, rfl, rfl, rfl, rfl⟩ | ⟨h1, _⟩ | ⟨h1, _⟩ | ⟨h1, _⟩ | ⟨h1, _⟩
    · refine (ddo_7 h hb ⟨i0, by omega⟩).mono fun e w' hd => ?_
      obtain ⟨_, _, d3⟩ := hd
      obtain ⟨e1, ⟨ua, uc, hst'⟩, hfr⟩ := d3 hK (by rw [hups]; decide)
      refine ⟨0, σ.now, σ.id + 1, _, e1, hst', hfr, ?_⟩
      unfold UG.takeF
      simp only [hu0]
      rw [if_pos h0]
      unfold UG.createdF
      rw [if_pos rfl]
      refine ⟨hc.eq, hc.f0, hc.now, ⟨by show 0 ≤ σ.id + 1; omega, by show σ.id + 1 ≤ ((n + 1 : Nat) : Int) + 1; omega, v0, by show σ.ver ≤ ((n + 1 : Nat) : Int); omega⟩, .inr (.inl ⟨0, ⟨σ.id + 1, σ.now, ky, none, 0, 0, []⟩, .inl ⟨rfl, by omega⟩, by omega, by show u.nx = _; omega, hs0, hobj, by show σ.ups ++ _ = _; rw [hups]; rfl, rfl, rfl, rfl, fun i q hq => by cases hq⟩)⟩
    · omega
    · omega
    · omega
    · omega
  · have hin := calm_upl (P := P) hpk hpl (by omega) hq
    have hfi : σ.ups.findIdx? (fun u' => decide (u'.id = u.id)) = some 0 := by
      rw [hups, List.findIdx?_cons, if_pos (by simp [hpid])]
    have hg0 : σ.ups[0]? = some p := by rw [hups]; rfl
    have hup := h.upl p (by rw [hups]; exact List.mem_singleton.2 rfl)
    rcases hk12 with ⟨h1, hkP⟩ | ⟨h2, hkP⟩
    · have hne : ∀ q ∈ p.parts, q.n ≠ u.nx := fun q hm e => by
        obtain ⟨i, hi, e2⟩ := List.getElem_of_mem hm
        obtain ⟨h3, _⟩ := hq i q (by rw [List.getElem?_eq_getElem hi, e2])
        omega
      have hprt : prtF p.parts u.nx = p.parts := by
        unfold prtF
        rw [List.filter_eq_self]
        intro q hm
        simp [hne q hm]
      have hps : psum p.parts ≤ 3000 := by
        have h3 := sum_bound (fun p : DPrt => p.dn) (B := s) (l := p.parts) (fun q hm => by
          have h4 := (hup.prt q hm).len
          obtain ⟨i, hi, e2⟩ := List.getElem_of_mem hm
          obtain ⟨_, h5⟩ := hq i q (by rw [List.getElem?_eq_getElem hi, e2])
          rw [h5] at h4
          unfold pieceD at h4
          rw [List.length_take] at h4
          show q.dn ≤ s
          omega)
        have h6 : s * p.parts.length ≤ (P - 1) * s := by rw [hpl, Nat.mul_comm]; exact Nat.mul_le_mul_right s (by omega)
        unfold psum
        omega
      have hsum : osum σ.objs + usum σ.ups ≤ 3000 := by
        rw [hobj, hups]
        unfold osum usum
        simp
        exact hps
      rcases hco with ⟨h9, _⟩ | ⟨_, rfl, rfl, hx, hn2, hn3⟩ | ⟨h9, _⟩ | ⟨h9, _⟩ | ⟨h9, _⟩
      · omega
      · obtain rfl := hn1 h1
        obtain rfl := hid1 (.inl h1)
        refine (ddo_8 h hx hb (fun j u' _ hj _ _ => prt_few (P := P) (K := K) (D := D) (s := s) (by
          rw [hups] at hj
          rcases j with _ | j
          · cases hj; exact hin
          · cases hj) hP.2 ⟨hn2, hn3⟩)).mono fun e w' hd => ?_
        unfold Do8 at hd
        rw [hfi] at hd
        obtain ⟨hfr, _, hz⟩ := hd p hg0
        have hm3 : m ≤ 3000 := by
          have h4 := hx.len
          unfold pieceD at h4
          rw [List.length_take, List.length_drop] at h4
          omega
        have hz0 : prtDE σ p u.nx m = 0 := by
          unfold prtDE
          rw [if_neg (by omega), if_neg (by omega), if_neg (by omega)]
        obtain ⟨e1, ua, uc, pa, pn, pc, da', dc', hst', _⟩ := hz hz0
        refine ⟨0, 0, 0, _, e1, hst', hfr, ?_⟩
        unfold UG.takeF
        simp only [hu0]
        rw [if_neg (by omega), if_pos h1]
        unfold UG.broughtF
        rw [if_pos rfl]
        obtain ⟨x1, x2, x3, x4, x5, x6⟩ := hc.eq
        have hparts : ∀ (i : Nat) (q : DPrt), (p.parts ++ [(⟨u.nx, da', m, dc', pieceD D s u.nx⟩ : DPrt)])[i]? = some q → q.n = (i : Int) + 1 ∧ q.data = pieceD D s q.n := fun i q hq2 => by
          rcases Nat.lt_or_ge i p.parts.length with g | g
          · rw [List.getElem?_append_left g] at hq2
            exact hq i q hq2
          · rw [List.getElem?_append_right g] at hq2
            obtain ⟨j, hj⟩ : ∃ j, j = i - p.parts.length := ⟨_, rfl⟩
            rw [← hj] at hq2
            rcases j with _ | j
            · cases hq2
              exact ⟨by show u.nx = _; omega, rfl⟩
            · cases hq2
        have hups2 : σ.ups.set 0 { p with pa := pa, pn := pn, pc := pc, parts := prtF p.parts u.nx ++ [⟨u.nx, da', m, dc', pieceD D s u.nx⟩] } = [{ p with pa := pa, pn := pn, pc := pc, parts := p.parts ++ [⟨u.nx, da', m, dc', pieceD D s u.nx⟩] }] := by rw [hups, hprt]; rfl
        split
        · rename_i hlt
          rw [x6] at hlt
          exact ⟨hc.eq, hc.f0, hc.now, ⟨i0, by show σ.id ≤ ((n + 1 : Nat) : Int) + 1; omega, v0, by show σ.ver ≤ ((n + 1 : Nat) : Int); omega⟩, .inr (.inl ⟨k + 1, _, .inr ⟨rfl, by omega⟩, by omega, by show u.nx + 1 = _; push_cast; omega, hs0, hobj, hups2, hpid, hpk, by show (p.parts ++ [_]).length = _; rw [List.length_append, hpl]; rfl, hparts⟩)⟩
        · rename_i hlt
          rw [x6] at hlt
          exact ⟨hc.eq, hc.f0, hc.now, ⟨i0, by show σ.id ≤ ((n + 1 : Nat) : Int) + 1; omega, v0, by show σ.ver ≤ ((n + 1 : Nat) : Int); omega⟩, .inr (.inl ⟨k + 1, _, .inl ⟨h1, by omega⟩, by omega, by show u.nx + 1 = _; push_cast; omega, hs0, hobj, hups2, hpid, hpk, by show (p.parts ++ [_]).length = _; rw [List.length_append, hpl]; rfl, hparts⟩)⟩
      · omega
      · omega
      · omega
    · rcases hco with ⟨h9, _⟩ | ⟨h9, _⟩ | ⟨_, rfl, rfl, rfl, rfl, rfl, rfl⟩ | ⟨h9, _⟩ | ⟨h9, _⟩
      · omega
      · omega
      · obtain rfl := hid1 (.inr h2)
        refine (ddo_9 h hb ⟨v0, by omega⟩).mono fun e w' hd => ?_
        unfold Do9 at hd
        rw [hfi] at hd
        obtain ⟨hfr, _, hz⟩ := hd p hg0
        obtain ⟨d, hd9⟩ := catD_all (l := p.parts) P (fun i hi => by
          have hil : i < p.parts.length := by omega
          obtain ⟨h3, _⟩ := hq i _ (List.getElem?_eq_getElem hil)
          unfold hasP
          rw [List.any_eq_true]
          exact ⟨_, List.getElem_mem hil, by rw [decide_eq_true_eq, h3]; push_cast; rfl⟩)
        have hdd := com_data hin (by omega) hd9
        have hz0 : comDE σ p (P : Int) = 0 := by
          unfold comDE
          rw [if_neg (by omega), Int.toNat_natCast, hd9]
          simp only
          rw [if_neg (by rw [hdd]; omega), if_neg (by rw [hobj]; simp)]
        obtain ⟨d', _, e1, ua, uc, oa, oc, da', dc', hst', _⟩ := hz hz0
        refine ⟨_, _, 0, _, e1, hst', hfr, ?_⟩
        unfold UG.takeF
        simp only [hu0]
        rw [if_neg (by omega), if_neg (by omega), if_pos h2]
        unfold UG.completedF
        rw [if_pos rfl]
        unfold UG.doneF UG.ends
        refine ⟨hc.eq, hc.f0, hc.now, ⟨i0, by show σ.id ≤ ((n + 1 : Nat) : Int) + 1; omega, by show 0 ≤ σ.ver + 1; omega, by show σ.ver + 1 ≤ ((n + 1 : Nat) : Int); omega⟩, .inr (.inr ⟨rfl, by omega, rfl, by show outK σ.ups 0 = []; rw [hups]; rfl, ?_⟩)⟩
        exact ⟨_, putL_one (by rw [hobj]; exact Nat.zero_le _) (fun x hx => by rw [hobj] at hx; cases hx) rfl⟩
      · omega
      · omega
  · exact absurd h5 hst
end Go.Proofs.Ytodoklnohedolaa
end PkUC6_3
section PkUC6_4
/- The world of a run. Written by genrun.py. -/
namespace Go.Proofs.Ytodoklnohedolaa
open Go.RowKit
set_option linter.unusedVariables false

theorem wSum_le8 {W f : Nat} (hW : W ≤ 3) (hf : f ≤ 8) : wSum W f ≤ 765 := by
  unfold wSum
  have h : 2 ^ f ≤ 2 ^ 8 := Nat.pow_le_pow_right (by decide) hf
  calc W * (2 ^ f - 1) ≤ 3 * (2 ^ 8 - 1) := Nat.mul_le_mul hW (by omega)
    _ ≤ 765 := by decide
/-- the world of a run, at each round -/
structure RunW (w0 : World) (h0 B S base : Nat) (K : ByteArray) (da : Option Addr) (dn dc s P T W : Nat) (D : List Nat) (n now : Nat) (σ : DSto) (u : UG) (wr : World) : Prop where
  up : UAt wr B u
  st : DStAt wr S base σ
  rs : RunS K D s P n σ
  ru : RnU K da dn dc s P T W D n σ.objs u
  dat : BytesAt wr da dn dc D
  clk : σ.now = (now : Int)
  wait : now ≤ wSum W u.f
  old : Below h0 w0 wr
  sep : h0 ≤ B ∧ B < base ∧ base ≤ S ∧ h0 ≤ w0.heap.size
  row : ∀ b off x, da = some ⟨b, off, x⟩ → b < base
variable {w0 wr w' : World} {h0 B S base dn dc s P T W n now : Nat} {K : ByteArray} {da : Option Addr} {D : List Nat} {σ : DSto} {u : UG}
theorem RunW.turns (h : RunW w0 h0 B S base K da dn dc s P T W D n now σ u wr) (hu : UAt w' B u) (ht : Turns B wr w') : RunW w0 h0 B S base K da dn dc s P T W D n now σ u w' :=
  ⟨hu, h.st.turns h.sep.2.2.1 h.sep.2.1 ht, h.rs, h.ru, bytes_turns h.up h.dat ht, h.clk, h.wait, ht.old h.old h.sep.1 (by have := h.old.size; have := h.sep.2.2.2; omega), h.sep, h.row⟩
theorem RunW.below (h : RunW w0 h0 B S base K da dn dc s P T W D n now σ u wr) (hb : Below wr.heap.size wr w') : RunW w0 h0 B S base K da dn dc s P T W D n now σ u w' :=
  ⟨h.up.below hb, h.st.below hb, h.rs, h.ru, h.dat.kept hb, h.clk, h.wait, h.old.trans (hb.mono (by have := h.old.size; have := h.sep.2.2.2; omega)), h.sep, h.row⟩
theorem RunW.bound (h : RunW w0 h0 B S base K da dn dc s P T W D n now σ u wr) (hP : 1 ≤ P ∧ P ≤ 32) (hT : T ≤ 8) (hW : W ≤ 3) : n + now ≤ 900 := by
  have h1 := h.ru.ff.1
  have h2 := h.wait
  have h3 := wSum_le8 hW (show u.f ≤ 8 by omega)
  have h4 := h.ru.calls
  have h5 := h.ru.st
  have h6 := h.ru.nx
  unfold callsOk at h4
  obtain ⟨a0, a1, a2, a3, a4, a5⟩ := h4
  have hcs : u.st = 0 ∨ u.st = 1 ∨ u.st = 2 ∨ u.st = 3 ∨ u.st = 4 ∨ u.st = 5 := by omega
  rcases hcs with e | e | e | e | e | e
  · have := a0 e; omega
  · have := a1 e; omega
  · have := a2 e; omega
  · have := a3 e; omega
  · have := a4 e; omega
  · have := a5 e; omega
theorem CallOk.kept {y y' : World} {st ki : Int} {ky : ByteArray} {a : Option Addr} {m c : Nat} {nn id : Int} (h : CallOk y K D s P st ki ky a m c nn id) (hb : Below y.heap.size y y') : CallOk y' K D s P st ki ky a m c nn id := by
  rcases h with g | ⟨h1, h2, h3, h4, h5⟩ | g | g | g
  · exact .inl g
  · exact .inr (.inl ⟨h1, h2, h3, h4.kept hb, h5⟩)
  · exact .inr (.inr (.inl g))
  · exact .inr (.inr (.inr (.inl g)))
  · exact .inr (.inr (.inr (.inr g)))
theorem RunW.tick (h : RunW w0 h0 B S base K da dn dc s P T W D n now σ u wr) (hst : DStAt w' S base { σ with now := σ.now + 1 }) (hg : wr.grownBy w' (some S)) (hw : now + 1 ≤ wSum W u.f) : RunW w0 h0 B S base K da dn dc s P T W D n (now + 1) { σ with now := σ.now + 1 } u w' := by
  have hbe : Below base wr w' := ⟨hg.os, hg.tape, hg.output, hg.size, fun b hb => hg.block b (by have := h.st.lt (b := S) (.inl rfl); have := h.sep.2.2.1; omega) (fun e => by have := Option.some.inj e; have := h.sep.2.2.1; omega)⟩
  have hh : h0 ≤ base := by have := h.sep; omega
  exact ⟨h.up.bel h.sep.2.1 hbe, hst, ⟨h.rs.obj, h.rs.upl, h.rs.one, h.rs.ver, h.rs.ids⟩, h.ru, bytes_bel h.dat h.row hbe, by show σ.now + 1 = ((now + 1 : Nat) : Int); rw [h.clk]; rfl, hw, h.old.trans (hbe.mono hh), h.sep, h.row⟩

/-- nothing of bytes stands in block R -/
def NoB (w : World) (R : Nat) : Prop := ∀ i x, w.cell? ⟨R, i, none⟩ ≠ some (.int .u8 x)
theorem bytes_but {y y' : World} {a : Option Addr} {m c R : Nat} {xs : List Nat} (h : BytesAt y a m c xs) (hR : NoB y R) (hs : y.heap.size ≤ y'.heap.size) (hb : ∀ b, b < y.heap.size → b ≠ R → y'.heap[b]? = y.heap[b]?) : BytesAt y' a m c xs :=
  ⟨h.len, h.cap, h.byte, h.reach, h.capm, h.nl, fun hn => by
    obtain ⟨b, off, e, hlt, hc⟩ := h.cells hn
    have hne : b ≠ R := fun e2 => by subst e2; exact hR _ _ (hc 0 hn)
    refine ⟨b, off, e, Nat.lt_of_lt_of_le hlt hs, fun i hi => ?_⟩
    rw [← hc i hi]
    unfold World.cell?
    rw [hb b hlt hne]⟩
theorem noB_rep {y : World} {R : Nat} {er v bo io : Int} {d l : Value} {mo : Bool} {t : TypeId} (g : y.heap[R]? = some (.cells #[.int .i64 er, d, .int .i64 v, .int .i64 bo, .int .i64 io, l, .bool mo] t (0, 0))) (hd : ∀ x, d ≠ .int .u8 x) (hl : ∀ x, l ≠ .int .u8 x) : NoB y R := fun i x h => by
  rw [cell_of_row y _ _ _ _ (0, 0) g] at h
  rcases i with _ | _ | _ | _ | _ | _ | _ | i
  · simp at h
  · simp at h; exact hd _ h
  · simp at h
  · simp at h
  · simp at h
  · simp at h; exact hl _ h
  · simp at h
  · simp at h
theorem noB_sto {y : World} {σ : DSto} (h : DStAt y S base σ) : NoB y S := fun i x g => by
  rw [cell_of_row y _ _ _ _ (0, 0) h.blk] at g
  rcases i with _ | _ | _ | _ | _ | i <;> simp at g
theorem CallOk.but {y y' : World} {R : Nat} {st ki : Int} {ky : ByteArray} {a : Option Addr} {m c : Nat} {nn id : Int} (h : CallOk y K D s P st ki ky a m c nn id) (hR : NoB y R) (hs : y.heap.size ≤ y'.heap.size) (hb : ∀ b, b < y.heap.size → b ≠ R → y'.heap[b]? = y.heap[b]?) : CallOk y' K D s P st ki ky a m c nn id := by
  rcases h with g | ⟨h1, h2, h3, h4, h5⟩ | g | g | g
  · exact .inl g
  · exact .inr (.inl ⟨h1, h2, h3, bytes_but h4 hR hs hb, h5⟩)
  · exact .inr (.inr (.inl g))
  · exact .inr (.inr (.inr (.inl g)))
  · exact .inr (.inr (.inr (.inr g)))
/-- behind a call: the reply in its box, at rb; c: the calls counted -/
structure JnU (w0 : World) (h0 B S base : Nat) (K : ByteArray) (da : Option Addr) (dn dc s P : Nat) (D : List Nat) (c now : Nat) (u : UG) (rb : Nat) (er v bo io : Int) (ra : Option Addr) (rn rc : Nat) (σ : DSto) (w : World) : Prop where
  rp : w.heap[rb]? = some (.cells #[.int .i64 er, .slice ra rn rc, .int .i64 v, .int .i64 bo, .int .i64 io, .slice none 0 0, .bool false] 36 (0, 0))
  up : UAt w B { u with told := true }
  st : DStAt w S base σ
  rs : RunS K D s P c σ
  dat : BytesAt w da dn dc D
  clk : σ.now = (now : Int)
  old : Below h0 w0 w
  ob : (u.st = 2 ∨ u.st = 3) → er = 0 → ∃ o, σ.objs = [o] ∧ o.key = K ∧ o.data = D ∧ o.born = bo
  got : u.st = 3 → er = 0 → BytesAt w ra rn rc D
  hrb : base ≤ rb
  sep : h0 ≤ B ∧ B < base ∧ base ≤ S ∧ h0 ≤ w0.heap.size
  row : ∀ b off x, da = some ⟨b, off, x⟩ → b < base
section
variable {c rb rn rc : Nat} {er v bo io : Int} {ra : Option Addr}
theorem JnU.more (h : JnU w0 h0 B S base K da dn dc s P D c now u rb er v bo io ra rn rc σ wr) : JnU w0 h0 B S base K da dn dc s P D (c + 1) now u rb er v bo io ra rn rc σ wr :=
  { h with rs := h.rs.up }
theorem JnU.big (h : JnU w0 h0 B S base K da dn dc s P D c now u rb er v bo io ra rn rc σ wr) : base ≤ wr.heap.size := by
  have := h.st.lt (b := S) (.inl rfl); have := h.sep; omega
theorem JnU.below (h : JnU w0 h0 B S base K da dn dc s P D c now u rb er v bo io ra rn rc σ wr) (hb : Below wr.heap.size wr w') : JnU w0 h0 B S base K da dn dc s P D c now u rb er v bo io ra rn rc σ w' :=
  ⟨(hb.block rb (Array.getElem?_eq_some_iff.1 h.rp).1).trans h.rp, h.up.below hb, h.st.below hb, h.rs, h.dat.kept hb, h.clk, h.old.trans (hb.mono (by have := h.big; have := h.sep; omega)), h.ob, fun e1 e2 => (h.got e1 e2).kept hb, h.hrb, h.sep, h.row⟩
theorem JnU.did (h : JnU w0 h0 B S base K da dn dc s P D c now u rb er v bo io ra rn rc σ wr) {σ' : DSto} (hd : Did wr w' S base K D s P c σ σ') (he : er ≠ 0) : JnU w0 h0 B S base K da dn dc s P D (c + 1) now u rb er v bo io ra rn rc σ' w' := by
  have hr := hd.frm.at h.rp (fun hd => by
    obtain ⟨cs', t', g, gt⟩ := h.st.ty hd
    rw [h.rp] at g
    simp at g
    exact rep_notD (g.2 ▸ gt))
  exact ⟨hr, h.up.bel h.sep.2.1 hd.bel, hd.st, hd.run, bytes_bel h.dat h.row hd.bel, hd.now.trans h.clk, h.old.trans (hd.bel.mono (by have := h.sep; omega)), fun _ e => absurd e he, fun _ e => absurd e he, h.hrb, h.sep, h.row⟩
theorem JnU.set (h : JnU w0 h0 B S base K da dn dc s P D c now u rb er v bo io ra rn rc σ wr) {er' v' bo' io' : Int} {ra' : Option Addr} {rn' rc' : Nat} (ho : (u.st = 2 ∨ u.st = 3) → er' = 0 → ∃ o, σ.objs = [o] ∧ o.key = K ∧ o.data = D ∧ o.born = bo') (hg : u.st = 3 → er' = 0 → BytesAt wr ra' rn' rc' D) : JnU w0 h0 B S base K da dn dc s P D c now u rb er' v' bo' io' ra' rn' rc' σ (set7 wr rb (.int .i64 er') (.slice ra' rn' rc') (.int .i64 v') (.int .i64 bo') (.int .i64 io') (.slice none 0 0) (.bool false)) := by
  have hno : NoB wr rb := noB_rep h.rp (fun x e => by cases e) (fun x e => by cases e)
  have ht : Turns rb wr (set7 wr rb (.int .i64 er') (.slice ra' rn' rc') (.int .i64 v') (.int .i64 bo') (.int .i64 io') (.slice none 0 0) (.bool false)) := by
    unfold Go.Proofs.Ytodoklnohedolaa.set7
    exact (((((((Turns.refl rb wr).set 0 _).set 1 _).set 2 _).set 3 _).set 4 _).set 5 _).set 6 _
  have hbut : ∀ {a : Option Addr} {m c : Nat} {xs : List Nat}, BytesAt wr a m c xs → BytesAt (set7 wr rb (.int .i64 er') (.slice ra' rn' rc') (.int .i64 v') (.int .i64 bo') (.int .i64 io') (.slice none 0 0) (.bool false)) a m c xs := fun g => bytes_but g hno ht.size (fun b hb hne => ht.block b hb hne)
  exact ⟨set7_at h.rp _ _ _ _ _ _ _, h.up.set7 (by have := h.sep; have := h.hrb; omega) _ _ _ _ _ _ _, h.st.frmT h.rp rep_notD ⟨ht.os, ht.tape, ht.output, ht.size, fun k hk hne => ht.block k hk hne⟩, h.rs, hbut h.dat, h.clk, h.old.trans ⟨ht.os, ht.tape, ht.output, ht.size, fun k hk => ht.block k (by have := h.big; have := h.sep; omega) (by have := h.hrb; have := h.sep; omega)⟩, ho, fun e1 e2 => hbut (hg e1 e2), h.hrb, h.sep, h.row⟩
theorem JnU.drop (h : JnU w0 h0 B S base K da dn dc s P D c now u rb er v bo io ra rn rc σ wr) (he : er ≠ 0) : JnU w0 h0 B S base K da dn dc s P D c now u rb er v bo io ra rn rc { σ with ua := none, uc := 0, ups := [] } (wr.setCell ⟨S, 1, none⟩ (.slice none 0 0)) := by
  have ht : Turns S wr (wr.setCell ⟨S, 1, none⟩ (.slice none 0 0)) := (Turns.refl S wr).set 1 _
  have hrS : rb ≠ S := fun e => by
    have := h.st.blk
    rw [← e, h.rp] at this
    simp at this
  exact ⟨(ht.block rb (Array.getElem?_eq_some_iff.1 h.rp).1 hrS).trans h.rp, h.up.setNew (by have := h.sep; omega) 1 _, h.st.noUps, h.rs.noUps, bytes_but h.dat (noB_sto h.st) ht.size (fun b hb hne => ht.block b hb hne), h.clk, h.old.trans ⟨ht.os, ht.tape, ht.output, ht.size, fun k hk => ht.block k (by have := h.big; have := h.sep; omega) (by have := h.sep; omega)⟩, fun _ e => absurd e he, fun _ e => absurd e he, h.hrb, h.sep, h.row⟩
theorem JnU.end9 (h : JnU w0 h0 B S base K da dn dc s P D c now u rb er v bo io ra rn rc σ wr) {u' : UG} (hu : UAt w' B u') (hr : RnU K da dn dc s P T W D c σ.objs u') (hw : now ≤ wSum W u'.f) (ht : Turns B wr w') : RunW w0 h0 B S base K da dn dc s P T W D c now σ u' w' :=
  ⟨hu, h.st.turns h.sep.2.2.1 h.sep.2.1 ht, h.rs, hr, bytes_turns h.up h.dat ht, h.clk, hw, ht.old h.old h.sep.1 (by have := h.old.size; have := h.sep.2.2.2; omega), h.sep, h.row⟩
end
end Go.Proofs.Ytodoklnohedolaa
end PkUC6_4
section PkUC6_5
/- The run of an upload in which nothing goes wrong, walked. Written by genrunc.py. -/
namespace Go.Proofs.Ytodoklnohedolaa
open Go.RowKit
set_option linter.unusedVariables false
set_option linter.unusedSimpArgs false

/-- the world of such a run, at each round -/
structure RunC (w0 : World) (h0 B S base : Nat) (K : ByteArray) (da : Option Addr) (dn dc s P : Nat) (D : List Nat) (n : Nat) (σ : DSto) (u : UG) (wr : World) : Prop where
  up : UAt wr B u
  st : DStAt wr S base σ
  cs : CalmS K da dn dc s P D n σ u
  dat : BytesAt wr da dn dc D
  old : Below h0 w0 wr
  sep : h0 ≤ B ∧ B < base ∧ base ≤ S ∧ h0 ≤ w0.heap.size
  row : ∀ b off x, da = some ⟨b, off, x⟩ → b < base
/-- behind a call -/
structure JnC (w0 : World) (h0 B S base : Nat) (K : ByteArray) (da : Option Addr) (dn dc s P : Nat) (D : List Nat) (n : Nat) (u : UG) (rb : Nat) (v bo io : Int) (σ : DSto) (w : World) : Prop where
  rp : w.heap[rb]? = some (.cells #[.int .i64 0, .slice none 0 0, .int .i64 v, .int .i64 bo, .int .i64 io, .slice none 0 0, .bool false] 36 (0, 0))
  up : UAt w B { u with told := true }
  st : DStAt w S base σ
  cs : CalmS K da dn dc s P D (n + 1) σ (u.takeF 0 bo io 0 true)
  dat : BytesAt w da dn dc D
  old : Below h0 w0 w
  hrb : base ≤ rb
  sep : h0 ≤ B ∧ B < base ∧ base ≤ S ∧ h0 ≤ w0.heap.size
  row : ∀ b off x, da = some ⟨b, off, x⟩ → b < base
variable {w0 wr w' : World} {h0 B S base dn dc s P n : Nat} {K : ByteArray} {da : Option Addr} {D : List Nat} {σ : DSto} {u : UG}
theorem RunC.turns (h : RunC w0 h0 B S base K da dn dc s P D n σ u wr) (hu : UAt w' B u) (ht : Turns B wr w') : RunC w0 h0 B S base K da dn dc s P D n σ u w' :=
  ⟨hu, h.st.turns h.sep.2.2.1 h.sep.2.1 ht, h.cs, bytes_turns h.up h.dat ht, ht.old h.old h.sep.1 (by have := h.old.size; have := h.sep.2.2.2; omega), h.sep, h.row⟩
theorem RunC.below (h : RunC w0 h0 B S base K da dn dc s P D n σ u wr) (hb : Below wr.heap.size wr w') : RunC w0 h0 B S base K da dn dc s P D n σ u w' :=
  ⟨h.up.below hb, h.st.below hb, h.cs, h.dat.kept hb, h.old.trans (hb.mono (by have := h.old.size; have := h.sep.2.2.2; omega)), h.sep, h.row⟩
theorem CalmS.few (h : CalmS K da dn dc s P D n σ u) : n ≤ P + 2 := by
  rcases h.std with h | ⟨k, p, h1, h2, _⟩ | h <;> omega
theorem CalmS.st5 (h : CalmS K da dn dc s P D n σ u) (h5 : u.st ≠ 5) : 0 ≤ u.st ∧ u.st ≤ 2 ∧ 0 ≤ u.nx ∧ u.nx ≤ (P : Int) + 1 := by
  rcases h.std with ⟨h0, h1, h2, h3, _⟩ | ⟨k, p, h1, h2, h3, h4, _⟩ | ⟨h0, _⟩
  · omega
  · omega
  · exact absurd h0 h5
section
variable {rb : Nat} {v bo io : Int}
theorem JnC.big (h : JnC w0 h0 B S base K da dn dc s P D n u rb v bo io σ wr) : base ≤ wr.heap.size := by
  have := h.st.lt (b := S) (.inl rfl); have := h.sep; omega
theorem JnC.below (h : JnC w0 h0 B S base K da dn dc s P D n u rb v bo io σ wr) (hb : Below wr.heap.size wr w') : JnC w0 h0 B S base K da dn dc s P D n u rb v bo io σ w' :=
  ⟨(hb.block rb (Array.getElem?_eq_some_iff.1 h.rp).1).trans h.rp, h.up.below hb, h.st.below hb, h.cs, h.dat.kept hb, h.old.trans (hb.mono (by have := h.big; have := h.sep; omega)), h.hrb, h.sep, h.row⟩
/-- the reply laid in its box -/
theorem jnC_set {y : World} {er' v' bo' io' : Int} {d' l' : Value} {mo' : Bool} (hr : wr.heap[rb]? = some (.cells #[.int .i64 er', d', .int .i64 v', .int .i64 bo', .int .i64 io', l', .bool mo'] 36 (0, 0))) (hd' : ∀ x, d' ≠ .int .u8 x) (hl' : ∀ x, l' ≠ .int .u8 x) (hu : UAt wr B { u with told := true }) (hs : DStAt wr S base σ) (hc : CalmS K da dn dc s P D (n + 1) σ (u.takeF 0 bo io 0 true)) (hb : BytesAt wr da dn dc D) (ho : Below h0 w0 wr) (hrb : base ≤ rb) (hsep : h0 ≤ B ∧ B < base ∧ base ≤ S ∧ h0 ≤ w0.heap.size) (hrow : ∀ b off x, da = some ⟨b, off, x⟩ → b < base) (hy : y = set7 wr rb (.int .i64 0) (.slice none 0 0) (.int .i64 v) (.int .i64 bo) (.int .i64 io) (.slice none 0 0) (.bool false)) : JnC w0 h0 B S base K da dn dc s P D n u rb v bo io σ y := by
  have hno : NoB wr rb := noB_rep hr hd' hl'
  have ht : Turns rb wr y := by
    rw [hy]
    unfold Go.Proofs.Ytodoklnohedolaa.set7
    exact (((((((Turns.refl rb wr).set 0 _).set 1 _).set 2 _).set 3 _).set 4 _).set 5 _).set 6 _
  have hbig : base ≤ wr.heap.size := by have := hs.lt (b := S) (.inl rfl); omega
  refine ⟨by rw [hy]; exact set7_at hr _ _ _ _ _ _ _, by rw [hy]; exact hu.set7 (by omega) _ _ _ _ _ _ _, hs.frmT hr rep_notD ⟨ht.os, ht.tape, ht.output, ht.size, fun k hk hne => ht.block k hk hne⟩, hc, bytes_but hb hno ht.size (fun b hb hne => ht.block b hb hne), ho.trans ⟨ht.os, ht.tape, ht.output, ht.size, fun k hk => ht.block k (by omega) (by omega)⟩, hrb, hsep, hrow⟩
theorem JnC.end9 (h : JnC w0 h0 B S base K da dn dc s P D n u rb v bo io σ wr) (hu : UAt w' B (u.takeF 0 bo io 0 true)) (ht : Turns B wr w') : RunC w0 h0 B S base K da dn dc s P D (n + 1) σ (u.takeF 0 bo io 0 true) w' :=
  ⟨hu, h.st.turns h.sep.2.2.1 h.sep.2.1 ht, h.cs, bytes_turns h.up h.dat ht, ht.old h.old h.sep.1 (by have := h.old.size; have := h.sep.2.2.2; omega), h.sep, h.row⟩
end
set_option maxRecDepth 100000 in
set_option maxHeartbeats 8000000 in
theorem run_calm (h : RunC w0 h0 B S base K da dn dc s P D 0 σ u wr) (hK : isKeyB K = true) (hP : 1 ≤ P ∧ P ≤ 32) (hs : s ≤ 262144) (hD : dn ≤ 3000) (hpd : (P - 1) * s ≤ dn) (hl : dn ≤ P * s) :
    Calls Try.prog 16 #[.pointer (some ⟨B, 0, none⟩), .pointer (some ⟨S, 0, none⟩), .slice none 0 0] wr fun e w' => ∃ n σ u, e = .returned (.int .i64 ((n : Nat) : Int)) ∧ u.st = 5 ∧ RunC w0 h0 B S base K da dn dc s P D n σ u w' := by
  have HRA := Lib.hid h
  have HPD := Lib.hid (And.intro hpd hl)
  have HK := Lib.hid hK
  clear h hpd hl hK
  go_enter Try.func16, Try.ntmps16
  go_wp2_with fail
  go_loopw [7, 12] (fun s7 s12 wr => ∃ (k : Nat) (σ : DSto) (u : UG), k ≤ 34 ∧ s12 = .int .i64 (k : Int) ∧ s7 = .int .i64 (k : Int) ∧ Hid (RunC w0 h0 B S base K da dn dc s P D k σ u wr)) (fun _ s12 _ => 2000 - (intOf s12).toNat)
  case atStart => exact ⟨0, σ, u, by omega, rfl, rfl, HRA⟩
  case round =>
    clear HRA
    obtain ⟨k, σ, u, hk, rfl, rfl, HR⟩ := hrel
    rename World => wr
    have zs : (k : Int) < 2000 := by omega
    have wS : IntKind.i64.wrap ((k : Int) + 1) = (k : Int) + 1 := IntWalk.i64_in _ (by omega)
    have c4 := cell_blk HR.out.st.blk (i := 4) (u := .int .i64 σ.now) rfl
    rw [HR.out.cs.now] at c4
    by_cases h5 : u.st = 5
    · have HN := Lib.hid (unext_no (now := 0) HR.out.up HR.out.cs.f0.2.2 (.inl h5))
      have hs1 : u.state = 1 := by
        rcases HR.out.cs.std with ⟨h0, _⟩ | ⟨_, _, h0, _⟩ | ⟨_, _, h, _⟩
        · omega
        · omega
        · exact h
      have HS1 := Lib.hid hs1
      have H5 := Lib.hid h5
      clear h5 hs1
      go_wp2_with fail
      refine HN.out.mono ?_
      rintro e w6 ⟨rfl, hg6, ht6⟩
      have HR6 := Lib.hid (HR.out.turns hg6 ht6)
      have hal : Below w6.heap.size w6 (w6.alloc (.cells #[.int .i64 0, .string { data := #[] }, .slice none 0 0, .int .i64 0, .int .i64 0, .int .i64 0, .int .i64 0] 30)) := (Below.refl _ _).alloc (Nat.le_refl _) _
      have HR7 := Lib.hid (HR6.out.below hal)
      have HSA := Lib.hid (ustate_any HR7.out.up)
      rw [HS1.out] at HSA
      clear hg6 ht6 hal
      go_wp2_with fail
      refine HSA.out.mono ?_
      rintro e w7 ⟨rfl, rfl⟩
      go_wp2_with fail
      go_ret
      exact ⟨k, σ, u, rfl, H5.out, HR7.out⟩
    · have HN := Lib.hid (next_calm HR.out.up HR.out.cs h5 HR.out.dat hs hP.2 HPD.out.1)
      have H5 := Lib.hid h5
      clear h5
      go_wp2_with fail
      refine HN.out.mono ?_
      rintro e w6 ⟨ki, ky, a, m, cc, nn, id, rfl, hcall, hu6, ht6⟩
      obtain ⟨cb, hcb⟩ : ∃ cb, cb = w6.heap.size := ⟨_, rfl⟩
      obtain ⟨w7, hw7⟩ : ∃ w7, w7 = w6.alloc (.cells #[.int .i64 ki, .string ky, .slice a m cc, .int .i64 0, .int .i64 0, .int .i64 nn, .int .i64 id] 30) := ⟨_, rfl⟩
      have hb7 : Below w6.heap.size w6 w7 := by rw [hw7]; exact (Below.refl _ _).alloc (Nat.le_refl _) _
      have hc7 : w7.heap[cb]? = some (.cells #[.int .i64 ki, .string ky, .slice a m cc, .int .i64 0, .int .i64 0, .int .i64 nn, .int .i64 id] 30 (0, 0)) := by rw [hw7, hcb]; exact heap_alloc_newG w6 _
      obtain ⟨rb, hrb⟩ : ∃ rb, rb = w7.heap.size := ⟨_, rfl⟩
      obtain ⟨w8, hw8⟩ : ∃ w8, w8 = w7.alloc (.cells #[.int .i64 10, .slice none 0 0, .int .i64 0, .int .i64 0, .int .i64 0, .slice none 0 0, .bool false] 36) := ⟨_, rfl⟩
      have hb8 : Below w7.heap.size w7 w8 := by rw [hw8]; exact (Below.refl _ _).alloc (Nat.le_refl _) _
      have hr8 : w8.heap[rb]? = some (.cells #[.int .i64 10, .slice none 0 0, .int .i64 0, .int .i64 0, .int .i64 0, .slice none 0 0, .bool false] 36 (0, 0)) := by rw [hw8, hrb]; exact heap_alloc_newG w7 _
      have hb68 := hb7.trans (hb8.mono hb7.size)
      have HU8 := Lib.hid (hu6.below hb68)
      have HST8 := Lib.hid ((HR.out.st.turns HR.out.sep.2.2.1 HR.out.sep.2.1 ht6).below hb68)
      have HDA8 := Lib.hid ((bytes_turns HR.out.up HR.out.dat ht6).kept hb68)
      have hol6 := ht6.old HR.out.old HR.out.sep.1 (by have := HR.out.old.size; have := HR.out.sep.2.2.2; omega)
      have HOL8 := Lib.hid (hol6.trans (hb68.mono (by have := hol6.size; have := HR.out.sep.2.2.2; omega)))
      have HCA8 := Lib.hid (show CallC w8 K D s P u ki ky a m cc nn id from ⟨hcall.1.kept hb68, hcall.2⟩)
      have HC8 := Lib.hid ((hb8.block cb (Array.getElem?_eq_some_iff.1 hc7).1).trans hc7)
      have HRP8 := Lib.hid hr8
      have HRBB := Lib.hid (show base ≤ rb from by
        have h1 := (HR.out.st.turns HR.out.sep.2.2.1 HR.out.sep.2.1 ht6).lt (b := S) (.inl rfl)
        have h2 := HR.out.sep
        have h3 := hb7.size
        omega)
      have HDO := Lib.hid (did_calm HST8.out HR.out.sep.2.2.1 (by have h1 := HST8.out.lt (b := S) (.inl rfl); have h2 := HR.out.sep; omega) HR.out.cs HK.out H5.out hP hs ⟨HR.out.dat.len, hD⟩ HPD.out.1 HPD.out.2 HCA8.out)
      have HW7 := Lib.hid hw7
      have HCB := Lib.hid hcb
      have HW8 := Lib.hid hw8
      have HRB := Lib.hid hrb
      clear hcall hu6 ht6 hw7 hcb hb7 hc7 hol6 hrb hw8 hb8 hr8 hb68
      have zf : ¬ (k : Int) < 0 := by omega
      go_upto_region 9 with fail
      rw [← HW7.out, ← HCB.out]
      go_upto_region 13 with fail
      rw [← HW8.out, ← HRB.out]
      have d0 := cell_blk HC8.out (i := 0) (u := .int .i64 ki) rfl
      have d1 := cell_blk HC8.out (i := 1) (u := .string ky) rfl
      have d2 := cell_blk HC8.out (i := 2) (u := .slice a m cc) rfl
      have d3 := cell_blk HC8.out (i := 3) (u := .int .i64 0) rfl
      have d4 := cell_blk HC8.out (i := 4) (u := .int .i64 0) rfl
      have d5 := cell_blk HC8.out (i := 5) (u := .int .i64 nn) rfl
      have d6 := cell_blk HC8.out (i := 6) (u := .int .i64 id) rfl
      go_wp2_with fail
      refine HDO.out.mono ?_
      rintro e w9 ⟨v, bo, io, σ9, rfl, hst9, hfr9, hcs9⟩
      have hbel := did_bel HST8.out HR.out.sep.2.2.1 (by have h1 := HST8.out.lt (b := S) (.inl rfl); have h2 := HR.out.sep; omega) hfr9
      have hr9 := hfr9.at HRP8.out (fun hd => by
        obtain ⟨cs', t', g, gt⟩ := HST8.out.ty hd
        rw [HRP8.out] at g
        simp at g
        exact rep_notD (g.2 ▸ gt))
      have HR9 := Lib.hid hr9
      obtain ⟨w10, hw10⟩ : ∃ w10, w10 = set7 w9 rb (.int .i64 0) (.slice none 0 0) (.int .i64 v) (.int .i64 bo) (.int .i64 io) (.slice none 0 0) (.bool false) := ⟨_, rfl⟩
      have HJ := Lib.hid (show JnC w0 h0 B S base K da dn dc s P D k u rb v bo io σ9 w10 from jnC_set hr9 (fun x e => by cases e) (fun x e => by cases e) (HU8.out.bel HR.out.sep.2.1 hbel) hst9 hcs9 (bytes_bel HDA8.out HR.out.row hbel) (HOL8.out.trans (hbel.mono (by have := HR.out.sep; omega))) HRBB.out HR.out.sep HR.out.row hw10)
      unfold set7 at hw10
      have HW10 := Lib.hid hw10
      have q0 := cell_blk HR9.out (i := 0) (u := .int .i64 10) rfl
      have p0 := fro_blk HR9.out 0
      have q1 := cell_blk HR9.out (i := 1) (u := .slice none 0 0) rfl
      have p1 := fro_blk HR9.out 1
      have q2 := cell_blk HR9.out (i := 2) (u := .int .i64 0) rfl
      have p2 := fro_blk HR9.out 2
      have q3 := cell_blk HR9.out (i := 3) (u := .int .i64 0) rfl
      have p3 := fro_blk HR9.out 3
      have q4 := cell_blk HR9.out (i := 4) (u := .int .i64 0) rfl
      have p4 := fro_blk HR9.out 4
      have q5 := cell_blk HR9.out (i := 5) (u := .slice none 0 0) rfl
      have p5 := fro_blk HR9.out 5
      have q6 := cell_blk HR9.out (i := 6) (u := .bool false) rfl
      have p6 := fro_blk HR9.out 6
      unfold rep
      have h5 := H5.out
      have hs4 := HR.out.cs.st5 h5
      obtain ⟨JQ, hJQ⟩ : ∃ JQ : World → Prop, JQ = fun y => JnC w0 h0 B S base K da dn dc s P D k u rb v bo io σ9 y := ⟨_, rfl⟩
      obtain ⟨RQ, hRQ⟩ : ∃ RQ : World → Prop, RQ = fun y => RunC w0 h0 B S base K da dn dc s P D (k + 1) σ9 (u.takeF 0 bo io 0 true) y := ⟨_, rfl⟩
      have HTK : Hid (∀ y, JQ y → Calls Try.prog 23 #[.pointer (some ⟨B, 0, none⟩), .agg #[.int .i64 0, .slice none 0 0, .int .i64 v, .int .i64 bo, .int .i64 io, .slice none 0 0, .bool false], .int .i64 0] y fun e y' => (∃ v, e = .returned v) ∧ RQ y') := Lib.hid (fun y hj => by
        rw [hJQ] at hj
        rw [hRQ]
        refine (utake_any hj.up (er := 0) (v := v) (bo := bo) (io := io) (now := 0) (d := .slice none 0 0) (l := .slice none 0 0) (mo := false) rfl ⟨hs4.1, by show u.st ≤ 4; omega⟩ (show u.f ≤ 10 by have := HR.out.cs.f0; omega) ⟨by omega, by omega⟩ (fun h => by
          rcases h with h | h
          · exact absurd rfl h
          · have h9 : u.st = 3 := h
            omega) ⟨hs4.2.2.1, by show u.nx ≤ 1000000; omega⟩ (same := true) (fun h3 _ => by
          have h9 : u.st = 3 := h3
          omega)).mono fun e y' hd => ?_
        obtain ⟨e1, hu, ht⟩ := hd
        rw [takeF_told] at hu
        exact ⟨⟨_, e1⟩, hj.end9 hu ht⟩)
      have HRP : Hid (∀ y, JQ y → y.heap[rb]? = some (.cells #[.int .i64 0, .slice none 0 0, .int .i64 v, .int .i64 bo, .int .i64 io, .slice none 0 0, .bool false] 36 (0, 0)) ∧ y.cell? ⟨S, 4, none⟩ = some (.int .i64 0)) := Lib.hid (fun y hj => by
        rw [hJQ] at hj
        refine ⟨hj.rp, ?_⟩
        have c4 := cell_blk hj.st.blk (i := 4) (u := .int .i64 σ9.now) rfl
        rw [hj.cs.now] at c4
        exact c4)
      have HJI : Hid (JQ w10.drew) := Lib.hid (by rw [hJQ]; exact HJ.out.below ((Below.refl _ _).drew))
      have HRQ := Lib.hid hRQ
      clear HJ hJQ hRQ hw10 hbel hst9 hfr9 hcs9 h5 hs4 hr9 d0 d1 d2 d3 d4 d5 d6 HN HU8 HST8 HDA8 HOL8 HCA8 HC8 HRP8 HRBB HDO HW7 HCB HW8 HRB HR9
      go_upto_region 22 with fail
      rw [← HW10.out]
      clear q0 p0 q1 p1 q2 p2 q3 p3 q4 p4 q5 p5 q6 p6 HW10
      refine wp_region_chain (by kernel_rfl) (by kernel_rfl) (by kernel_rfl) [6] false (by kernel_rfl) (fun k _ y => match k with
          | 0 => JQ y
          | _ => RQ y) (fun y => JQ y) (fun j_9 => match j_9 with | 0 => some (.pointer (some ⟨B, 0, none⟩)) | 1 => some (.agg #[.int .i64 0, .slice none 0 0, .int .i64 v, .int .i64 bo, .int .i64 io, .slice none 0 0, .bool false]) | 2 => some (.pointer (some ⟨S, 0, none⟩)) | 3 => some (.pointer (some ⟨S, 0, none⟩)) | 4 => some (.pointer (some ⟨S, 4, none⟩)) | 5 => some (.int .i64 0) | 6 => none | _ => none) (by rfl) (fun u => HJI.out) (fun k u y hk9 _ hs => by
          have hk : k < 1 := hk9 rfl
          clear hk9
          match k, hk, hs with
          | 0, _, hs => exact hs) ?_ ?_ ?_
      · intro i9 o ho hc9 V w9 K hR9 hdep hK
        have HR9 := Lib.hid hR9
        simp only [fill, slotOf, List.size_toArray, List.length_cons, List.length_nil, Nat.reduceAdd, List.getElem?_toArray, List.getElem?_cons_zero, List.getElem?_cons_succ, Option.bind_some, Act.put, List.setIfInBounds_toArray, List.set_cons_zero, List.set_cons_succ] at hK ⊢
        have hin9 : i9 < 7 := (Array.getElem?_eq_some_iff.1 ho).1
        have hcs : i9 = 0 ∨ i9 = 1 ∨ i9 = 2 ∨ i9 = 3 ∨ i9 = 4 ∨ i9 = 5 ∨ i9 = 6 := by omega
        clear hin9
        rcases hcs with rfl | rfl | rfl | rfl | rfl | rfl | rfl
        · obtain rfl := Option.some.inj ho.symm
          clear hdep ho hR9 hc9
          try simp only [fill, slotOf, List.size_toArray, List.length_cons, List.length_nil, Nat.reduceAdd, List.getElem?_toArray, List.getElem?_cons_zero, List.getElem?_cons_succ, Option.bind_some, Act.put, List.setIfInBounds_toArray, List.set_cons_zero, List.set_cons_succ] at hK ⊢
          go_simp
          exact hK (.pointer (some ⟨B, 0, none⟩)) rfl _ rfl
        · obtain rfl := Option.some.inj ho.symm
          have u0 := cell_blk (HRP.out _ HR9.out).1 (i := 0) (u := .int .i64 0) rfl
          have u1 := cell_blk (HRP.out _ HR9.out).1 (i := 1) (u := .slice none 0 0) rfl
          have u2 := cell_blk (HRP.out _ HR9.out).1 (i := 2) (u := .int .i64 v) rfl
          have u3 := cell_blk (HRP.out _ HR9.out).1 (i := 3) (u := .int .i64 bo) rfl
          have u4 := cell_blk (HRP.out _ HR9.out).1 (i := 4) (u := .int .i64 io) rfl
          have u5 := cell_blk (HRP.out _ HR9.out).1 (i := 5) (u := .slice none 0 0) rfl
          have u6 := cell_blk (HRP.out _ HR9.out).1 (i := 6) (u := .bool false) rfl
          clear hdep ho hR9 hc9
          try simp only [fill, slotOf, List.size_toArray, List.length_cons, List.length_nil, Nat.reduceAdd, List.getElem?_toArray, List.getElem?_cons_zero, List.getElem?_cons_succ, Option.bind_some, Act.put, List.setIfInBounds_toArray, List.set_cons_zero, List.set_cons_succ] at hK ⊢
          go_simp
          exact hK (.agg #[.int .i64 0, .slice none 0 0, .int .i64 v, .int .i64 bo, .int .i64 io, .slice none 0 0, .bool false]) rfl _ rfl
        · obtain rfl := Option.some.inj ho.symm
          clear hdep ho hR9 hc9
          try simp only [fill, slotOf, List.size_toArray, List.length_cons, List.length_nil, Nat.reduceAdd, List.getElem?_toArray, List.getElem?_cons_zero, List.getElem?_cons_succ, Option.bind_some, Act.put, List.setIfInBounds_toArray, List.set_cons_zero, List.set_cons_succ] at hK ⊢
          go_simp
          exact hK (.pointer (some ⟨S, 0, none⟩)) rfl _ rfl
        · obtain rfl := Option.some.inj ho.symm
          have d2 : V 2 = .pointer (some ⟨S, 0, none⟩) := hdep ⟨2, .data⟩ (by simp) rfl _ rfl
          clear hdep ho hR9 hc9
          try simp only [fill, slotOf, List.size_toArray, List.length_cons, List.length_nil, Nat.reduceAdd, List.getElem?_toArray, List.getElem?_cons_zero, List.getElem?_cons_succ, Option.bind_some, Act.put, List.setIfInBounds_toArray, List.set_cons_zero, List.set_cons_succ] at hK ⊢
          rw [d2] at hK ⊢
          go_simp
          exact hK (.pointer (some ⟨S, 0, none⟩)) rfl _ rfl
        · obtain rfl := Option.some.inj ho.symm
          have d3 : V 3 = .pointer (some ⟨S, 0, none⟩) := hdep ⟨3, .data⟩ (by simp) rfl _ rfl
          clear hdep ho hR9 hc9
          try simp only [fill, slotOf, List.size_toArray, List.length_cons, List.length_nil, Nat.reduceAdd, List.getElem?_toArray, List.getElem?_cons_zero, List.getElem?_cons_succ, Option.bind_some, Act.put, List.setIfInBounds_toArray, List.set_cons_zero, List.set_cons_succ] at hK ⊢
          rw [d3] at hK ⊢
          go_simp
          exact hK (.pointer (some ⟨S, 4, none⟩)) rfl _ rfl
        · obtain rfl := Option.some.inj ho.symm
          have d4 : V 4 = .pointer (some ⟨S, 4, none⟩) := hdep ⟨4, .data⟩ (by simp) rfl _ rfl
          have u4 := (HRP.out _ HR9.out).2
          clear hdep ho hR9 hc9
          try simp only [fill, slotOf, List.size_toArray, List.length_cons, List.length_nil, Nat.reduceAdd, List.getElem?_toArray, List.getElem?_cons_zero, List.getElem?_cons_succ, Option.bind_some, Act.put, List.setIfInBounds_toArray, List.set_cons_zero, List.set_cons_succ] at hK ⊢
          rw [d4] at hK ⊢
          go_simp
          exact hK (.int .i64 0) rfl _ rfl
        · cases hc9
      · intro i9 j9 o he9 ho V w9 K hS9 hdep hK
        simp only [fill, slotOf, List.size_toArray, List.length_cons, List.length_nil, Nat.reduceAdd, List.getElem?_toArray, List.getElem?_cons_zero, List.getElem?_cons_succ, Option.bind_some, Act.put, List.setIfInBounds_toArray, List.set_cons_zero, List.set_cons_succ] at hK ⊢
        have hin9 : i9 < 1 := (List.getElem?_eq_some_iff.1 he9).1
        have hcs : i9 = 0 := by omega
        clear hin9
        rcases hcs with rfl
        · obtain rfl := Option.some.inj he9.symm
          obtain rfl := Option.some.inj ho.symm
          have d0 : V 0 = .pointer (some ⟨B, 0, none⟩) := hdep ⟨0, .data⟩ (by simp) rfl _ rfl
          have d1 : V 1 = .agg #[.int .i64 0, .slice none 0 0, .int .i64 v, .int .i64 bo, .int .i64 io, .slice none 0 0, .bool false] := hdep ⟨1, .data⟩ (by simp) rfl _ rfl
          have d5 : V 5 = .int .i64 0 := hdep ⟨5, .data⟩ (by simp) rfl _ rfl
          have hs : JQ w9 := hS9
          have HTC := Lib.hid (HTK.out w9 hs)
          clear hdep ho he9 hS9 hs
          try simp only [fill, slotOf, List.size_toArray, List.length_cons, List.length_nil, Nat.reduceAdd, List.getElem?_toArray, List.getElem?_cons_zero, List.getElem?_cons_succ, Option.bind_some, Act.put, List.setIfInBounds_toArray, List.set_cons_zero, List.set_cons_succ] at hK ⊢
          rw [d0, d1, d5] at hK ⊢
          go_simp
          refine HTC.out.mono ?_
          rintro e w8 ⟨⟨v9, rfl⟩, hx⟩
          exact hK _ w8 hx (fun y h => by cases h) _ rfl
      · intro V wN hS9 hv9
        have hr9 := (show RQ wN from hS9)
        rw [HRQ.out] at hr9
        have HRN := Lib.hid hr9
        have hb99 := hr9.cs.few
        clear hS9 hv9 hr9 HTK HJI HRP HRQ
        simp only [fill, slotOf, List.size_toArray, List.length_cons, List.length_nil, Nat.reduceAdd, List.getElem?_toArray, List.getElem?_cons_zero, List.getElem?_cons_succ, Option.bind_some, Act.put, List.setIfInBounds_toArray, List.set_cons_zero, List.set_cons_succ]
        go_wp2_with fail
        go_roundw
        case rel => exact ⟨k + 1, _, _, by omega, by go_num, by go_num, HRN⟩
        case measure => simp [intOf]; omega
end Go.Proofs.Ytodoklnohedolaa
end PkUC6_5
section PkUC6_6
/- run, of an upload over the document's store. Written by genrun.py. -/
namespace Go.Proofs.Ytodoklnohedolaa
open Go.RowKit
set_option linter.unusedVariables false
set_option linter.unusedSimpArgs false

variable {w0 wr w' : World} {h0 B S base dn dc s P T W n now : Nat} {K : ByteArray} {da : Option Addr} {D : List Nat} {σ : DSto} {u : UG}
set_option maxRecDepth 100000 in
set_option maxHeartbeats 8000000 in
theorem run_walk {fa : Option Addr} {fn fc : Nat} (h : RunW w0 h0 B S base K da dn dc s P T W D 0 0 σ u wr) (hP : 1 ≤ P ∧ P ≤ 32) (hT : T ≤ 8) (hW : W ≤ 3) (hs : s ≤ 262144) (hpd : (P - 1) * s ≤ dn) (hl : dn ≤ P * s) (hfn : fn ≤ 300) (hfat : ∀ w', Below h0 w0 w' → ∀ i, i < fn → ∃ b off f, fa = some ⟨b, off, none⟩ ∧ w'.cell? ⟨b, off + i, none⟩ = some (.int .i64 f)) :
    Calls Try.prog 16 #[.pointer (some ⟨B, 0, none⟩), .pointer (some ⟨S, 0, none⟩), .slice fa fn fc] wr fun e w' => ∃ n now σ u, e = .returned (.int .i64 ((n : Nat) : Int)) ∧ u.st = 5 ∧ RunW w0 h0 B S base K da dn dc s P T W D n now σ u w' := by
  have HRA := Lib.hid h
  have HFA := Lib.hid hfat
  have HPD := Lib.hid (And.intro hpd hl)
  clear h hfat hpd hl
  go_enter Try.func16, Try.ntmps16
  go_wp2_with fail
  go_loopw [7, 12] (fun s7 s12 wr => ∃ (k n now : Nat) (σ : DSto) (u : UG), k ≤ 2000 ∧ s12 = .int .i64 (k : Int) ∧ s7 = .int .i64 (n : Int) ∧ k = n + now ∧ n + now ≤ 900 ∧ Hid (RunW w0 h0 B S base K da dn dc s P T W D n now σ u wr)) (fun _ s12 _ => 2000 - (intOf s12).toNat)
  case atStart => exact ⟨0, 0, 0, σ, u, by omega, rfl, rfl, rfl, by omega, HRA⟩
  case round =>
    clear HRA
    obtain ⟨k, n, now, σ, u, hk, rfl, rfl, hkn, hb9, HR⟩ := hrel
    rename World => wr
    have zs : (k : Int) < 2000 := by omega
    have HKN := Lib.hid hkn
    clear hkn
    have wS : IntKind.i64.wrap ((k : Int) + 1) = (k : Int) + 1 := IntWalk.i64_in _ (by omega)
    have c4 := cell_blk HR.out.st.blk (i := 4) (u := .int .i64 σ.now) rfl
    rw [HR.out.clk] at c4
    by_cases h5 : u.st = 5
    · have HN := Lib.hid (unext_no (now := (now : Int)) HR.out.up HR.out.ru.told (.inl h5))
      have hs0 : (u.state == 0) = false := by have := HR.out.ru.over.1 h5; rw [beq_eq_false_iff_ne]; omega
      have H5 := Lib.hid h5
      clear h5
      go_wp2_with fail
      refine HN.out.mono ?_
      rintro e w6 ⟨rfl, hg6, ht6⟩
      have HR6 := Lib.hid (HR.out.turns hg6 ht6)
      have hal : Below w6.heap.size w6 (w6.alloc (.cells #[.int .i64 0, .string { data := #[] }, .slice none 0 0, .int .i64 0, .int .i64 0, .int .i64 0, .int .i64 0] 30)) := (Below.refl _ _).alloc (Nat.le_refl _) _
      have HR7 := Lib.hid (HR6.out.below hal)
      have HSA := Lib.hid (ustate_any HR7.out.up)
      clear hg6 ht6 hal
      go_wp2_with fail
      refine HSA.out.mono ?_
      rintro e w7 ⟨rfl, rfl⟩
      go_wp2_with fail
      go_ret
      exact ⟨n, now, σ, u, rfl, H5.out, HR7.out⟩
    · have hst4 : u.st ≤ 4 := by have := HR.out.ru.st; omega
      have h00 : u.state = 0 := HR.out.ru.over.2 h5
      by_cases hnow : (now : Int) < u.rd
      · have HN := Lib.hid (unext_no (now := (now : Int)) HR.out.up HR.out.ru.told (.inr hnow))
        have hs0 : (u.state == 0) = true := by simp [h00]
        have HNW := Lib.hid (show now + 1 ≤ wSum W u.f from by have := HR.out.ru.rdy; omega)
        clear h5 hnow h00
        go_wp2_with fail
        refine HN.out.mono ?_
        rintro e w6 ⟨rfl, hg6, ht6⟩
        have HR6 := Lib.hid (HR.out.turns hg6 ht6)
        have hal : Below w6.heap.size w6 (w6.alloc (.cells #[.int .i64 0, .string { data := #[] }, .slice none 0 0, .int .i64 0, .int .i64 0, .int .i64 0, .int .i64 0] 30)) := (Below.refl _ _).alloc (Nat.le_refl _) _
        have HR7 := Lib.hid (HR6.out.below hal)
        have HSA := Lib.hid (ustate_any HR7.out.up)
        have HTI := Lib.hid (dtick_any HR7.out.st (by rw [HR7.out.clk]; omega) 1)
        clear hg6 ht6 hal
        go_wp2_with fail
        refine HSA.out.mono ?_
        rintro e w7 ⟨rfl, rfl⟩
        go_wp2_with fail
        refine HTI.out.mono ?_
        rintro e w8 ⟨rfl, hst8, hg8⟩
        have hz : dtickE σ.now 1 = 0 := by rw [HR7.out.clk]; unfold dtickE; rw [if_neg (by omega), if_neg (by omega), if_neg (by omega)]
        rw [if_pos hz] at hst8
        have HR8 := Lib.hid (show RunW w0 h0 B S base K da dn dc s P T W D n (now + 1) { σ with now := σ.now + 1 } u w8 from HR7.out.tick hst8 hg8 HNW.out)
        have hb99 := HR8.out.bound hP hT hW
        clear hst8 hg8
        go_wp2_with fail
        go_roundw
        case rel => exact ⟨k + 1, n, now + 1, _, u, by omega, by go_num, rfl, by have := HKN.out; omega, by omega, HR8⟩
        case measure => simp [intOf]; omega
      · have HN := Lib.hid (next_run HR.out.up HR.out.ru hst4 (now := (now : Int)) (by omega) HR.out.dat hs hP.2 HPD.out.1 HPD.out.2)
        have wn : IntKind.i64.wrap ((n : Int) + 1) = (n : Int) + 1 := IntWalk.i64_in _ (by omega)
        have H4 := Lib.hid hst4
        clear h5 hnow h00 hst4
        go_wp2_with fail
        refine HN.out.mono ?_
        rintro e w6 ⟨ki, ky, a, m, cc, nn, id, rfl, hcall, hu6, ht6⟩
        obtain ⟨cb, hcb⟩ : ∃ cb, cb = w6.heap.size := ⟨_, rfl⟩
        obtain ⟨w7, hw7⟩ : ∃ w7, w7 = w6.alloc (.cells #[.int .i64 ki, .string ky, .slice a m cc, .int .i64 0, .int .i64 0, .int .i64 nn, .int .i64 id] 30) := ⟨_, rfl⟩
        have hb7 : Below w6.heap.size w6 w7 := by rw [hw7]; exact (Below.refl _ _).alloc (Nat.le_refl _) _
        have hc7 : w7.heap[cb]? = some (.cells #[.int .i64 ki, .string ky, .slice a m cc, .int .i64 0, .int .i64 0, .int .i64 nn, .int .i64 id] 30 (0, 0)) := by rw [hw7, hcb]; exact heap_alloc_newG w6 _
        have HU7 := Lib.hid (hu6.below hb7)
        have HST7 := Lib.hid ((HR.out.st.turns HR.out.sep.2.2.1 HR.out.sep.2.1 ht6).below hb7)
        have HDA7 := Lib.hid ((bytes_turns HR.out.up HR.out.dat ht6).kept hb7)
        have hol6 := ht6.old HR.out.old HR.out.sep.1 (by have := HR.out.old.size; have := HR.out.sep.2.2.2; omega)
        have HOL7 := Lib.hid (hol6.trans (hb7.mono (by have := hol6.size; have := HR.out.sep.2.2.2; omega)))
        have HCA7 := Lib.hid (hcall.kept hb7)
        have HC7 := Lib.hid hc7
        have HW7 := Lib.hid hw7
        have HCB := Lib.hid hcb
        obtain ⟨rb, hrb⟩ : ∃ rb, rb = w7.heap.size := ⟨_, rfl⟩
        obtain ⟨w8, hw8⟩ : ∃ w8, w8 = w7.alloc (.cells #[.int .i64 10, .slice none 0 0, .int .i64 0, .int .i64 0, .int .i64 0, .slice none 0 0, .bool false] 36) := ⟨_, rfl⟩
        have hb8 : Below w7.heap.size w7 w8 := by rw [hw8]; exact (Below.refl _ _).alloc (Nat.le_refl _) _
        have hr8 : w8.heap[rb]? = some (.cells #[.int .i64 10, .slice none 0 0, .int .i64 0, .int .i64 0, .int .i64 0, .slice none 0 0, .bool false] 36 (0, 0)) := by rw [hw8, hrb]; exact heap_alloc_newG w7 _
        have HJ0 := Lib.hid (show JnU w0 h0 B S base K da dn dc s P D n now u rb 10 0 0 0 none 0 0 σ w8 from ⟨hr8, HU7.out.below hb8, HST7.out.below hb8, HR.out.rs, HDA7.out.kept hb8, HR.out.clk, HOL7.out.trans (hb8.mono (by have := HOL7.out.size; have := HR.out.sep.2.2.2; omega)), (fun _ e => by cases e), (fun _ e => by cases e), (by have h1 := HST7.out.lt (b := S) (.inl rfl); have h2 := HR.out.sep.2.2.1; omega), HR.out.sep, HR.out.row⟩)
        have HCA8 := Lib.hid (HCA7.out.kept hb8)
        have HC8 := Lib.hid ((hb8.block cb (Array.getElem?_eq_some_iff.1 hc7).1).trans hc7)
        have HCS := Lib.hid (show cb ≠ S from fun e => by
          have h1 := HST7.out.blk
          have h2 := HC7.out
          rw [e, h1] at h2
          simp at h2)
        have HW8 := Lib.hid hw8
        have HRB := Lib.hid hrb
        clear hcall hu6 ht6 hw7 hcb hb7 hc7 hol6 hrb hw8 hb8 hr8
        go_upto_region 9 with fail
        rw [← HW7.out, ← HCB.out]
        go_upto_if 33 with fail
        go_cut [10, 12] from 12 to 67 (fun s10 s12 wc => s12 = .int .i64 (k : Int) ∧ w7 = wc ∧ ∃ f : Int, s10 = .int .i64 f)
        case first =>
          by_cases hnf : n < fn
          · obtain ⟨b9, o9, f9, rfl, hf9⟩ := HFA.out w7 HOL7.out n hnf
            have zf : (n : Int) < (fn : Int) := by omega
            go_wp2_with fail
            go_meet
            case rel => exact ⟨rfl, rfl, _, rfl⟩
          · have zf : ¬ (n : Int) < (fn : Int) := by omega
            go_wp2_with fail
            go_meet
            case rel => exact ⟨rfl, rfl, _, rfl⟩
        case rest =>
          obtain ⟨rfl, hwc, f, rfl⟩ := hcut
          rw [← hwc]
          clear hwc
          go_upto_region 13 with fail
          rw [← HW8.out, ← HRB.out]
          go_upto_block 2 with fail
          go_cut [12] from 12 to 67 (fun s12 wc => s12 = .int .i64 (k : Int) ∧ ∃ (er v bo io : Int) (ra : Option Addr) (rn rc : Nat) (σ9 : DSto), Hid (JnU w0 h0 B S base K da dn dc s P D (n + 1) now u rb er v bo io ra rn rc σ9 wc))
          case first =>
            have HDO : Hid (∀ w9 σ9, JnU w0 h0 B S base K da dn dc s P D n now u rb 10 0 0 0 none 0 0 σ9 w9 → CallOk w9 K D s P u.st ki ky a m cc nn id → Calls Try.prog 21 #[.pointer (some ⟨S, 0, none⟩), .agg #[.int .i64 ki, .string ky, .slice a m cc, .int .i64 0, .int .i64 0, .int .i64 nn, .int .i64 id]] w9 (DidC w9 S base K D s P n σ9 u.st)) := Lib.hid (fun w9 σ9 hj hc => did_any hj.st hj.sep.2.2.1 hj.big hj.rs (by omega) hP.2 (by rw [HR.out.dat.len]; exact HPD.out.2) hc)
            by_cases h1 : f = 1
            · subst h1
              go_wp2_with fail
              go_meet
              case rel => exact ⟨rfl, 10, 0, 0, 0, none, 0, 0, σ, Lib.hid HJ0.out.more⟩
            have z1 : (f == 1) = false := by simpa using h1
            by_cases h2 : f = 2
            · subst h2
              have HD8 := Lib.hid (HDO.out w8 σ HJ0.out HCA8.out)
              have d0 := cell_blk HC8.out (i := 0) (u := .int .i64 ki) rfl
              have d1 := cell_blk HC8.out (i := 1) (u := .string ky) rfl
              have d2 := cell_blk HC8.out (i := 2) (u := .slice a m cc) rfl
              have d3 := cell_blk HC8.out (i := 3) (u := .int .i64 0) rfl
              have d4 := cell_blk HC8.out (i := 4) (u := .int .i64 0) rfl
              have d5 := cell_blk HC8.out (i := 5) (u := .int .i64 nn) rfl
              have d6 := cell_blk HC8.out (i := 6) (u := .int .i64 id) rfl
              clear z1 h1
              go_wp2_with fail
              refine HD8.out.mono ?_
              rintro e w9 ⟨er, v, bo, io, ra, rn, rc, σ9, rfl, hdid, hob, hby9⟩
              have HJ9 := Lib.hid (HJ0.out.did hdid (by decide))
              clear hdid hob hby9 d0 d1 d2 d3 d4 d5 d6
              go_wp2_with fail
              go_meet
              case rel => exact ⟨rfl, 10, 0, 0, 0, none, 0, 0, σ9, HJ9⟩
            have z2 : (f == 2) = false := by simpa using h2
            by_cases h3 : f = 3
            · subst h3
              clear z1 z2 h1 h2
              have q0 := cell_blk HJ0.out.rp (i := 0) (u := .int .i64 10) rfl
              have p0 := fro_blk HJ0.out.rp 0
              have q1 := cell_blk HJ0.out.rp (i := 1) (u := .slice none 0 0) rfl
              have p1 := fro_blk HJ0.out.rp 1
              have q2 := cell_blk HJ0.out.rp (i := 2) (u := .int .i64 0) rfl
              have p2 := fro_blk HJ0.out.rp 2
              have q3 := cell_blk HJ0.out.rp (i := 3) (u := .int .i64 0) rfl
              have p3 := fro_blk HJ0.out.rp 3
              have q4 := cell_blk HJ0.out.rp (i := 4) (u := .int .i64 0) rfl
              have p4 := fro_blk HJ0.out.rp 4
              have q5 := cell_blk HJ0.out.rp (i := 5) (u := .slice none 0 0) rfl
              have p5 := fro_blk HJ0.out.rp 5
              have q6 := cell_blk HJ0.out.rp (i := 6) (u := .bool false) rfl
              have p6 := fro_blk HJ0.out.rp 6
              go_wp2_with fail
              go_meet
              case rel => exact ⟨rfl, 9, 0, 0, 0, none, 0, 0, σ, Lib.hid (HJ0.out.more.set (fun _ e => by cases e) (fun _ e => by cases e))⟩
            have z3 : (f == 3) = false := by simpa using h3
            by_cases h4 : f = 4
            · subst h4
              clear z1 z2 z3 h1 h2 h3
              have s1 := cell_blk HJ0.out.st.blk (i := 1) (u := .slice σ.ua σ.ups.length σ.uc) rfl
              have t1 := fro_blk HJ0.out.st.blk 1
              obtain ⟨y8, hy8⟩ : ∃ y8, y8 = w8.setCell ⟨S, 1, none⟩ (.slice none 0 0) := ⟨_, rfl⟩
              have HJ8 := Lib.hid (show JnU w0 h0 B S base K da dn dc s P D n now u rb 10 0 0 0 none 0 0 { σ with ua := none, uc := 0, ups := [] } y8 from by rw [hy8]; exact HJ0.out.drop (by decide))
              have HT8 := Lib.hid (show Turns S w8 y8 from by rw [hy8]; exact (Turns.refl S w8).set 1 _)
              have HY8 := Lib.hid hy8
              have HC9 := Lib.hid ((HT8.out.block cb (Array.getElem?_eq_some_iff.1 HC8.out).1 HCS.out).trans HC8.out)
              have HD8 := Lib.hid (HDO.out y8 _ HJ8.out (HCA8.out.but (noB_sto HJ0.out.st) HT8.out.size (fun b hb hne => HT8.out.block b hb hne)))
              clear hy8
              go_upto_region 16 with fail
              rw [← HY8.out]
              clear s1 t1
              have d0 := cell_blk HC9.out (i := 0) (u := .int .i64 ki) rfl
              have d1 := cell_blk HC9.out (i := 1) (u := .string ky) rfl
              have d2 := cell_blk HC9.out (i := 2) (u := .slice a m cc) rfl
              have d3 := cell_blk HC9.out (i := 3) (u := .int .i64 0) rfl
              have d4 := cell_blk HC9.out (i := 4) (u := .int .i64 0) rfl
              have d5 := cell_blk HC9.out (i := 5) (u := .int .i64 nn) rfl
              have d6 := cell_blk HC9.out (i := 6) (u := .int .i64 id) rfl
              go_wp2_with fail
              refine HD8.out.mono ?_
              rintro e w9 ⟨er, v, bo, io, ra, rn, rc, σ9, rfl, hdid, hob, hby9⟩
              have HJ9 := Lib.hid (HJ8.out.did hdid (by decide))
              have HOB := Lib.hid hob
              have HBY9 := Lib.hid hby9
              unfold rep
              clear hdid hob hby9 d0 d1 d2 d3 d4 d5 d6
              have q0 := cell_blk HJ9.out.rp (i := 0) (u := .int .i64 10) rfl
              have p0 := fro_blk HJ9.out.rp 0
              have q1 := cell_blk HJ9.out.rp (i := 1) (u := .slice none 0 0) rfl
              have p1 := fro_blk HJ9.out.rp 1
              have q2 := cell_blk HJ9.out.rp (i := 2) (u := .int .i64 0) rfl
              have p2 := fro_blk HJ9.out.rp 2
              have q3 := cell_blk HJ9.out.rp (i := 3) (u := .int .i64 0) rfl
              have p3 := fro_blk HJ9.out.rp 3
              have q4 := cell_blk HJ9.out.rp (i := 4) (u := .int .i64 0) rfl
              have p4 := fro_blk HJ9.out.rp 4
              have q5 := cell_blk HJ9.out.rp (i := 5) (u := .slice none 0 0) rfl
              have p5 := fro_blk HJ9.out.rp 5
              have q6 := cell_blk HJ9.out.rp (i := 6) (u := .bool false) rfl
              have p6 := fro_blk HJ9.out.rp 6
              go_wp2_with fail
              go_meet
              case rel => exact ⟨rfl, er, v, bo, io, ra, rn, rc, σ9, Lib.hid (HJ9.out.set HOB.out HBY9.out)⟩
            have z4 : (f == 4) = false := by simpa using h4
            have HD8 := Lib.hid (HDO.out w8 σ HJ0.out HCA8.out)
            have HJ8 := HJ0
            clear h1 h2 h3 h4
            go_upto_region 16 with fail
            have d0 := cell_blk HC8.out (i := 0) (u := .int .i64 ki) rfl
            have d1 := cell_blk HC8.out (i := 1) (u := .string ky) rfl
            have d2 := cell_blk HC8.out (i := 2) (u := .slice a m cc) rfl
            have d3 := cell_blk HC8.out (i := 3) (u := .int .i64 0) rfl
            have d4 := cell_blk HC8.out (i := 4) (u := .int .i64 0) rfl
            have d5 := cell_blk HC8.out (i := 5) (u := .int .i64 nn) rfl
            have d6 := cell_blk HC8.out (i := 6) (u := .int .i64 id) rfl
            go_wp2_with fail
            refine HD8.out.mono ?_
            rintro e w9 ⟨er, v, bo, io, ra, rn, rc, σ9, rfl, hdid, hob, hby9⟩
            have HJ9 := Lib.hid (HJ8.out.did hdid (by decide))
            have HOB := Lib.hid hob
            have HBY9 := Lib.hid hby9
            unfold rep
            clear hdid hob hby9 d0 d1 d2 d3 d4 d5 d6
            have q0 := cell_blk HJ9.out.rp (i := 0) (u := .int .i64 10) rfl
            have p0 := fro_blk HJ9.out.rp 0
            have q1 := cell_blk HJ9.out.rp (i := 1) (u := .slice none 0 0) rfl
            have p1 := fro_blk HJ9.out.rp 1
            have q2 := cell_blk HJ9.out.rp (i := 2) (u := .int .i64 0) rfl
            have p2 := fro_blk HJ9.out.rp 2
            have q3 := cell_blk HJ9.out.rp (i := 3) (u := .int .i64 0) rfl
            have p3 := fro_blk HJ9.out.rp 3
            have q4 := cell_blk HJ9.out.rp (i := 4) (u := .int .i64 0) rfl
            have p4 := fro_blk HJ9.out.rp 4
            have q5 := cell_blk HJ9.out.rp (i := 5) (u := .slice none 0 0) rfl
            have p5 := fro_blk HJ9.out.rp 5
            have q6 := cell_blk HJ9.out.rp (i := 6) (u := .bool false) rfl
            have p6 := fro_blk HJ9.out.rp 6
            go_wp2_with fail
            go_meet
            case rel => exact ⟨rfl, er, v, bo, io, ra, rn, rc, σ9, Lib.hid (HJ9.out.set HOB.out HBY9.out)⟩
          case rest =>
            obtain ⟨rfl, er, v, bo, io, ra, rn, rc, σ9, HJ⟩ := hcut
            clear HJ0 HCA8 HC8 HCS HW8 HRB HU7 HST7 HDA7 HOL7 HCA7 HC7 HW7 HCB
            obtain ⟨JQ, hJQ⟩ : ∃ JQ : World → Prop, JQ = fun y => JnU w0 h0 B S base K da dn dc s P D (n + 1) now u rb er v bo io ra rn rc σ9 y := ⟨_, rfl⟩
            obtain ⟨RQ, hRQ⟩ : ∃ RQ : World → Prop, RQ = fun y => ∃ u', RunW w0 h0 B S base K da dn dc s P T W D (n + 1) now σ9 u' y := ⟨_, rfl⟩
            have HTK : Hid (∀ y, JQ y → Calls Try.prog 23 #[.pointer (some ⟨B, 0, none⟩), .agg #[.int .i64 er, .slice ra rn rc, .int .i64 v, .int .i64 bo, .int .i64 io, .slice none 0 0, .bool false], .int .i64 (now : Int)] y fun e y' => (∃ v, e = .returned v) ∧ RQ y') := Lib.hid (fun y hj => by
              rw [hJQ] at hj
              rw [hRQ]
              exact (take_run (W := W) (T := T) hj.up HR.out.ru H4.out hP hT (by omega) hj.dat (v := v) HR.out.wait (by omega) hj.ob hj.got).mono fun e y' hd => ⟨hd.1, by
                obtain ⟨_, u', hu, hr, hf, ht⟩ := hd
                exact ⟨u', hj.end9 hu hr (Nat.le_trans HR.out.wait (wSum_mono hf)) ht⟩⟩)
            have HRP : Hid (∀ y, JQ y → y.heap[rb]? = some (.cells #[.int .i64 er, .slice ra rn rc, .int .i64 v, .int .i64 bo, .int .i64 io, .slice none 0 0, .bool false] 36 (0, 0)) ∧ y.cell? ⟨S, 4, none⟩ = some (.int .i64 (now : Int))) := Lib.hid (fun y hj => by
              rw [hJQ] at hj
              refine ⟨hj.rp, ?_⟩
              have c4 := cell_blk hj.st.blk (i := 4) (u := .int .i64 σ9.now) rfl
              rw [hj.clk] at c4
              exact c4)
            have HJI : Hid (JQ wc.drew) := Lib.hid (by rw [hJQ]; exact HJ.out.below ((Below.refl _ _).drew))
            have HRQ := Lib.hid hRQ
            clear HJ hJQ hRQ
            go_upto_region 22 with fail
            refine wp_region_chain (by kernel_rfl) (by kernel_rfl) (by kernel_rfl) [6] false (by kernel_rfl) (fun k _ y => match k with
                | 0 => JQ y
                | _ => RQ y) (fun y => JQ y) (fun j_9 => match j_9 with | 0 => some (.pointer (some ⟨B, 0, none⟩)) | 1 => some (.agg #[.int .i64 er, .slice ra rn rc, .int .i64 v, .int .i64 bo, .int .i64 io, .slice none 0 0, .bool false]) | 2 => some (.pointer (some ⟨S, 0, none⟩)) | 3 => some (.pointer (some ⟨S, 0, none⟩)) | 4 => some (.pointer (some ⟨S, 4, none⟩)) | 5 => some (.int .i64 (now : Int)) | 6 => none | _ => none) (by rfl) (fun _ => HJI.out) (fun k u y hk9 _ hs => by
                have hk : k < 1 := hk9 rfl
                clear hk9
                match k, hk, hs with
                | 0, _, hs => exact hs) ?_ ?_ ?_
            · intro i9 o ho hc9 V w9 K hR9 hdep hK
              have HR9 := Lib.hid hR9
              simp only [fill, slotOf, List.size_toArray, List.length_cons, List.length_nil, Nat.reduceAdd, List.getElem?_toArray, List.getElem?_cons_zero, List.getElem?_cons_succ, Option.bind_some, Act.put, List.setIfInBounds_toArray, List.set_cons_zero, List.set_cons_succ] at hK ⊢
              have hin9 : i9 < 7 := (Array.getElem?_eq_some_iff.1 ho).1
              have hcs : i9 = 0 ∨ i9 = 1 ∨ i9 = 2 ∨ i9 = 3 ∨ i9 = 4 ∨ i9 = 5 ∨ i9 = 6 := by omega
              clear hin9
              rcases hcs with rfl | rfl | rfl | rfl | rfl | rfl | rfl
              · obtain rfl := Option.some.inj ho.symm
                clear hdep ho hR9 hc9
                try simp only [fill, slotOf, List.size_toArray, List.length_cons, List.length_nil, Nat.reduceAdd, List.getElem?_toArray, List.getElem?_cons_zero, List.getElem?_cons_succ, Option.bind_some, Act.put, List.setIfInBounds_toArray, List.set_cons_zero, List.set_cons_succ] at hK ⊢
                go_simp
                exact hK (.pointer (some ⟨B, 0, none⟩)) rfl _ rfl
              · obtain rfl := Option.some.inj ho.symm
                have u0 := cell_blk (HRP.out _ HR9.out).1 (i := 0) (u := .int .i64 er) rfl
                have u1 := cell_blk (HRP.out _ HR9.out).1 (i := 1) (u := .slice ra rn rc) rfl
                have u2 := cell_blk (HRP.out _ HR9.out).1 (i := 2) (u := .int .i64 v) rfl
                have u3 := cell_blk (HRP.out _ HR9.out).1 (i := 3) (u := .int .i64 bo) rfl
                have u4 := cell_blk (HRP.out _ HR9.out).1 (i := 4) (u := .int .i64 io) rfl
                have u5 := cell_blk (HRP.out _ HR9.out).1 (i := 5) (u := .slice none 0 0) rfl
                have u6 := cell_blk (HRP.out _ HR9.out).1 (i := 6) (u := .bool false) rfl
                clear hdep ho hR9 hc9
                try simp only [fill, slotOf, List.size_toArray, List.length_cons, List.length_nil, Nat.reduceAdd, List.getElem?_toArray, List.getElem?_cons_zero, List.getElem?_cons_succ, Option.bind_some, Act.put, List.setIfInBounds_toArray, List.set_cons_zero, List.set_cons_succ] at hK ⊢
                go_simp
                exact hK (.agg #[.int .i64 er, .slice ra rn rc, .int .i64 v, .int .i64 bo, .int .i64 io, .slice none 0 0, .bool false]) rfl _ rfl
              · obtain rfl := Option.some.inj ho.symm
                clear hdep ho hR9 hc9
                try simp only [fill, slotOf, List.size_toArray, List.length_cons, List.length_nil, Nat.reduceAdd, List.getElem?_toArray, List.getElem?_cons_zero, List.getElem?_cons_succ, Option.bind_some, Act.put, List.setIfInBounds_toArray, List.set_cons_zero, List.set_cons_succ] at hK ⊢
                go_simp
                exact hK (.pointer (some ⟨S, 0, none⟩)) rfl _ rfl
              · obtain rfl := Option.some.inj ho.symm
                have d2 : V 2 = .pointer (some ⟨S, 0, none⟩) := hdep ⟨2, .data⟩ (by simp) rfl _ rfl
                clear hdep ho hR9 hc9
                try simp only [fill, slotOf, List.size_toArray, List.length_cons, List.length_nil, Nat.reduceAdd, List.getElem?_toArray, List.getElem?_cons_zero, List.getElem?_cons_succ, Option.bind_some, Act.put, List.setIfInBounds_toArray, List.set_cons_zero, List.set_cons_succ] at hK ⊢
                rw [d2] at hK ⊢
                go_simp
                exact hK (.pointer (some ⟨S, 0, none⟩)) rfl _ rfl
              · obtain rfl := Option.some.inj ho.symm
                have d3 : V 3 = .pointer (some ⟨S, 0, none⟩) := hdep ⟨3, .data⟩ (by simp) rfl _ rfl
                clear hdep ho hR9 hc9
                try simp only [fill, slotOf, List.size_toArray, List.length_cons, List.length_nil, Nat.reduceAdd, List.getElem?_toArray, List.getElem?_cons_zero, List.getElem?_cons_succ, Option.bind_some, Act.put, List.setIfInBounds_toArray, List.set_cons_zero, List.set_cons_succ] at hK ⊢
                rw [d3] at hK ⊢
                go_simp
                exact hK (.pointer (some ⟨S, 4, none⟩)) rfl _ rfl
              · obtain rfl := Option.some.inj ho.symm
                have d4 : V 4 = .pointer (some ⟨S, 4, none⟩) := hdep ⟨4, .data⟩ (by simp) rfl _ rfl
                have u4 := (HRP.out _ HR9.out).2
                clear hdep ho hR9 hc9
                try simp only [fill, slotOf, List.size_toArray, List.length_cons, List.length_nil, Nat.reduceAdd, List.getElem?_toArray, List.getElem?_cons_zero, List.getElem?_cons_succ, Option.bind_some, Act.put, List.setIfInBounds_toArray, List.set_cons_zero, List.set_cons_succ] at hK ⊢
                rw [d4] at hK ⊢
                go_simp
                exact hK (.int .i64 (now : Int)) rfl _ rfl
              · cases hc9
            · intro i9 j9 o he9 ho V w9 K hS9 hdep hK
              simp only [fill, slotOf, List.size_toArray, List.length_cons, List.length_nil, Nat.reduceAdd, List.getElem?_toArray, List.getElem?_cons_zero, List.getElem?_cons_succ, Option.bind_some, Act.put, List.setIfInBounds_toArray, List.set_cons_zero, List.set_cons_succ] at hK ⊢
              have hin9 : i9 < 1 := (List.getElem?_eq_some_iff.1 he9).1
              have hcs : i9 = 0 := by omega
              clear hin9
              rcases hcs with rfl
              · obtain rfl := Option.some.inj he9.symm
                obtain rfl := Option.some.inj ho.symm
                have d0 : V 0 = .pointer (some ⟨B, 0, none⟩) := hdep ⟨0, .data⟩ (by simp) rfl _ rfl
                have d1 : V 1 = .agg #[.int .i64 er, .slice ra rn rc, .int .i64 v, .int .i64 bo, .int .i64 io, .slice none 0 0, .bool false] := hdep ⟨1, .data⟩ (by simp) rfl _ rfl
                have d5 : V 5 = .int .i64 (now : Int) := hdep ⟨5, .data⟩ (by simp) rfl _ rfl
                have hs : JQ w9 := hS9
                have HTC := Lib.hid (HTK.out w9 hs)
                clear hdep ho he9 hS9 hs
                try simp only [fill, slotOf, List.size_toArray, List.length_cons, List.length_nil, Nat.reduceAdd, List.getElem?_toArray, List.getElem?_cons_zero, List.getElem?_cons_succ, Option.bind_some, Act.put, List.setIfInBounds_toArray, List.set_cons_zero, List.set_cons_succ] at hK ⊢
                rw [d0, d1, d5] at hK ⊢
                go_simp
                refine HTC.out.mono ?_
                rintro e w8 ⟨⟨v9, rfl⟩, hx⟩
                exact hK _ w8 hx (fun y h => by cases h) _ rfl
            · intro V wN hS9 hv9
              have hr9 := (show RQ wN from hS9)
              rw [HRQ.out] at hr9
              obtain ⟨u', hr⟩ := hr9
              have HRN := Lib.hid hr
              have hb99 := HRN.out.bound hP hT hW
              clear hS9 hv9 hr HTK HJI HRP HRQ
              simp only [fill, slotOf, List.size_toArray, List.length_cons, List.length_nil, Nat.reduceAdd, List.getElem?_toArray, List.getElem?_cons_zero, List.getElem?_cons_succ, Option.bind_some, Act.put, List.setIfInBounds_toArray, List.set_cons_zero, List.set_cons_succ]
              go_wp2_with fail
              go_roundw
              case rel => exact ⟨k + 1, n + 1, now, σ9, u', by omega, by go_num, by go_num, by have := HKN.out; omega, by omega, HRN⟩
              case measure => simp [intOf]; omega
end Go.Proofs.Ytodoklnohedolaa
end PkUC6_6
