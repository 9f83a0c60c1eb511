/- Texts put together by packtpl2.py: Uj, Us, Ut, Uu, Uv, Up, UpNext, UpNew, UpPacesWalk, UdWalk, UpOpen. -/
import Derived.Test.YtodoklnohedolaaPkUD1
import Derived.Test.YtodoklnohedolaaPkUD3
import Derived.Laws.Tables
import Derived.Lib.SlBytesConst
import Derived.BigQuiet
import Derived.Deep.Slices
import Derived.Deep.Fields
import Derived.SizedLaws
import Derived.Below
import Derived.OpenShut
import Derived.ChangeSlices
section PkUD4_0
/- An upload's Next of a part, walked. Written by genuj.py. -/
namespace Go.Proofs.Ytodoklnohedolaa
open Go.RowKit
set_option linter.unusedVariables false
set_option linter.unusedSimpArgs false

theorem bytes_set7 {w : World} {a : Option Addr} {n c R : Nat} {xs : List Nat} (h : BytesAt w a n c xs) (hne : ∀ b off s, a = some ⟨b, off, s⟩ → b ≠ R) {x0 x1 x2 x3 x4 x5 x6 : Value} : BytesAt (set7 w R x0 x1 x2 x3 x4 x5 x6) a n c xs :=
  ⟨h.len, h.cap, h.byte, h.reach, h.capm, h.nl, fun hn => by
    obtain ⟨b, off, e, hb, hc⟩ := h.cells hn
    have hbR := hne b off none e
    have hblk : (set7 w R x0 x1 x2 x3 x4 x5 x6).heap[b]? = w.heap[b]? := by
      unfold set7
      exact (Below.heap_setCell _ _ _ _ (show b ≠ R from hbR)).trans ((Below.heap_setCell _ _ _ _ (show b ≠ R from hbR)).trans ((Below.heap_setCell _ _ _ _ (show b ≠ R from hbR)).trans ((Below.heap_setCell _ _ _ _ (show b ≠ R from hbR)).trans ((Below.heap_setCell _ _ _ _ (show b ≠ R from hbR)).trans ((Below.heap_setCell _ _ _ _ (show b ≠ R from hbR)).trans (Below.heap_setCell _ _ _ _ (show b ≠ R from hbR)))))))
    refine ⟨b, off, e, ?_, fun i hi => ?_⟩
    · have : (set7 w R x0 x1 x2 x3 x4 x5 x6).heap.size = w.heap.size := by unfold set7; simp [World.setCell]
      omega
    · rw [← hc i hi]
      unfold World.cell?
      rw [hblk]⟩
set_option maxRecDepth 100000 in
set_option maxHeartbeats 8000000 in
theorem unext_part {w : World} {B : Nat} {u : UG} (g : UAt w B u) {now : Int} {dx : List Nat} (hd : BytesAt w u.da u.dn u.dc dx) (htl : u.told = false) (h : u.rd ≤ now) (hst : u.st = 1) {k s p m : Nat} (hnx : u.nx = (k : Int) + 1) (hsz : u.sz = (s : Int)) (hk : k ≤ 100) (hs : s ≤ 262144) (hp : p = k * s) (hpd : p ≤ u.dn) (hm : m = min s (u.dn - p)) :
    Calls Try.prog 22 #[.pointer (some ⟨B, 0, none⟩), .int .i64 now] w fun e w' => ∃ c9 c8, e = .returned (.tuple #[.agg #[.int .i64 8, .string { data := #[] }, .slice c9 m c8, .int .i64 0, .int .i64 0, .int .i64 u.nx, .int .i64 u.id], .bool true]) ∧ BytesAt w' c9 m c8 ((dx.drop p).take m) ∧ UAt w' B { u with told := true } ∧ Turns B w w' := by
  obtain ⟨w1, hw1⟩ : ∃ w1, w1 = w.alloc (.cells #[.int .i64 0, .string { data := #[] }, .slice none 0 0, .int .i64 0, .int .i64 0, .int .i64 0, .int .i64 0] 30) := ⟨_, rfl⟩
  have hb1 : Below w.heap.size w w1 := by rw [hw1]; exact (Below.refl _ _).alloc (Nat.le_refl _) _
  obtain ⟨R, hR⟩ : ∃ R, R = w.heap.size := ⟨_, rfl⟩
  have gr : w1.heap[R]? = some (.cells #[.int .i64 0, .string { data := #[] }, .slice none 0 0, .int .i64 0, .int .i64 0, .int .i64 0, .int .i64 0] 30 (0, 0)) := by rw [hw1, hR]; exact heap_alloc_newG w _
  have g1 := g.below hb1
  have hBR : B ≠ R := by have := g.lt; omega
  have HBR := Lib.hid hBR
  have hRw : w.heap.size ≤ R := by omega
  have HRW := Lib.hid hRw
  have HT := Lib.hid ((Turns.refl B w).below hb1)
  have HW1 := Lib.hid hw1
  have HRE := Lib.hid hR
  have hRl : R < w1.heap.size := (Array.getElem?_eq_some_iff.1 gr).1
  have c10 := cell_blk g1 (i := 10) (u := .int .i64 u.st) rfl
  have z5 : (u.st == 5) = false := by rw [beq_eq_false_iff_ne]; omega
  have hps : p ≤ 26214400 := by rw [hp]; exact Nat.mul_le_mul hk hs
  have hcp := hd.cap
  have hcm := hd.capm
  obtain ⟨E, hE⟩ : ∃ E : Int, E = (p : Int) + (s : Int) := ⟨_, rfl⟩
  have wm : IntKind.i64.wrap (u.nx * u.sz) = E := by
    have e1 : u.nx * u.sz = E := by rw [hnx, hsz, hE, hp, Int.add_mul, Int.one_mul]; push_cast; rfl
    rw [e1]
    exact IntWalk.i64_in _ (by omega)
  have ws : IntKind.i64.wrap (E - u.sz) = (p : Int) := by rw [hsz, hE, show (p : Int) + (s : Int) - (s : Int) = (p : Int) from by omega]; exact IntWalk.i64_in _ (by omega)
  have hmC : min E (u.dn : Int) = (p : Int) + (m : Int) := by omega
  have hsl := slice_runD2 u.da u.dn u.dc p m (by omega)
  obtain ⟨a5, ha5⟩ : ∃ a5, a5 = (if u.dc = p then (u.da : Option Addr) else u.da.map (·.add p)) := ⟨_, rfl⟩
  rw [← ha5] at hsl
  have HSB1 := Lib.hid (show ∀ w2, Turns B w1 w2 → BytesAt w2 a5 m (u.dc - p) ((dx.drop p).take m) from fun w2 ht => by
    rw [ha5]
    exact (bytes_turns g1 (hd.kept hb1) ht).subAnyD2 p m (by omega))
  have HTL := Lib.hid (tell_yes (o := 5) (now := now) g1 (uAt_told htl) rfl h)
  have HRK := Lib.hid (show ∀ w2, Turns B w1 w2 → w2.heap[R]? = _ from fun w2 h => (h.block R hRl (Ne.symm hBR)).trans gr)
  have HRl := Lib.hid hRl
  have z0 : (u.st == 0) = false := by simp [hst]
  have z1 : (u.st == 1) = true := by simp [hst]
  clear g g1 hb1 hw1 hR hRl hBR h hRw gr hd ha5 hst hnx hsz hE hp hm
  go_enter Try.func22, Try.ntmps22
  go_upto_region 1 with fail
  rw [← HW1.out, ← HRE.out]
  go_wp2_with fail
  refine HTL.out.mono ?_
  rintro e w2 ⟨rfl, hg2, ht2⟩
  have hg3 : UAt w2 B { u with told := true } := hg2
  have HGR := Lib.hid (HRK.out w2 ht2)
  have HT2 := Lib.hid (HT.out.trans ht2)
  have HSB := Lib.hid (HSB1.out w2 ht2)
  have HG3 := Lib.hid hg3
  have HRL := Lib.hid (Nat.lt_of_lt_of_le HRl.out ht2.size)
  have c10 := cell_blk hg3 (i := 10) (u := .int .i64 u.st) rfl
  have c4 := cell_blk hg3 (i := 4) (u := .int .i64 u.nx) rfl
  have c2 := cell_blk hg3 (i := 2) (u := .int .i64 u.sz) rfl
  clear hg2 ht2 hg3 HRK HSB1
  go_upto_region 7 with fail
  go_region
  go_upto_region 8 with fail
  clear c10 c4 c2 wm
  have HI8 := Lib.hid ((Below.refl w2.heap.size w2).drew.drew)
  refine wp_region_chain (by kernel_rfl) (by kernel_rfl) (by kernel_rfl) [18, 19] false (by kernel_rfl) (fun k u y => match k with
      | 0 => Below w2.heap.size w2 y
      | 1 => ∃ c9 c8, u 0 = .slice c9 m c8 ∧ BytesAt y c9 m c8 ((dx.drop p).take m) ∧ (∀ b off s, c9 = some ⟨b, off, s⟩ → w2.heap.size ≤ b) ∧ Below w2.heap.size w2 y
      | _ => ∃ c9 c8, u 1 = .slice c9 m c8 ∧ BytesAt y c9 m c8 ((dx.drop p).take m) ∧ (∀ b off s, c9 = some ⟨b, off, s⟩ → w2.heap.size ≤ b) ∧ Below w2.heap.size w2 y) (fun y => Below w2.heap.size w2 y) (fun j_9 => match j_9 with | 0 => some (.pointer (some ⟨B, 0, none⟩)) | 1 => some (.pointer (some ⟨B, 0, none⟩)) | 2 => some (.pointer (some ⟨B, 1, none⟩)) | 3 => some (.slice u.da u.dn u.dc) | 4 => some (.int .i64 E) | 5 => some (.pointer (some ⟨B, 0, none⟩)) | 6 => some (.pointer (some ⟨B, 0, none⟩)) | 7 => some (.pointer (some ⟨B, 2, none⟩)) | 8 => some (.int .i64 u.sz) | 9 => some (.int .i64 (p : Int)) | 10 => some (.int .i64 E) | 11 => some (.pointer (some ⟨B, 0, none⟩)) | 12 => some (.pointer (some ⟨B, 0, none⟩)) | 13 => some (.pointer (some ⟨B, 1, none⟩)) | 14 => some (.slice u.da u.dn u.dc) | 15 => some (.int .i64 (u.dn : Int)) | 16 => some (.int .i64 ((p : Int) + (m : Int))) | 17 => some (.slice a5 m (u.dc - p)) | 18 => none | 19 => none | _ => none) (by rfl) (fun u => HI8.out) (fun k u y hk9 _ hs => by
      have hk : k < 2 := hk9 rfl
      clear hk9
      match k, hk, hs with
      | 0, _, hs => exact hs
      | 1, _, hs =>
        obtain ⟨_, _, _, _, _, hb⟩ := hs
        exact hb) ?_ ?_ ?_
  · intro i9 o ho hc9 V w9 K hR9 hdep hK
    have HR9 := Lib.hid hR9
    simp only [fill, slotOf, List.size_toArray, List.length_cons, List.length_nil, Nat.reduceAdd, List.getElem?_toArray, List.getElem?_cons_zero, List.getElem?_cons_succ, Option.bind_some, Act.put, List.setIfInBounds_toArray, List.set_cons_zero, List.set_cons_succ] at hK ⊢
    have hin9 : i9 < 20 := (Array.getElem?_eq_some_iff.1 ho).1
    have hcs : i9 = 0 ∨ i9 = 1 ∨ i9 = 2 ∨ i9 = 3 ∨ i9 = 4 ∨ i9 = 5 ∨ i9 = 6 ∨ i9 = 7 ∨ i9 = 8 ∨ i9 = 9 ∨ i9 = 10 ∨ i9 = 11 ∨ i9 = 12 ∨ i9 = 13 ∨ i9 = 14 ∨ i9 = 15 ∨ i9 = 16 ∨ i9 = 17 ∨ i9 = 18 ∨ i9 = 19 := by omega
    clear hin9
    rcases hcs with rfl | rfl | rfl | rfl | rfl | rfl | rfl | rfl | rfl | rfl | rfl | rfl | rfl | rfl | rfl | rfl | rfl | rfl | rfl | rfl
    · obtain rfl := Option.some.inj ho.symm
      clear hdep ho hR9 hc9
      try simp only [fill, slotOf, List.size_toArray, List.length_cons, List.length_nil, Nat.reduceAdd, List.getElem?_toArray, List.getElem?_cons_zero, List.getElem?_cons_succ, Option.bind_some, Act.put, List.setIfInBounds_toArray, List.set_cons_zero, List.set_cons_succ] at hK ⊢
      go_simp
      exact hK (.pointer (some ⟨B, 0, none⟩)) rfl _ rfl
    · obtain rfl := Option.some.inj ho.symm
      have d0 : V 0 = .pointer (some ⟨B, 0, none⟩) := hdep ⟨0, .data⟩ (by simp) rfl _ rfl
      clear hdep ho hR9 hc9
      try simp only [fill, slotOf, List.size_toArray, List.length_cons, List.length_nil, Nat.reduceAdd, List.getElem?_toArray, List.getElem?_cons_zero, List.getElem?_cons_succ, Option.bind_some, Act.put, List.setIfInBounds_toArray, List.set_cons_zero, List.set_cons_succ] at hK ⊢
      rw [d0] at hK ⊢
      go_simp
      exact hK (.pointer (some ⟨B, 0, none⟩)) rfl _ rfl
    · obtain rfl := Option.some.inj ho.symm
      have d1 : V 1 = .pointer (some ⟨B, 0, none⟩) := hdep ⟨1, .data⟩ (by simp) rfl _ rfl
      clear hdep ho hR9 hc9
      try simp only [fill, slotOf, List.size_toArray, List.length_cons, List.length_nil, Nat.reduceAdd, List.getElem?_toArray, List.getElem?_cons_zero, List.getElem?_cons_succ, Option.bind_some, Act.put, List.setIfInBounds_toArray, List.set_cons_zero, List.set_cons_succ] at hK ⊢
      rw [d1] at hK ⊢
      go_simp
      exact hK (.pointer (some ⟨B, 1, none⟩)) rfl _ rfl
    · obtain rfl := Option.some.inj ho.symm
      have d2 : V 2 = .pointer (some ⟨B, 1, none⟩) := hdep ⟨2, .data⟩ (by simp) rfl _ rfl
      have u0 := cell_blk (HG3.out.below HR9.out) (i := 1) (u := .slice u.da u.dn u.dc) rfl
      clear hdep ho hR9 hc9
      try simp only [fill, slotOf, List.size_toArray, List.length_cons, List.length_nil, Nat.reduceAdd, List.getElem?_toArray, List.getElem?_cons_zero, List.getElem?_cons_succ, Option.bind_some, Act.put, List.setIfInBounds_toArray, List.set_cons_zero, List.set_cons_succ] at hK ⊢
      rw [d2] at hK ⊢
      go_simp
      exact hK (.slice u.da u.dn u.dc) rfl _ rfl
    · obtain rfl := Option.some.inj ho.symm
      clear hdep ho hR9 hc9
      try simp only [fill, slotOf, List.size_toArray, List.length_cons, List.length_nil, Nat.reduceAdd, List.getElem?_toArray, List.getElem?_cons_zero, List.getElem?_cons_succ, Option.bind_some, Act.put, List.setIfInBounds_toArray, List.set_cons_zero, List.set_cons_succ] at hK ⊢
      go_simp
      exact hK (.int .i64 E) rfl _ rfl
    · obtain rfl := Option.some.inj ho.symm
      clear hdep ho hR9 hc9
      try simp only [fill, slotOf, List.size_toArray, List.length_cons, List.length_nil, Nat.reduceAdd, List.getElem?_toArray, List.getElem?_cons_zero, List.getElem?_cons_succ, Option.bind_some, Act.put, List.setIfInBounds_toArray, List.set_cons_zero, List.set_cons_succ] at hK ⊢
      go_simp
      exact hK (.pointer (some ⟨B, 0, none⟩)) rfl _ rfl
    · obtain rfl := Option.some.inj ho.symm
      have d5 : V 5 = .pointer (some ⟨B, 0, none⟩) := hdep ⟨5, .data⟩ (by simp) rfl _ rfl
      clear hdep ho hR9 hc9
      try simp only [fill, slotOf, List.size_toArray, List.length_cons, List.length_nil, Nat.reduceAdd, List.getElem?_toArray, List.getElem?_cons_zero, List.getElem?_cons_succ, Option.bind_some, Act.put, List.setIfInBounds_toArray, List.set_cons_zero, List.set_cons_succ] at hK ⊢
      rw [d5] at hK ⊢
      go_simp
      exact hK (.pointer (some ⟨B, 0, none⟩)) rfl _ rfl
    · obtain rfl := Option.some.inj ho.symm
      have d6 : V 6 = .pointer (some ⟨B, 0, none⟩) := hdep ⟨6, .data⟩ (by simp) rfl _ rfl
      clear hdep ho hR9 hc9
      try simp only [fill, slotOf, List.size_toArray, List.length_cons, List.length_nil, Nat.reduceAdd, List.getElem?_toArray, List.getElem?_cons_zero, List.getElem?_cons_succ, Option.bind_some, Act.put, List.setIfInBounds_toArray, List.set_cons_zero, List.set_cons_succ] at hK ⊢
      rw [d6] at hK ⊢
      go_simp
      exact hK (.pointer (some ⟨B, 2, none⟩)) rfl _ rfl
    · obtain rfl := Option.some.inj ho.symm
      have d7 : V 7 = .pointer (some ⟨B, 2, none⟩) := hdep ⟨7, .data⟩ (by simp) rfl _ rfl
      have u0 := cell_blk (HG3.out.below HR9.out) (i := 2) (u := .int .i64 u.sz) rfl
      clear hdep ho hR9 hc9
      try simp only [fill, slotOf, List.size_toArray, List.length_cons, List.length_nil, Nat.reduceAdd, List.getElem?_toArray, List.getElem?_cons_zero, List.getElem?_cons_succ, Option.bind_some, Act.put, List.setIfInBounds_toArray, List.set_cons_zero, List.set_cons_succ] at hK ⊢
      rw [d7] at hK ⊢
      go_simp
      exact hK (.int .i64 u.sz) rfl _ rfl
    · obtain rfl := Option.some.inj ho.symm
      have d4 : V 4 = .int .i64 E := hdep ⟨4, .data⟩ (by simp) rfl _ rfl
      have d8 : V 8 = .int .i64 u.sz := hdep ⟨8, .data⟩ (by simp) rfl _ rfl
      clear hdep ho hR9 hc9
      try simp only [fill, slotOf, List.size_toArray, List.length_cons, List.length_nil, Nat.reduceAdd, List.getElem?_toArray, List.getElem?_cons_zero, List.getElem?_cons_succ, Option.bind_some, Act.put, List.setIfInBounds_toArray, List.set_cons_zero, List.set_cons_succ] at hK ⊢
      rw [d4, d8] at hK ⊢
      go_simp
      exact hK (.int .i64 (p : Int)) rfl _ rfl
    · obtain rfl := Option.some.inj ho.symm
      clear hdep ho hR9 hc9
      try simp only [fill, slotOf, List.size_toArray, List.length_cons, List.length_nil, Nat.reduceAdd, List.getElem?_toArray, List.getElem?_cons_zero, List.getElem?_cons_succ, Option.bind_some, Act.put, List.setIfInBounds_toArray, List.set_cons_zero, List.set_cons_succ] at hK ⊢
      go_simp
      exact hK (.int .i64 E) rfl _ rfl
    · obtain rfl := Option.some.inj ho.symm
      clear hdep ho hR9 hc9
      try simp only [fill, slotOf, List.size_toArray, List.length_cons, List.length_nil, Nat.reduceAdd, List.getElem?_toArray, List.getElem?_cons_zero, List.getElem?_cons_succ, Option.bind_some, Act.put, List.setIfInBounds_toArray, List.set_cons_zero, List.set_cons_succ] at hK ⊢
      go_simp
      exact hK (.pointer (some ⟨B, 0, none⟩)) rfl _ rfl
    · obtain rfl := Option.some.inj ho.symm
      have d11 : V 11 = .pointer (some ⟨B, 0, none⟩) := hdep ⟨11, .data⟩ (by simp) rfl _ rfl
      clear hdep ho hR9 hc9
      try simp only [fill, slotOf, List.size_toArray, List.length_cons, List.length_nil, Nat.reduceAdd, List.getElem?_toArray, List.getElem?_cons_zero, List.getElem?_cons_succ, Option.bind_some, Act.put, List.setIfInBounds_toArray, List.set_cons_zero, List.set_cons_succ] at hK ⊢
      rw [d11] at hK ⊢
      go_simp
      exact hK (.pointer (some ⟨B, 0, none⟩)) rfl _ rfl
    · obtain rfl := Option.some.inj ho.symm
      have d12 : V 12 = .pointer (some ⟨B, 0, none⟩) := hdep ⟨12, .data⟩ (by simp) rfl _ rfl
      clear hdep ho hR9 hc9
      try simp only [fill, slotOf, List.size_toArray, List.length_cons, List.length_nil, Nat.reduceAdd, List.getElem?_toArray, List.getElem?_cons_zero, List.getElem?_cons_succ, Option.bind_some, Act.put, List.setIfInBounds_toArray, List.set_cons_zero, List.set_cons_succ] at hK ⊢
      rw [d12] at hK ⊢
      go_simp
      exact hK (.pointer (some ⟨B, 1, none⟩)) rfl _ rfl
    · obtain rfl := Option.some.inj ho.symm
      have d13 : V 13 = .pointer (some ⟨B, 1, none⟩) := hdep ⟨13, .data⟩ (by simp) rfl _ rfl
      have u0 := cell_blk (HG3.out.below HR9.out) (i := 1) (u := .slice u.da u.dn u.dc) rfl
      clear hdep ho hR9 hc9
      try simp only [fill, slotOf, List.size_toArray, List.length_cons, List.length_nil, Nat.reduceAdd, List.getElem?_toArray, List.getElem?_cons_zero, List.getElem?_cons_succ, Option.bind_some, Act.put, List.setIfInBounds_toArray, List.set_cons_zero, List.set_cons_succ] at hK ⊢
      rw [d13] at hK ⊢
      go_simp
      exact hK (.slice u.da u.dn u.dc) rfl _ rfl
    · obtain rfl := Option.some.inj ho.symm
      have d14 : V 14 = .slice u.da u.dn u.dc := hdep ⟨14, .data⟩ (by simp) rfl _ rfl
      clear hdep ho hR9 hc9
      try simp only [fill, slotOf, List.size_toArray, List.length_cons, List.length_nil, Nat.reduceAdd, List.getElem?_toArray, List.getElem?_cons_zero, List.getElem?_cons_succ, Option.bind_some, Act.put, List.setIfInBounds_toArray, List.set_cons_zero, List.set_cons_succ] at hK ⊢
      rw [d14] at hK ⊢
      go_simp
      exact hK (.int .i64 (u.dn : Int)) rfl _ rfl
    · obtain rfl := Option.some.inj ho.symm
      have d10 : V 10 = .int .i64 E := hdep ⟨10, .data⟩ (by simp) rfl _ rfl
      have d15 : V 15 = .int .i64 (u.dn : Int) := hdep ⟨15, .data⟩ (by simp) rfl _ rfl
      clear hdep ho hR9 hc9
      try simp only [fill, slotOf, List.size_toArray, List.length_cons, List.length_nil, Nat.reduceAdd, List.getElem?_toArray, List.getElem?_cons_zero, List.getElem?_cons_succ, Option.bind_some, Act.put, List.setIfInBounds_toArray, List.set_cons_zero, List.set_cons_succ] at hK ⊢
      rw [d10, d15] at hK ⊢
      go_simp
      exact hK (.int .i64 ((p : Int) + (m : Int))) rfl _ rfl
    · obtain rfl := Option.some.inj ho.symm
      have d3 : V 3 = .slice u.da u.dn u.dc := hdep ⟨3, .data⟩ (by simp) rfl _ rfl
      have d9 : V 9 = .int .i64 (p : Int) := hdep ⟨9, .data⟩ (by simp) rfl _ rfl
      have d16 : V 16 = .int .i64 ((p : Int) + (m : Int)) := hdep ⟨16, .data⟩ (by simp) rfl _ rfl
      clear hdep ho hR9 hc9
      try simp only [fill, slotOf, List.size_toArray, List.length_cons, List.length_nil, Nat.reduceAdd, List.getElem?_toArray, List.getElem?_cons_zero, List.getElem?_cons_succ, Option.bind_some, Act.put, List.setIfInBounds_toArray, List.set_cons_zero, List.set_cons_succ] at hK ⊢
      rw [d3, d9, d16] at hK ⊢
      go_simp
      exact hK (.slice a5 m (u.dc - p)) rfl _ rfl
    · cases hc9
    · cases hc9
  · intro i9 j9 o he9 ho V w9 K hS9 hdep hK
    simp only [fill, slotOf, List.size_toArray, List.length_cons, List.length_nil, Nat.reduceAdd, List.getElem?_toArray, List.getElem?_cons_zero, List.getElem?_cons_succ, Option.bind_some, Act.put, List.setIfInBounds_toArray, List.set_cons_zero, List.set_cons_succ] at hK ⊢
    have hin9 : i9 < 2 := (List.getElem?_eq_some_iff.1 he9).1
    have hcs : i9 = 0 ∨ i9 = 1 := by omega
    clear hin9
    rcases hcs with rfl | rfl
    · obtain rfl := Option.some.inj he9.symm
      obtain rfl := Option.some.inj ho.symm
      have d17 : V 17 = .slice a5 m (u.dc - p) := hdep ⟨17, .data⟩ (by simp) rfl _ rfl
      have hs : Below w2.heap.size w2 w9 := hS9
      have HCL := Lib.hid (clone_any ((HSB.out).kept hs))
      have HS9 := Lib.hid hs
      clear hdep ho he9 hS9 hs
      try simp only [fill, slotOf, List.size_toArray, List.length_cons, List.length_nil, Nat.reduceAdd, List.getElem?_toArray, List.getElem?_cons_zero, List.getElem?_cons_succ, Option.bind_some, Act.put, List.setIfInBounds_toArray, List.set_cons_zero, List.set_cons_succ] at hK ⊢
      rw [d17] at hK ⊢
      go_simp
      refine HCL.out.mono ?_
      rintro e w8 ⟨c9, c8, rfl, hb8, hbe8, hn8⟩
      exact hK _ w8 ⟨c9, c8, rfl, hb8, fun b off s e => Nat.le_trans HS9.out.size (hn8 b off s e), HS9.out.trans (hbe8.mono HS9.out.size)⟩ (fun y h => by cases h) _ rfl
    · obtain rfl := Option.some.inj he9.symm
      obtain rfl := Option.some.inj ho.symm
      have hs : ∃ c9 c8, V 18 = .slice c9 m c8 ∧ BytesAt w9 c9 m c8 ((dx.drop p).take m) ∧ (∀ b off s, c9 = some ⟨b, off, s⟩ → w2.heap.size ≤ b) ∧ Below w2.heap.size w2 w9 := hS9
      obtain ⟨c9, c8, e18, hb8, hn8, hbe8⟩ := hs
      have HS9 := Lib.hid (And.intro hb8 (And.intro hn8 hbe8))
      clear hdep ho he9 hS9 hb8 hn8 hbe8
      try simp only [fill, slotOf, List.size_toArray, List.length_cons, List.length_nil, Nat.reduceAdd, List.getElem?_toArray, List.getElem?_cons_zero, List.getElem?_cons_succ, Option.bind_some, Act.put, List.setIfInBounds_toArray, List.set_cons_zero, List.set_cons_succ] at hK ⊢
      rw [e18] at hK ⊢
      go_simp
      exact hK _ w9 ⟨c9, c8, rfl, HS9.out⟩ (fun y h => by cases h) _ rfl
  · intro V w4 hS9 hv9
    have hs : ∃ c9 c8, V 19 = .slice c9 m c8 ∧ BytesAt w4 c9 m c8 ((dx.drop p).take m) ∧ (∀ b off s, c9 = some ⟨b, off, s⟩ → w2.heap.size ≤ b) ∧ Below w2.heap.size w2 w4 := hS9
    obtain ⟨c9, c8, e19, hb8, hn8, hbe8⟩ := hs
    simp only [fill, slotOf, List.size_toArray, List.length_cons, List.length_nil, Nat.reduceAdd, List.getElem?_toArray, List.getElem?_cons_zero, List.getElem?_cons_succ, Option.bind_some, Act.put, List.setIfInBounds_toArray, List.set_cons_zero, List.set_cons_succ]
    rw [e19]
    clear e19 hv9 hS9
    have hg4 : UAt w4 B { u with told := true } := HG3.out.below hbe8
    have gr := (hbe8.block R HRL.out).trans HGR.out
    have HT4 := Lib.hid (HT2.out.below hbe8)
    have x4 := cell_blk hg4 (i := 4) (u := .int .i64 u.nx) rfl
    have x11 := cell_blk hg4 (i := 11) (u := .int .i64 u.id) rfl
  
    have q0 := cell_blk gr (i := 0) (u := .int .i64 0) rfl
    have p0 := fro_blk gr 0
    have q1 := cell_blk gr (i := 1) (u := .string { data := #[] }) rfl
    have p1 := fro_blk gr 1
    have q2 := cell_blk gr (i := 2) (u := .slice none 0 0) rfl
    have p2 := fro_blk gr 2
    have q3 := cell_blk gr (i := 3) (u := .int .i64 0) rfl
    have p3 := fro_blk gr 3
    have q4 := cell_blk gr (i := 4) (u := .int .i64 0) rfl
    have p4 := fro_blk gr 4
    have q5 := cell_blk gr (i := 5) (u := .int .i64 0) rfl
    have p5 := fro_blk gr 5
    have q6 := cell_blk gr (i := 6) (u := .int .i64 0) rfl
    have p6 := fro_blk gr 6
    obtain ⟨W9, hW9⟩ : ∃ W9, W9 = set7 w4 R (.int .i64 8) (.string { data := #[] }) (.slice c9 m c8) (.int .i64 0) (.int .i64 0) (.int .i64 u.nx) (.int .i64 u.id) := ⟨_, rfl⟩
    have g9 : W9.heap[R]? = some (.cells #[.int .i64 8, .string { data := #[] }, .slice c9 m c8, .int .i64 0, .int .i64 0, .int .i64 u.nx, .int .i64 u.id] 30 (0, 0)) := by rw [hW9]; exact set7_at gr (.int .i64 8) (.string { data := #[] }) (.slice c9 m c8) (.int .i64 0) (.int .i64 0) (.int .i64 u.nx) (.int .i64 u.id)
    have v0 := cell_blk g9 (i := 0) (u := .int .i64 8) rfl
    have v1 := cell_blk g9 (i := 1) (u := .string { data := #[] }) rfl
    have v2 := cell_blk g9 (i := 2) (u := .slice c9 m c8) rfl
    have v3 := cell_blk g9 (i := 3) (u := .int .i64 0) rfl
    have v4 := cell_blk g9 (i := 4) (u := .int .i64 0) rfl
    have v5 := cell_blk g9 (i := 5) (u := .int .i64 u.nx) rfl
    have v6 := cell_blk g9 (i := 6) (u := .int .i64 u.id) rfl
    have HGB := Lib.hid (show UAt W9 B { u with told := true } from by rw [hW9]; exact hg4.set7 HBR.out (.int .i64 8) (.string { data := #[] }) (.slice c9 m c8) (.int .i64 0) (.int .i64 0) (.int .i64 u.nx) (.int .i64 u.id))
    have HTB := Lib.hid (show Turns B w W9 from by rw [hW9]; exact HT4.out.set7 HRW.out (.int .i64 8) (.string { data := #[] }) (.slice c9 m c8) (.int .i64 0) (.int .i64 0) (.int .i64 u.nx) (.int .i64 u.id))
    have HW9x := hW9
    unfold set7 at hW9
    have HW9 := Lib.hid hW9
    clear hW9 g9 gr
    have HCB := Lib.hid (show BytesAt W9 c9 m c8 ((dx.drop p).take m) from by
      rw [HW9x]
      exact bytes_set7 hb8 (fun b off s e => by have := hn8 b off s e; have := HRL.out; omega))
    clear hb8 hn8 hbe8 hg4 HW9x
    go_upto_region 9 with fail
    go_region
    rw [← HW9.out]
    clear q0 p0 q1 p1 q2 p2 q3 p3 q4 p4 q5 p5 q6 p6
    go_wp2_with fail
    exact bodyPost_ret (v := .tuple #[.agg #[.int .i64 8, .string { data := #[] }, .slice c9 m c8, .int .i64 0, .int .i64 0, .int .i64 u.nx, .int .i64 u.id], .bool true]) (by simp [results, Try.results22, go_sem, v0, v1, v2, v3, v4, v5, v6]) rfl ⟨c9, c8, rfl, HCB.out.drew, HGB.out, HTB.out.drew⟩

end Go.Proofs.Ytodoklnohedolaa
end PkUD4_0
section PkUD4_1
/- A run's calls, told by the upload and done by the store, in one form. -/
namespace Go.Proofs.Ytodoklnohedolaa
open Go.RowKit
set_option linter.unusedVariables false

/-- the call of an upload that stands at st -/
def CallOk (y : World) (K : ByteArray) (D : List Nat) (s P : Nat) (st ki : Int) (ky : ByteArray) (a : Option Addr) (n c : Nat) (nn id : Int) : Prop :=
  (st = 0 ∧ ki = 7 ∧ ky = K ∧ a = none ∧ n = 0 ∧ c = 0 ∧ nn = 0 ∧ id = 0) ∨ (st = 1 ∧ ki = 8 ∧ ky = ByteArray.empty ∧ BytesAt y a n c (pieceD D s nn) ∧ 1 ≤ nn ∧ nn ≤ (P : Int)) ∨
  (st = 2 ∧ ki = 9 ∧ ky = ByteArray.empty ∧ a = none ∧ n = 0 ∧ c = 0 ∧ nn = (P : Int)) ∨ (st = 3 ∧ ki = 3 ∧ ky = K ∧ a = none ∧ n = 0 ∧ c = 0 ∧ nn = 0 ∧ id = 0) ∨ (st = 4 ∧ ki = 10 ∧ ky = ByteArray.empty ∧ a = none ∧ n = 0 ∧ c = 0 ∧ nn = 0)
variable {w w' : World} {S base B s P c : Nat} {K : ByteArray} {D : List Nat} {σ : DSto} {u : UG}
/-- what comes of it -/
def DidC (w : World) (S base : Nat) (K : ByteArray) (D : List Nat) (s P c : Nat) (σ : DSto) (st : Int) (e : Ending) (w' : World) : Prop :=
  ∃ (er v bo io : Int) (ra : Option Addr) (rn rc : Nat) (σ' : DSto), e = .returned (rep er (.slice ra rn rc) v bo io (.slice none 0 0) false) ∧ Did w w' S base K D s P c σ σ' ∧ ((st = 2 ∨ st = 3) → er = 0 → ∃ o, σ'.objs = [o] ∧ o.key = K ∧ o.data = D ∧ o.born = bo) ∧ (st = 3 → er = 0 → BytesAt w' ra rn rc D)
theorem did_any (h : DStAt w S base σ) (hS : base ≤ S) (hb : base ≤ w.heap.size) (hr : RunS K D s P c σ) (hc : c ≤ 100000) (hP : P ≤ 32) (hD : D.length ≤ P * s) {st ki : Int} {ky : ByteArray} {a : Option Addr} {n cc : Nat} {nn id : Int} (hk : CallOk w K D s P st ki ky a n cc nn id) :
    Calls Try.prog 21 #[.pointer (some ⟨S, 0, none⟩), .agg #[.int .i64 ki, .string ky, .slice a n cc, .int .i64 0, .int .i64 0, .int .i64 nn, .int .i64 id]] w (DidC w S base K D s P c σ st) := by
  rcases hk with ⟨rfl, rfl, rfl, rfl, rfl, rfl, rfl, rfl⟩ | ⟨rfl, rfl, rfl, hx, h1, h2⟩ | ⟨rfl, rfl, rfl, rfl, rfl, rfl, rfl⟩ | ⟨rfl, rfl, rfl, rfl, rfl, rfl, rfl, rfl⟩ | ⟨rfl, rfl, rfl, rfl, rfl, rfl, rfl⟩
  · refine (did_7 h hS hb hr hc).mono fun e w' hd => ?_
    obtain ⟨er, io, bo, σ', e1, hd, _⟩ := hd
    exact ⟨er, 0, bo, io, none, 0, 0, σ', e1, hd, (fun h => by rcases h with h | h <;> cases h), (fun h => by cases h)⟩
  · refine (did_8 h hS hb hr hP ⟨h1, h2⟩ hx).mono fun e w' hd => ?_
    obtain ⟨er, σ', e1, hd⟩ := hd
    exact ⟨er, 0, 0, 0, none, 0, 0, σ', e1, hd, (fun h => by rcases h with h | h <;> cases h), (fun h => by cases h)⟩
  · refine (did_9 h hS hb hr hc hD).mono fun e w' hd => ?_
    obtain ⟨er, v, bo, σ', e1, hd, ho⟩ := hd
    exact ⟨er, v, bo, 0, none, 0, 0, σ', e1, hd, (fun _ => ho), (fun h => by cases h)⟩
  · refine (did_3 h hS hb hr).mono fun e w' hd => ?_
    obtain ⟨hd, e1 | ⟨j, o, da, n, dc, _, hj, e1, hby⟩⟩ := hd
    · exact ⟨7, 0, 0, 0, none, 0, 0, σ, e1, hd, (fun _ h => by cases h), (fun _ h => by cases h)⟩
    · obtain ⟨g1, g2, g3⟩ := run_one hr hj
      exact ⟨0, o.ver, o.born, 0, da, n, dc, σ, e1, hd, (fun _ _ => ⟨o, g1, g2, g3, rfl⟩), (fun _ _ => hby)⟩
  · refine (did_10 h hS hb hr id).mono fun e w' hd => ?_
    obtain ⟨er, σ', e1, hd⟩ := hd
    exact ⟨er, 0, 0, 0, none, 0, 0, σ', e1, hd, (fun h => by rcases h with h | h <;> cases h), (fun h => by cases h)⟩
/-- the call that an upload tells -/
theorem next_run {da : Option Addr} {dn dc T W n : Nat} {objs : List DObj} (g : UAt w B u) (h : RnU K da dn dc s P T W D n objs u) (hst : u.st ≤ 4) {now : Int} (hr : u.rd ≤ now) (hby : BytesAt w da dn dc D) (hs : s ≤ 262144) (hP : P ≤ 32) (hpd : (P - 1) * s ≤ dn) (hl : dn ≤ P * s) :
    Calls Try.prog 22 #[.pointer (some ⟨B, 0, none⟩), .int .i64 now] w fun e w' => ∃ ki ky a m c nn id, e = .returned (.tuple #[.agg #[.int .i64 ki, .string ky, .slice a m c, .int .i64 0, .int .i64 0, .int .i64 nn, .int .i64 id], .bool true]) ∧ CallOk w' K D s P u.st ki ky a m c nn id ∧ UAt w' B { u with told := true } ∧ Turns B w w' := by
  obtain ⟨hk, hda, hdn, hdc, hsz, hpt, _, _⟩ := h.eq
  have hst0 := h.st.1
  by_cases h1 : u.st = 1
  · have hx := h.nx
    have hx3 := hx.2.2 (by omega)
    obtain ⟨k, hkk⟩ : ∃ k : Nat, u.nx = (k : Int) + 1 := ⟨(u.nx - 1).toNat, by omega⟩
    have hkP : k + 1 ≤ P := by omega
    have hkd : k * s ≤ dn := Nat.le_trans (Nat.mul_le_mul_right s (show k ≤ P - 1 by omega)) hpd
    refine (unext_part g (dx := D) (k := k) (s := s) (p := k * s) (m := min s (dn - k * s)) (by rw [hda, hdn, hdc]; exact hby) h.told hr h1 hkk hsz (by omega) hs rfl (by rw [hdn]; exact hkd) (by rw [hdn])).mono fun e w' hd => ?_
    obtain ⟨c9, c8, e1, hb9, hu, ht⟩ := hd
    refine ⟨8, ByteArray.empty, c9, _, c8, u.nx, u.id, e1, .inr (.inl ⟨h1, rfl, rfl, ?_, by omega, hx3⟩), hu, ht⟩
    have e2 : pieceD D s u.nx = (D.drop (k * s)).take (min s (dn - k * s)) := by
      unfold pieceD
      have e3 : u.nx.toNat - 1 = k := by omega
      rw [e3]
      have e4 : (D.drop (k * s)).length = dn - k * s := by rw [List.length_drop, hby.len]
      rw [← e4, Nat.min_comm, ← List.take_take]
      exact (List.take_of_length_le (by rw [List.length_take]; omega)).symm
    rw [e2]
    exact hb9
  · refine (unext_yes g h.told hr (by omega)).mono fun e w' hd => ?_
    obtain ⟨e1, hu, ht⟩ := hd
    unfold UG.callC at e1
    have hcs : u.st = 0 ∨ u.st = 2 ∨ u.st = 3 ∨ u.st = 4 := by omega
    rcases hcs with e | e | e | e
    · rw [if_pos e] at e1
      exact ⟨_, _, _, _, _, _, _, e1, .inl ⟨e, rfl, hk, rfl, rfl, rfl, rfl, rfl⟩, hu, ht⟩
    · rw [if_neg (by omega), if_pos e] at e1
      exact ⟨_, _, _, _, _, _, _, e1, .inr (.inr (.inl ⟨e, rfl, rfl, rfl, rfl, rfl, hpt⟩)), hu, ht⟩
    · rw [if_neg (by omega), if_neg (by omega), if_pos e] at e1
      exact ⟨_, _, _, _, _, _, _, e1, .inr (.inr (.inr (.inl ⟨e, rfl, hk, rfl, rfl, rfl, rfl, rfl⟩))), hu, ht⟩
    · rw [if_neg (by omega), if_neg (by omega), if_neg (by omega)] at e1
      exact ⟨_, _, _, _, _, _, _, e1, .inr (.inr (.inr (.inr ⟨e, rfl, rfl, rfl, rfl, rfl, rfl⟩))), hu, ht⟩
end Go.Proofs.Ytodoklnohedolaa
end PkUD4_1
section PkUD4_2
/- A reply taken within a run. -/
namespace Go.Proofs.Ytodoklnohedolaa
open Go.RowKit
set_option linter.unusedVariables false

variable {w w' : World} {S base B s P c : Nat} {K : ByteArray} {D : List Nat} {σ : DSto} {u : UG}
theorem takeF_told (u : UG) (b : Bool) (er bo io now : Int) (same : Bool) : UG.takeF { u with told := b } er bo io now same = u.takeF er bo io now same := rfl
theorem give_f (u : UG) : u.give.f = u.f := by unfold UG.give UG.ends; split <;> rfl
theorem fail_f (u : UG) (p : Bool) (now : Int) : u.f ≤ (u.failF p now).f := by
  unfold UG.failF
  split
  · split
    · exact Nat.le_succ _
    · rw [give_f]; exact Nat.le_succ _
  · rw [give_f]; exact Nat.le_refl _
theorem take_f (u : UG) (er bo io now : Int) (same : Bool) : u.f ≤ (u.takeF er bo io now same).f := by
  unfold UG.takeF UG.createdF UG.broughtF UG.completedF UG.lookedF UG.doneF UG.ends
  simp only
  repeat' split
  all_goals first
    | exact Nat.le_refl _
    | exact fail_f { u with told := false } _ _
    | exact fail_f { u with told := false, st := 3 } _ _
    | exact fail_f { u with told := false, st := 3, gone := true } _ _
theorem wSum_mono {W f g : Nat} (h : f ≤ g) : wSum W f ≤ wSum W g := by
  unfold wSum
  have := Nat.pow_le_pow_right (show 0 < 2 by decide) h
  exact Nat.mul_le_mul_left _ (by omega)
theorem take_run {da : Option Addr} {dn dc T W n : Nat} {objs objs' : List DObj} (g : UAt w B { u with told := true }) (h : RnU K da dn dc s P T W D n objs u) (hst : u.st ≤ 4) (hP : 1 ≤ P ∧ P ≤ 32) (hT : T ≤ 8) (hW : W ≤ 1000) (hby : BytesAt w da dn dc D) {er v bo io : Int} {ra : Option Addr} {rn rc : Nat} {now : Nat} (hw : now ≤ wSum W u.f) (hn : now ≤ 10000000) (ho : (u.st = 2 ∨ u.st = 3) → er = 0 → ∃ o, objs' = [o] ∧ o.key = K ∧ o.data = D ∧ o.born = bo) (hs : u.st = 3 → er = 0 → BytesAt w ra rn rc D) :
    Calls Try.prog 23 #[.pointer (some ⟨B, 0, none⟩), .agg #[.int .i64 er, .slice ra rn rc, .int .i64 v, .int .i64 bo, .int .i64 io, .slice none 0 0, .bool false], .int .i64 (now : Int)] w fun e w' => (∃ v, e = .returned v) ∧ ∃ u', UAt w' B u' ∧ RnU K da dn dc s P T W D (n + 1) objs' u' ∧ u.f ≤ u'.f ∧ Turns B w w' := by
  obtain ⟨hk, hda, hdn, hdc, hsz, hpt, htr, hwt⟩ := h.eq
  have hff := h.ff.1
  have hx := h.nx
  have hs0 := h.st.1
  have hT2 := take_ok h hst hP.1 (er := er) (bo := bo) (io := io) (same := true) hw ho
  refine (utake_any g (er := er) (v := v) (bo := bo) (io := io) (now := (now : Int)) (d := .slice ra rn rc) (l := .slice none 0 0) (mo := false) rfl ⟨hs0, hst⟩ (show u.f ≤ 10 by omega) ⟨by omega, by omega⟩ (fun _ => by show 0 ≤ u.wt ∧ u.wt ≤ 1000; omega) (by show 0 ≤ u.nx ∧ u.nx ≤ 1000000; omega) (same := true) (fun h3 h0 => ⟨ra, rn, rc, D, D, rfl, hs h3 h0, by show BytesAt w u.da u.dn u.dc D; rw [hda, hdn, hdc]; exact hby, by simp⟩)).mono fun e w' hd => ?_
  obtain ⟨e1, hu, ht⟩ := hd
  rw [takeF_told] at hu
  exact ⟨⟨_, e1⟩, _, hu, hT2, take_f _ _ _ _ _ _, ht⟩
set_option maxRecDepth 100000 in
theorem ustate_any (g : UAt w B u) :
    Calls Try.prog 18 #[.pointer (some ⟨B, 0, none⟩)] w fun e w' => e = .returned (.int .i64 u.state) ∧ w = w' := by
  have c14 := cell_blk g (i := 14) (u := .int .i64 u.state) rfl
  clear g
  go_enter Try.func18, Try.ntmps18
  go_wp2_with fail
  go_ret
  exact ⟨rfl, rfl⟩
set_option maxRecDepth 100000 in
theorem uborn_any (g : UAt w B u) :
    Calls Try.prog 20 #[.pointer (some ⟨B, 0, none⟩)] w fun e w' => e = .returned (.int .i64 u.born) ∧ w = w' := by
  have c15 := cell_blk g (i := 15) (u := .int .i64 u.born) rfl
  clear g
  go_enter Try.func20, Try.ntmps20
  go_wp2_with fail
  go_ret
  exact ⟨rfl, rfl⟩
end Go.Proofs.Ytodoklnohedolaa
end PkUD4_2
section PkUD4_3
/- The world of a run. Written by genrun.py. -/
namespace Go.Proofs.Ytodoklnohedolaa
open Go.RowKit
set_option linter.unusedVariables false

theorem wSum_le8 {W f : Nat} (hW : W ≤ 3) (hf : f ≤ 8) : wSum W f ≤ 765 := by
  unfold wSum
  have h : 2 ^ f ≤ 2 ^ 8 := Nat.pow_le_pow_right (by decide) hf
  calc W * (2 ^ f - 1) ≤ 3 * (2 ^ 8 - 1) := Nat.mul_le_mul hW (by omega)
    _ ≤ 765 := by decide
/-- the world of a run, at each round -/
structure RunW (w0 : World) (h0 B S base : Nat) (K : ByteArray) (da : Option Addr) (dn dc s P T W : Nat) (D : List Nat) (n now : Nat) (σ : DSto) (u : UG) (wr : World) : Prop where
  up : UAt wr B u
  st : DStAt wr S base σ
  rs : RunS K D s P n σ
  ru : RnU K da dn dc s P T W D n σ.objs u
  dat : BytesAt wr da dn dc D
  clk : σ.now = (now : Int)
  wait : now ≤ wSum W u.f
  old : Below h0 w0 wr
  sep : h0 ≤ B ∧ B < base ∧ base ≤ S ∧ h0 ≤ w0.heap.size
  row : ∀ b off x, da = some ⟨b, off, x⟩ → b < base
variable {w0 wr w' : World} {h0 B S base dn dc s P T W n now : Nat} {K : ByteArray} {da : Option Addr} {D : List Nat} {σ : DSto} {u : UG}
theorem RunW.turns (h : RunW w0 h0 B S base K da dn dc s P T W D n now σ u wr) (hu : UAt w' B u) (ht : Turns B wr w') : RunW w0 h0 B S base K da dn dc s P T W D n now σ u w' :=
  ⟨hu, h.st.turns h.sep.2.2.1 h.sep.2.1 ht, h.rs, h.ru, bytes_turns h.up h.dat ht, h.clk, h.wait, ht.old h.old h.sep.1 (by have := h.old.size; have := h.sep.2.2.2; omega), h.sep, h.row⟩
theorem RunW.below (h : RunW w0 h0 B S base K da dn dc s P T W D n now σ u wr) (hb : Below wr.heap.size wr w') : RunW w0 h0 B S base K da dn dc s P T W D n now σ u w' :=
  ⟨h.up.below hb, h.st.below hb, h.rs, h.ru, h.dat.kept hb, h.clk, h.wait, h.old.trans (hb.mono (by have := h.old.size; have := h.sep.2.2.2; omega)), h.sep, h.row⟩
theorem RunW.bound (h : RunW w0 h0 B S base K da dn dc s P T W D n now σ u wr) (hP : 1 ≤ P ∧ P ≤ 32) (hT : T ≤ 8) (hW : W ≤ 3) : n + now ≤ 900 := by
  have h1 := h.ru.ff.1
  have h2 := h.wait
  have h3 := wSum_le8 hW (show u.f ≤ 8 by omega)
  have h4 := h.ru.calls
  have h5 := h.ru.st
  have h6 := h.ru.nx
  unfold callsOk at h4
  obtain ⟨a0, a1, a2, a3, a4, a5⟩ := h4
  have hcs : u.st = 0 ∨ u.st = 1 ∨ u.st = 2 ∨ u.st = 3 ∨ u.st = 4 ∨ u.st = 5 := by omega
  rcases hcs with e | e | e | e | e | e
  · have := a0 e; omega
  · have := a1 e; omega
  · have := a2 e; omega
  · have := a3 e; omega
  · have := a4 e; omega
  · have := a5 e; omega
theorem CallOk.kept {y y' : World} {st ki : Int} {ky : ByteArray} {a : Option Addr} {m c : Nat} {nn id : Int} (h : CallOk y K D s P st ki ky a m c nn id) (hb : Below y.heap.size y y') : CallOk y' K D s P st ki ky a m c nn id := by
  rcases h with g | ⟨h1, h2, h3, h4, h5⟩ | g | g | g
  · exact .inl g
  · exact .inr (.inl ⟨h1, h2, h3, h4.kept hb, h5⟩)
  · exact .inr (.inr (.inl g))
  · exact .inr (.inr (.inr (.inl g)))
  · exact .inr (.inr (.inr (.inr g)))
theorem RunW.tick (h : RunW w0 h0 B S base K da dn dc s P T W D n now σ u wr) (hst : DStAt w' S base { σ with now := σ.now + 1 }) (hg : wr.grownBy w' (some S)) (hw : now + 1 ≤ wSum W u.f) : RunW w0 h0 B S base K da dn dc s P T W D n (now + 1) { σ with now := σ.now + 1 } u w' := by
  have hbe : Below base wr w' := ⟨hg.os, hg.tape, hg.output, hg.size, fun b hb => hg.block b (by have := h.st.lt (b := S) (.inl rfl); have := h.sep.2.2.1; omega) (fun e => by have := Option.some.inj e; have := h.sep.2.2.1; omega)⟩
  have hh : h0 ≤ base := by have := h.sep; omega
  exact ⟨h.up.bel h.sep.2.1 hbe, hst, ⟨h.rs.obj, h.rs.upl, h.rs.one, h.rs.ver, h.rs.ids⟩, h.ru, bytes_bel h.dat h.row hbe, by show σ.now + 1 = ((now + 1 : Nat) : Int); rw [h.clk]; rfl, hw, h.old.trans (hbe.mono hh), h.sep, h.row⟩

/-- nothing of bytes stands in block R -/
def NoB (w : World) (R : Nat) : Prop := ∀ i x, w.cell? ⟨R, i, none⟩ ≠ some (.int .u8 x)
theorem bytes_but {y y' : World} {a : Option Addr} {m c R : Nat} {xs : List Nat} (h : BytesAt y a m c xs) (hR : NoB y R) (hs : y.heap.size ≤ y'.heap.size) (hb : ∀ b, b < y.heap.size → b ≠ R → y'.heap[b]? = y.heap[b]?) : BytesAt y' a m c xs :=
  ⟨h.len, h.cap, h.byte, h.reach, h.capm, h.nl, fun hn => by
    obtain ⟨b, off, e, hlt, hc⟩ := h.cells hn
    have hne : b ≠ R := fun e2 => by subst e2; exact hR _ _ (hc 0 hn)
    refine ⟨b, off, e, Nat.lt_of_lt_of_le hlt hs, fun i hi => ?_⟩
    rw [← hc i hi]
    unfold World.cell?
    rw [hb b hlt hne]⟩
theorem noB_rep {y : World} {R : Nat} {er v bo io : Int} {d l : Value} {mo : Bool} {t : TypeId} (g : y.heap[R]? = some (.cells #[.int .i64 er, d, .int .i64 v, .int .i64 bo, .int .i64 io, l, .bool mo] t (0, 0))) (hd : ∀ x, d ≠ .int .u8 x) (hl : ∀ x, l ≠ .int .u8 x) : NoB y R := fun i x h => by
  rw [cell_of_row y _ _ _ _ (0, 0) g] at h
  rcases i with _ | _ | _ | _ | _ | _ | _ | i
  · simp at h
  · simp at h; exact hd _ h
  · simp at h
  · simp at h
  · simp at h
  · simp at h; exact hl _ h
  · simp at h
  · simp at h
theorem noB_sto {y : World} {σ : DSto} (h : DStAt y S base σ) : NoB y S := fun i x g => by
  rw [cell_of_row y _ _ _ _ (0, 0) h.blk] at g
  rcases i with _ | _ | _ | _ | _ | i <;> simp at g
theorem CallOk.but {y y' : World} {R : Nat} {st ki : Int} {ky : ByteArray} {a : Option Addr} {m c : Nat} {nn id : Int} (h : CallOk y K D s P st ki ky a m c nn id) (hR : NoB y R) (hs : y.heap.size ≤ y'.heap.size) (hb : ∀ b, b < y.heap.size → b ≠ R → y'.heap[b]? = y.heap[b]?) : CallOk y' K D s P st ki ky a m c nn id := by
  rcases h with g | ⟨h1, h2, h3, h4, h5⟩ | g | g | g
  · exact .inl g
  · exact .inr (.inl ⟨h1, h2, h3, bytes_but h4 hR hs hb, h5⟩)
  · exact .inr (.inr (.inl g))
  · exact .inr (.inr (.inr (.inl g)))
  · exact .inr (.inr (.inr (.inr g)))
/-- behind a call: the reply in its box, at rb; c: the calls counted -/
structure JnU (w0 : World) (h0 B S base : Nat) (K : ByteArray) (da : Option Addr) (dn dc s P : Nat) (D : List Nat) (c now : Nat) (u : UG) (rb : Nat) (er v bo io : Int) (ra : Option Addr) (rn rc : Nat) (σ : DSto) (w : World) : Prop where
  rp : w.heap[rb]? = some (.cells #[.int .i64 er, .slice ra rn rc, .int .i64 v, .int .i64 bo, .int .i64 io, .slice none 0 0, .bool false] 36 (0, 0))
  up : UAt w B { u with told := true }
  st : DStAt w S base σ
  rs : RunS K D s P c σ
  dat : BytesAt w da dn dc D
  clk : σ.now = (now : Int)
  old : Below h0 w0 w
  ob : (u.st = 2 ∨ u.st = 3) → er = 0 → ∃ o, σ.objs = [o] ∧ o.key = K ∧ o.data = D ∧ o.born = bo
  got : u.st = 3 → er = 0 → BytesAt w ra rn rc D
  hrb : base ≤ rb
  sep : h0 ≤ B ∧ B < base ∧ base ≤ S ∧ h0 ≤ w0.heap.size
  row : ∀ b off x, da = some ⟨b, off, x⟩ → b < base
section
variable {c rb rn rc : Nat} {er v bo io : Int} {ra : Option Addr}
theorem JnU.more (h : JnU w0 h0 B S base K da dn dc s P D c now u rb er v bo io ra rn rc σ wr) : JnU w0 h0 B S base K da dn dc s P D (c + 1) now u rb er v bo io ra rn rc σ wr :=
  { h with rs := h.rs.up }
theorem JnU.big (h : JnU w0 h0 B S base K da dn dc s P D c now u rb er v bo io ra rn rc σ wr) : base ≤ wr.heap.size := by
  have := h.st.lt (b := S) (.inl rfl); have := h.sep; omega
theorem JnU.below (h : JnU w0 h0 B S base K da dn dc s P D c now u rb er v bo io ra rn rc σ wr) (hb : Below wr.heap.size wr w') : JnU w0 h0 B S base K da dn dc s P D c now u rb er v bo io ra rn rc σ w' :=
  ⟨(hb.block rb (Array.getElem?_eq_some_iff.1 h.rp).1).trans h.rp, h.up.below hb, h.st.below hb, h.rs, h.dat.kept hb, h.clk, h.old.trans (hb.mono (by have := h.big; have := h.sep; omega)), h.ob, fun e1 e2 => (h.got e1 e2).kept hb, h.hrb, h.sep, h.row⟩
theorem JnU.did (h : JnU w0 h0 B S base K da dn dc s P D c now u rb er v bo io ra rn rc σ wr) {σ' : DSto} (hd : Did wr w' S base K D s P c σ σ') (he : er ≠ 0) : JnU w0 h0 B S base K da dn dc s P D (c + 1) now u rb er v bo io ra rn rc σ' w' := by
  have hr := hd.frm.at h.rp (fun hd => by
    obtain ⟨cs', t', g, gt⟩ := h.st.ty hd
    rw [h.rp] at g
    simp at g
    exact rep_notD (g.2 ▸ gt))
  exact ⟨hr, h.up.bel h.sep.2.1 hd.bel, hd.st, hd.run, bytes_bel h.dat h.row hd.bel, hd.now.trans h.clk, h.old.trans (hd.bel.mono (by have := h.sep; omega)), fun _ e => absurd e he, fun _ e => absurd e he, h.hrb, h.sep, h.row⟩
theorem JnU.set (h : JnU w0 h0 B S base K da dn dc s P D c now u rb er v bo io ra rn rc σ wr) {er' v' bo' io' : Int} {ra' : Option Addr} {rn' rc' : Nat} (ho : (u.st = 2 ∨ u.st = 3) → er' = 0 → ∃ o, σ.objs = [o] ∧ o.key = K ∧ o.data = D ∧ o.born = bo') (hg : u.st = 3 → er' = 0 → BytesAt wr ra' rn' rc' D) : JnU w0 h0 B S base K da dn dc s P D c now u rb er' v' bo' io' ra' rn' rc' σ (set7 wr rb (.int .i64 er') (.slice ra' rn' rc') (.int .i64 v') (.int .i64 bo') (.int .i64 io') (.slice none 0 0) (.bool false)) := by
  have hno : NoB wr rb := noB_rep h.rp (fun x e => by cases e) (fun x e => by cases e)
  have ht : Turns rb wr (set7 wr rb (.int .i64 er') (.slice ra' rn' rc') (.int .i64 v') (.int .i64 bo') (.int .i64 io') (.slice none 0 0) (.bool false)) := by
    unfold Go.Proofs.Ytodoklnohedolaa.set7
    exact (((((((Turns.refl rb wr).set 0 _).set 1 _).set 2 _).set 3 _).set 4 _).set 5 _).set 6 _
  have hbut : ∀ {a : Option Addr} {m c : Nat} {xs : List Nat}, BytesAt wr a m c xs → BytesAt (set7 wr rb (.int .i64 er') (.slice ra' rn' rc') (.int .i64 v') (.int .i64 bo') (.int .i64 io') (.slice none 0 0) (.bool false)) a m c xs := fun g => bytes_but g hno ht.size (fun b hb hne => ht.block b hb hne)
  exact ⟨set7_at h.rp _ _ _ _ _ _ _, h.up.set7 (by have := h.sep; have := h.hrb; omega) _ _ _ _ _ _ _, h.st.frmT h.rp rep_notD ⟨ht.os, ht.tape, ht.output, ht.size, fun k hk hne => ht.block k hk hne⟩, h.rs, hbut h.dat, h.clk, h.old.trans ⟨ht.os, ht.tape, ht.output, ht.size, fun k hk => ht.block k (by have := h.big; have := h.sep; omega) (by have := h.hrb; have := h.sep; omega)⟩, ho, fun e1 e2 => hbut (hg e1 e2), h.hrb, h.sep, h.row⟩
theorem JnU.drop (h : JnU w0 h0 B S base K da dn dc s P D c now u rb er v bo io ra rn rc σ wr) (he : er ≠ 0) : JnU w0 h0 B S base K da dn dc s P D c now u rb er v bo io ra rn rc { σ with ua := none, uc := 0, ups := [] } (wr.setCell ⟨S, 1, none⟩ (.slice none 0 0)) := by
  have ht : Turns S wr (wr.setCell ⟨S, 1, none⟩ (.slice none 0 0)) := (Turns.refl S wr).set 1 _
  have hrS : rb ≠ S := fun e => by
    have := h.st.blk
    rw [← e, h.rp] at this
    simp at this
  exact ⟨(ht.block rb (Array.getElem?_eq_some_iff.1 h.rp).1 hrS).trans h.rp, h.up.setNew (by have := h.sep; omega) 1 _, h.st.noUps, h.rs.noUps, bytes_but h.dat (noB_sto h.st) ht.size (fun b hb hne => ht.block b hb hne), h.clk, h.old.trans ⟨ht.os, ht.tape, ht.output, ht.size, fun k hk => ht.block k (by have := h.big; have := h.sep; omega) (by have := h.sep; omega)⟩, fun _ e => absurd e he, fun _ e => absurd e he, h.hrb, h.sep, h.row⟩
theorem JnU.end9 (h : JnU w0 h0 B S base K da dn dc s P D c now u rb er v bo io ra rn rc σ wr) {u' : UG} (hu : UAt w' B u') (hr : RnU K da dn dc s P T W D c σ.objs u') (hw : now ≤ wSum W u'.f) (ht : Turns B wr w') : RunW w0 h0 B S base K da dn dc s P T W D c now σ u' w' :=
  ⟨hu, h.st.turns h.sep.2.2.1 h.sep.2.1 ht, h.rs, hr, bytes_turns h.up h.dat ht, h.clk, hw, ht.old h.old h.sep.1 (by have := h.old.size; have := h.sep.2.2.2; omega), h.sep, h.row⟩
end
end Go.Proofs.Ytodoklnohedolaa
end PkUD4_3
section PkUD4_4
/- run, of an upload over the document's store. Written by genrun.py. -/
namespace Go.Proofs.Ytodoklnohedolaa
open Go.RowKit
set_option linter.unusedVariables false
set_option linter.unusedSimpArgs false

variable {w0 wr w' : World} {h0 B S base dn dc s P T W n now : Nat} {K : ByteArray} {da : Option Addr} {D : List Nat} {σ : DSto} {u : UG}
set_option maxRecDepth 100000 in
set_option maxHeartbeats 8000000 in
theorem run_walk {fa : Option Addr} {fn fc : Nat} (h : RunW w0 h0 B S base K da dn dc s P T W D 0 0 σ u wr) (hP : 1 ≤ P ∧ P ≤ 32) (hT : T ≤ 8) (hW : W ≤ 3) (hs : s ≤ 262144) (hpd : (P - 1) * s ≤ dn) (hl : dn ≤ P * s) (hfn : fn ≤ 300) (hfat : ∀ w', Below h0 w0 w' → ∀ i, i < fn → ∃ b off f, fa = some ⟨b, off, none⟩ ∧ w'.cell? ⟨b, off + i, none⟩ = some (.int .i64 f)) :
    Calls Try.prog 16 #[.pointer (some ⟨B, 0, none⟩), .pointer (some ⟨S, 0, none⟩), .slice fa fn fc] wr fun e w' => ∃ n now σ u, e = .returned (.int .i64 ((n : Nat) : Int)) ∧ u.st = 5 ∧ RunW w0 h0 B S base K da dn dc s P T W D n now σ u w' := by
  have HRA := Lib.hid h
  have HFA := Lib.hid hfat
  have HPD := Lib.hid (And.intro hpd hl)
  clear h hfat hpd hl
  go_enter Try.func16, Try.ntmps16
  go_wp2_with fail
  go_loopw [7, 12] (fun s7 s12 wr => ∃ (k n now : Nat) (σ : DSto) (u : UG), k ≤ 2000 ∧ s12 = .int .i64 (k : Int) ∧ s7 = .int .i64 (n : Int) ∧ k = n + now ∧ n + now ≤ 900 ∧ Hid (RunW w0 h0 B S base K da dn dc s P T W D n now σ u wr)) (fun _ s12 _ => 2000 - (intOf s12).toNat)
  case atStart => exact ⟨0, 0, 0, σ, u, by omega, rfl, rfl, rfl, by omega, HRA⟩
  case round =>
    clear HRA
    obtain ⟨k, n, now, σ, u, hk, rfl, rfl, hkn, hb9, HR⟩ := hrel
    rename World => wr
    have zs : (k : Int) < 2000 := by omega
    have HKN := Lib.hid hkn
    clear hkn
    have wS : IntKind.i64.wrap ((k : Int) + 1) = (k : Int) + 1 := IntWalk.i64_in _ (by omega)
    have c4 := cell_blk HR.out.st.blk (i := 4) (u := .int .i64 σ.now) rfl
    rw [HR.out.clk] at c4
    by_cases h5 : u.st = 5
    · have HN := Lib.hid (unext_no (now := (now : Int)) HR.out.up HR.out.ru.told (.inl h5))
      have hs0 : (u.state == 0) = false := by have := HR.out.ru.over.1 h5; rw [beq_eq_false_iff_ne]; omega
      have H5 := Lib.hid h5
      clear h5
      go_wp2_with fail
      refine HN.out.mono ?_
      rintro e w6 ⟨rfl, hg6, ht6⟩
      have HR6 := Lib.hid (HR.out.turns hg6 ht6)
      have hal : Below w6.heap.size w6 (w6.alloc (.cells #[.int .i64 0, .string { data := #[] }, .slice none 0 0, .int .i64 0, .int .i64 0, .int .i64 0, .int .i64 0] 30)) := (Below.refl _ _).alloc (Nat.le_refl _) _
      have HR7 := Lib.hid (HR6.out.below hal)
      have HSA := Lib.hid (ustate_any HR7.out.up)
      clear hg6 ht6 hal
      go_wp2_with fail
      refine HSA.out.mono ?_
      rintro e w7 ⟨rfl, rfl⟩
      go_wp2_with fail
      go_ret
      exact ⟨n, now, σ, u, rfl, H5.out, HR7.out⟩
    · have hst4 : u.st ≤ 4 := by have := HR.out.ru.st; omega
      have h00 : u.state = 0 := HR.out.ru.over.2 h5
      by_cases hnow : (now : Int) < u.rd
      · have HN := Lib.hid (unext_no (now := (now : Int)) HR.out.up HR.out.ru.told (.inr hnow))
        have hs0 : (u.state == 0) = true := by simp [h00]
        have HNW := Lib.hid (show now + 1 ≤ wSum W u.f from by have := HR.out.ru.rdy; omega)
        clear h5 hnow h00
        go_wp2_with fail
        refine HN.out.mono ?_
        rintro e w6 ⟨rfl, hg6, ht6⟩
        have HR6 := Lib.hid (HR.out.turns hg6 ht6)
        have hal : Below w6.heap.size w6 (w6.alloc (.cells #[.int .i64 0, .string { data := #[] }, .slice none 0 0, .int .i64 0, .int .i64 0, .int .i64 0, .int .i64 0] 30)) := (Below.refl _ _).alloc (Nat.le_refl _) _
        have HR7 := Lib.hid (HR6.out.below hal)
        have HSA := Lib.hid (ustate_any HR7.out.up)
        have HTI := Lib.hid (dtick_any HR7.out.st (by rw [HR7.out.clk]; omega) 1)
        clear hg6 ht6 hal
        go_wp2_with fail
        refine HSA.out.mono ?_
        rintro e w7 ⟨rfl, rfl⟩
        go_wp2_with fail
        refine HTI.out.mono ?_
        rintro e w8 ⟨rfl, hst8, hg8⟩
        have hz : dtickE σ.now 1 = 0 := by rw [HR7.out.clk]; unfold dtickE; rw [if_neg (by omega), if_neg (by omega), if_neg (by omega)]
        rw [if_pos hz] at hst8
        have HR8 := Lib.hid (show RunW w0 h0 B S base K da dn dc s P T W D n (now + 1) { σ with now := σ.now + 1 } u w8 from HR7.out.tick hst8 hg8 HNW.out)
        have hb99 := HR8.out.bound hP hT hW
        clear hst8 hg8
        go_wp2_with fail
        go_roundw
        case rel => exact ⟨k + 1, n, now + 1, _, u, by omega, by go_num, rfl, by have := HKN.out; omega, by omega, HR8⟩
        case measure => simp [intOf]; omega
      · have HN := Lib.hid (next_run HR.out.up HR.out.ru hst4 (now := (now : Int)) (by omega) HR.out.dat hs hP.2 HPD.out.1 HPD.out.2)
        have wn : IntKind.i64.wrap ((n : Int) + 1) = (n : Int) + 1 := IntWalk.i64_in _ (by omega)
        have H4 := Lib.hid hst4
        clear h5 hnow h00 hst4
        go_wp2_with fail
        refine HN.out.mono ?_
        rintro e w6 ⟨ki, ky, a, m, cc, nn, id, rfl, hcall, hu6, ht6⟩
        obtain ⟨cb, hcb⟩ : ∃ cb, cb = w6.heap.size := ⟨_, rfl⟩
        obtain ⟨w7, hw7⟩ : ∃ w7, w7 = w6.alloc (.cells #[.int .i64 ki, .string ky, .slice a m cc, .int .i64 0, .int .i64 0, .int .i64 nn, .int .i64 id] 30) := ⟨_, rfl⟩
        have hb7 : Below w6.heap.size w6 w7 := by rw [hw7]; exact (Below.refl _ _).alloc (Nat.le_refl _) _
        have hc7 : w7.heap[cb]? = some (.cells #[.int .i64 ki, .string ky, .slice a m cc, .int .i64 0, .int .i64 0, .int .i64 nn, .int .i64 id] 30 (0, 0)) := by rw [hw7, hcb]; exact heap_alloc_newG w6 _
        have HU7 := Lib.hid (hu6.below hb7)
        have HST7 := Lib.hid ((HR.out.st.turns HR.out.sep.2.2.1 HR.out.sep.2.1 ht6).below hb7)
        have HDA7 := Lib.hid ((bytes_turns HR.out.up HR.out.dat ht6).kept hb7)
        have hol6 := ht6.old HR.out.old HR.out.sep.1 (by have := HR.out.old.size; have := HR.out.sep.2.2.2; omega)
        have HOL7 := Lib.hid (hol6.trans (hb7.mono (by have := hol6.size; have := HR.out.sep.2.2.2; omega)))
        have HCA7 := Lib.hid (hcall.kept hb7)
        have HC7 := Lib.hid hc7
        have HW7 := Lib.hid hw7
        have HCB := Lib.hid hcb
        obtain ⟨rb, hrb⟩ : ∃ rb, rb = w7.heap.size := ⟨_, rfl⟩
        obtain ⟨w8, hw8⟩ : ∃ w8, w8 = w7.alloc (.cells #[.int .i64 10, .slice none 0 0, .int .i64 0, .int .i64 0, .int .i64 0, .slice none 0 0, .bool false] 36) := ⟨_, rfl⟩
        have hb8 : Below w7.heap.size w7 w8 := by rw [hw8]; exact (Below.refl _ _).alloc (Nat.le_refl _) _
        have hr8 : w8.heap[rb]? = some (.cells #[.int .i64 10, .slice none 0 0, .int .i64 0, .int .i64 0, .int .i64 0, .slice none 0 0, .bool false] 36 (0, 0)) := by rw [hw8, hrb]; exact heap_alloc_newG w7 _
        have HJ0 := Lib.hid (show JnU w0 h0 B S base K da dn dc s P D n now u rb 10 0 0 0 none 0 0 σ w8 from ⟨hr8, HU7.out.below hb8, HST7.out.below hb8, HR.out.rs, HDA7.out.kept hb8, HR.out.clk, HOL7.out.trans (hb8.mono (by have := HOL7.out.size; have := HR.out.sep.2.2.2; omega)), (fun _ e => by cases e), (fun _ e => by cases e), (by have h1 := HST7.out.lt (b := S) (.inl rfl); have h2 := HR.out.sep.2.2.1; omega), HR.out.sep, HR.out.row⟩)
        have HCA8 := Lib.hid (HCA7.out.kept hb8)
        have HC8 := Lib.hid ((hb8.block cb (Array.getElem?_eq_some_iff.1 hc7).1).trans hc7)
        have HCS := Lib.hid (show cb ≠ S from fun e => by
          have h1 := HST7.out.blk
          have h2 := HC7.out
          rw [e, h1] at h2
          simp at h2)
        have HW8 := Lib.hid hw8
        have HRB := Lib.hid hrb
        clear hcall hu6 ht6 hw7 hcb hb7 hc7 hol6 hrb hw8 hb8 hr8
        go_upto_region 9 with fail
        rw [← HW7.out, ← HCB.out]
        go_upto_if 33 with fail
        go_cut [10, 12] from 12 to 67 (fun s10 s12 wc => s12 = .int .i64 (k : Int) ∧ w7 = wc ∧ ∃ f : Int, s10 = .int .i64 f)
        case first =>
          by_cases hnf : n < fn
          · obtain ⟨b9, o9, f9, rfl, hf9⟩ := HFA.out w7 HOL7.out n hnf
            have zf : (n : Int) < (fn : Int) := by omega
            go_wp2_with fail
            go_meet
            case rel => exact ⟨rfl, rfl, _, rfl⟩
          · have zf : ¬ (n : Int) < (fn : Int) := by omega
            go_wp2_with fail
            go_meet
            case rel => exact ⟨rfl, rfl, _, rfl⟩
        case rest =>
          obtain ⟨rfl, hwc, f, rfl⟩ := hcut
          rw [← hwc]
          clear hwc
          go_upto_region 13 with fail
          rw [← HW8.out, ← HRB.out]
          go_upto_block 2 with fail
          go_cut [12] from 12 to 67 (fun s12 wc => s12 = .int .i64 (k : Int) ∧ ∃ (er v bo io : Int) (ra : Option Addr) (rn rc : Nat) (σ9 : DSto), Hid (JnU w0 h0 B S base K da dn dc s P D (n + 1) now u rb er v bo io ra rn rc σ9 wc))
          case first =>
            have HDO : Hid (∀ w9 σ9, JnU w0 h0 B S base K da dn dc s P D n now u rb 10 0 0 0 none 0 0 σ9 w9 → CallOk w9 K D s P u.st ki ky a m cc nn id → Calls Try.prog 21 #[.pointer (some ⟨S, 0, none⟩), .agg #[.int .i64 ki, .string ky, .slice a m cc, .int .i64 0, .int .i64 0, .int .i64 nn, .int .i64 id]] w9 (DidC w9 S base K D s P n σ9 u.st)) := Lib.hid (fun w9 σ9 hj hc => did_any hj.st hj.sep.2.2.1 hj.big hj.rs (by omega) hP.2 (by rw [HR.out.dat.len]; exact HPD.out.2) hc)
            by_cases h1 : f = 1
            · subst h1
              go_wp2_with fail
              go_meet
              case rel => exact ⟨rfl, 10, 0, 0, 0, none, 0, 0, σ, Lib.hid HJ0.out.more⟩
            have z1 : (f == 1) = false := by simpa using h1
            by_cases h2 : f = 2
            · subst h2
              have HD8 := Lib.hid (HDO.out w8 σ HJ0.out HCA8.out)
              have d0 := cell_blk HC8.out (i := 0) (u := .int .i64 ki) rfl
              have d1 := cell_blk HC8.out (i := 1) (u := .string ky) rfl
              have d2 := cell_blk HC8.out (i := 2) (u := .slice a m cc) rfl
              have d3 := cell_blk HC8.out (i := 3) (u := .int .i64 0) rfl
              have d4 := cell_blk HC8.out (i := 4) (u := .int .i64 0) rfl
              have d5 := cell_blk HC8.out (i := 5) (u := .int .i64 nn) rfl
              have d6 := cell_blk HC8.out (i := 6) (u := .int .i64 id) rfl
              clear z1 h1
              go_wp2_with fail
              refine HD8.out.mono ?_
              rintro e w9 ⟨er, v, bo, io, ra, rn, rc, σ9, rfl, hdid, hob, hby9⟩
              have HJ9 := Lib.hid (HJ0.out.did hdid (by decide))
              clear hdid hob hby9 d0 d1 d2 d3 d4 d5 d6
              go_wp2_with fail
              go_meet
              case rel => exact ⟨rfl, 10, 0, 0, 0, none, 0, 0, σ9, HJ9⟩
            have z2 : (f == 2) = false := by simpa using h2
            by_cases h3 : f = 3
            · subst h3
              clear z1 z2 h1 h2
              have q0 := cell_blk HJ0.out.rp (i := 0) (u := .int .i64 10) rfl
              have p0 := fro_blk HJ0.out.rp 0
              have q1 := cell_blk HJ0.out.rp (i := 1) (u := .slice none 0 0) rfl
              have p1 := fro_blk HJ0.out.rp 1
              have q2 := cell_blk HJ0.out.rp (i := 2) (u := .int .i64 0) rfl
              have p2 := fro_blk HJ0.out.rp 2
              have q3 := cell_blk HJ0.out.rp (i := 3) (u := .int .i64 0) rfl
              have p3 := fro_blk HJ0.out.rp 3
              have q4 := cell_blk HJ0.out.rp (i := 4) (u := .int .i64 0) rfl
              have p4 := fro_blk HJ0.out.rp 4
              have q5 := cell_blk HJ0.out.rp (i := 5) (u := .slice none 0 0) rfl
              have p5 := fro_blk HJ0.out.rp 5
              have q6 := cell_blk HJ0.out.rp (i := 6) (u := .bool false) rfl
              have p6 := fro_blk HJ0.out.rp 6
              go_wp2_with fail
              go_meet
              case rel => exact ⟨rfl, 9, 0, 0, 0, none, 0, 0, σ, Lib.hid (HJ0.out.more.set (fun _ e => by cases e) (fun _ e => by cases e))⟩
            have z3 : (f == 3) = false := by simpa using h3
            by_cases h4 : f = 4
            · subst h4
              clear z1 z2 z3 h1 h2 h3
              have s1 := cell_blk HJ0.out.st.blk (i := 1) (u := .slice σ.ua σ.ups.length σ.uc) rfl
              have t1 := fro_blk HJ0.out.st.blk 1
              obtain ⟨y8, hy8⟩ : ∃ y8, y8 = w8.setCell ⟨S, 1, none⟩ (.slice none 0 0) := ⟨_, rfl⟩
              have HJ8 := Lib.hid (show JnU w0 h0 B S base K da dn dc s P D n now u rb 10 0 0 0 none 0 0 { σ with ua := none, uc := 0, ups := [] } y8 from by rw [hy8]; exact HJ0.out.drop (by decide))
              have HT8 := Lib.hid (show Turns S w8 y8 from by rw [hy8]; exact (Turns.refl S w8).set 1 _)
              have HY8 := Lib.hid hy8
              have HC9 := Lib.hid ((HT8.out.block cb (Array.getElem?_eq_some_iff.1 HC8.out).1 HCS.out).trans HC8.out)
              have HD8 := Lib.hid (HDO.out y8 _ HJ8.out (HCA8.out.but (noB_sto HJ0.out.st) HT8.out.size (fun b hb hne => HT8.out.block b hb hne)))
              clear hy8
              go_upto_region 16 with fail
              rw [← HY8.out]
              clear s1 t1
              have d0 := cell_blk HC9.out (i := 0) (u := .int .i64 ki) rfl
              have d1 := cell_blk HC9.out (i := 1) (u := .string ky) rfl
              have d2 := cell_blk HC9.out (i := 2) (u := .slice a m cc) rfl
              have d3 := cell_blk HC9.out (i := 3) (u := .int .i64 0) rfl
              have d4 := cell_blk HC9.out (i := 4) (u := .int .i64 0) rfl
              have d5 := cell_blk HC9.out (i := 5) (u := .int .i64 nn) rfl
              have d6 := cell_blk HC9.out (i := 6) (u := .int .i64 id) rfl
              go_wp2_with fail
              refine HD8.out.mono ?_
              rintro e w9 ⟨er, v, bo, io, ra, rn, rc, σ9, rfl, hdid, hob, hby9⟩
              have HJ9 := Lib.hid (HJ8.out.did hdid (by decide))
              have HOB := Lib.hid hob
              have HBY9 := Lib.hid hby9
              unfold rep
              clear hdid hob hby9 d0 d1 d2 d3 d4 d5 d6
              have q0 := cell_blk HJ9.out.rp (i := 0) (u := .int .i64 10) rfl
              have p0 := fro_blk HJ9.out.rp 0
              have q1 := cell_blk HJ9.out.rp (i := 1) (u := .slice none 0 0) rfl
              have p1 := fro_blk HJ9.out.rp 1
              have q2 := cell_blk HJ9.out.rp (i := 2) (u := .int .i64 0) rfl
              have p2 := fro_blk HJ9.out.rp 2
              have q3 := cell_blk HJ9.out.rp (i := 3) (u := .int .i64 0) rfl
              have p3 := fro_blk HJ9.out.rp 3
              have q4 := cell_blk HJ9.out.rp (i := 4) (u := .int .i64 0) rfl
              have p4 := fro_blk HJ9.out.rp 4
              have q5 := cell_blk HJ9.out.rp (i := 5) (u := .slice none 0 0) rfl
              have p5 := fro_blk HJ9.out.rp 5
              have q6 := cell_blk HJ9.out.rp (i := 6) (u := .bool false) rfl
              have p6 := fro_blk HJ9.out.rp 6
              go_wp2_with fail
              go_meet
              case rel => exact ⟨rfl, er, v, bo, io, ra, rn, rc, σ9, Lib.hid (HJ9.out.set HOB.out HBY9.out)⟩
            have z4 : (f == 4) = false := by simpa using h4
            have HD8 := Lib.hid (HDO.out w8 σ HJ0.out HCA8.out)
            have HJ8 := HJ0
            clear h1 h2 h3 h4
            go_upto_region 16 with fail
            have d0 := cell_blk HC8.out (i := 0) (u := .int .i64 ki) rfl
            have d1 := cell_blk HC8.out (i := 1) (u := .string ky) rfl
            have d2 := cell_blk HC8.out (i := 2) (u := .slice a m cc) rfl
            have d3 := cell_blk HC8.out (i := 3) (u := .int .i64 0) rfl
            have d4 := cell_blk HC8.out (i := 4) (u := .int .i64 0) rfl
            have d5 := cell_blk HC8.out (i := 5) (u := .int .i64 nn) rfl
            have d6 := cell_blk HC8.out (i := 6) (u := .int .i64 id) rfl
            go_wp2_with fail
            refine HD8.out.mono ?_
            rintro e w9 ⟨er, v, bo, io, ra, rn, rc, σ9, rfl, hdid, hob, hby9⟩
            have HJ9 := Lib.hid (HJ8.out.did hdid (by decide))
            have HOB := Lib.hid hob
            have HBY9 := Lib.hid hby9
            unfold rep
            clear hdid hob hby9 d0 d1 d2 d3 d4 d5 d6
            have q0 := cell_blk HJ9.out.rp (i := 0) (u := .int .i64 10) rfl
            have p0 := fro_blk HJ9.out.rp 0
            have q1 := cell_blk HJ9.out.rp (i := 1) (u := .slice none 0 0) rfl
            have p1 := fro_blk HJ9.out.rp 1
            have q2 := cell_blk HJ9.out.rp (i := 2) (u := .int .i64 0) rfl
            have p2 := fro_blk HJ9.out.rp 2
            have q3 := cell_blk HJ9.out.rp (i := 3) (u := .int .i64 0) rfl
            have p3 := fro_blk HJ9.out.rp 3
            have q4 := cell_blk HJ9.out.rp (i := 4) (u := .int .i64 0) rfl
            have p4 := fro_blk HJ9.out.rp 4
            have q5 := cell_blk HJ9.out.rp (i := 5) (u := .slice none 0 0) rfl
            have p5 := fro_blk HJ9.out.rp 5
            have q6 := cell_blk HJ9.out.rp (i := 6) (u := .bool false) rfl
            have p6 := fro_blk HJ9.out.rp 6
            go_wp2_with fail
            go_meet
            case rel => exact ⟨rfl, er, v, bo, io, ra, rn, rc, σ9, Lib.hid (HJ9.out.set HOB.out HBY9.out)⟩
          case rest =>
            obtain ⟨rfl, er, v, bo, io, ra, rn, rc, σ9, HJ⟩ := hcut
            clear HJ0 HCA8 HC8 HCS HW8 HRB HU7 HST7 HDA7 HOL7 HCA7 HC7 HW7 HCB
            obtain ⟨JQ, hJQ⟩ : ∃ JQ : World → Prop, JQ = fun y => JnU w0 h0 B S base K da dn dc s P D (n + 1) now u rb er v bo io ra rn rc σ9 y := ⟨_, rfl⟩
            obtain ⟨RQ, hRQ⟩ : ∃ RQ : World → Prop, RQ = fun y => ∃ u', RunW w0 h0 B S base K da dn dc s P T W D (n + 1) now σ9 u' y := ⟨_, rfl⟩
            have HTK : Hid (∀ y, JQ y → Calls Try.prog 23 #[.pointer (some ⟨B, 0, none⟩), .agg #[.int .i64 er, .slice ra rn rc, .int .i64 v, .int .i64 bo, .int .i64 io, .slice none 0 0, .bool false], .int .i64 (now : Int)] y fun e y' => (∃ v, e = .returned v) ∧ RQ y') := Lib.hid (fun y hj => by
              rw [hJQ] at hj
              rw [hRQ]
              exact (take_run (W := W) (T := T) hj.up HR.out.ru H4.out hP hT (by omega) hj.dat (v := v) HR.out.wait (by omega) hj.ob hj.got).mono fun e y' hd => ⟨hd.1, by
                obtain ⟨_, u', hu, hr, hf, ht⟩ := hd
                exact ⟨u', hj.end9 hu hr (Nat.le_trans HR.out.wait (wSum_mono hf)) ht⟩⟩)
            have HRP : Hid (∀ y, JQ y → y.heap[rb]? = some (.cells #[.int .i64 er, .slice ra rn rc, .int .i64 v, .int .i64 bo, .int .i64 io, .slice none 0 0, .bool false] 36 (0, 0)) ∧ y.cell? ⟨S, 4, none⟩ = some (.int .i64 (now : Int))) := Lib.hid (fun y hj => by
              rw [hJQ] at hj
              refine ⟨hj.rp, ?_⟩
              have c4 := cell_blk hj.st.blk (i := 4) (u := .int .i64 σ9.now) rfl
              rw [hj.clk] at c4
              exact c4)
            have HJI : Hid (JQ wc.drew) := Lib.hid (by rw [hJQ]; exact HJ.out.below ((Below.refl _ _).drew))
            have HRQ := Lib.hid hRQ
            clear HJ hJQ hRQ
            go_upto_region 22 with fail
            refine wp_region_chain (by kernel_rfl) (by kernel_rfl) (by kernel_rfl) [6] false (by kernel_rfl) (fun k _ y => match k with
                | 0 => JQ y
                | _ => RQ y) (fun y => JQ y) (fun j_9 => match j_9 with | 0 => some (.pointer (some ⟨B, 0, none⟩)) | 1 => some (.agg #[.int .i64 er, .slice ra rn rc, .int .i64 v, .int .i64 bo, .int .i64 io, .slice none 0 0, .bool false]) | 2 => some (.pointer (some ⟨S, 0, none⟩)) | 3 => some (.pointer (some ⟨S, 0, none⟩)) | 4 => some (.pointer (some ⟨S, 4, none⟩)) | 5 => some (.int .i64 (now : Int)) | 6 => none | _ => none) (by rfl) (fun _ => HJI.out) (fun k u y hk9 _ hs => by
                have hk : k < 1 := hk9 rfl
                clear hk9
                match k, hk, hs with
                | 0, _, hs => exact hs) ?_ ?_ ?_
            · intro i9 o ho hc9 V w9 K hR9 hdep hK
              have HR9 := Lib.hid hR9
              simp only [fill, slotOf, List.size_toArray, List.length_cons, List.length_nil, Nat.reduceAdd, List.getElem?_toArray, List.getElem?_cons_zero, List.getElem?_cons_succ, Option.bind_some, Act.put, List.setIfInBounds_toArray, List.set_cons_zero, List.set_cons_succ] at hK ⊢
              have hin9 : i9 < 7 := (Array.getElem?_eq_some_iff.1 ho).1
              have hcs : i9 = 0 ∨ i9 = 1 ∨ i9 = 2 ∨ i9 = 3 ∨ i9 = 4 ∨ i9 = 5 ∨ i9 = 6 := by omega
              clear hin9
              rcases hcs with rfl | rfl | rfl | rfl | rfl | rfl | rfl
              · obtain rfl := Option.some.inj ho.symm
                clear hdep ho hR9 hc9
                try simp only [fill, slotOf, List.size_toArray, List.length_cons, List.length_nil, Nat.reduceAdd, List.getElem?_toArray, List.getElem?_cons_zero, List.getElem?_cons_succ, Option.bind_some, Act.put, List.setIfInBounds_toArray, List.set_cons_zero, List.set_cons_succ] at hK ⊢
                go_simp
                exact hK (.pointer (some ⟨B, 0, none⟩)) rfl _ rfl
              · obtain rfl := Option.some.inj ho.symm
                have u0 := cell_blk (HRP.out _ HR9.out).1 (i := 0) (u := .int .i64 er) rfl
                have u1 := cell_blk (HRP.out _ HR9.out).1 (i := 1) (u := .slice ra rn rc) rfl
                have u2 := cell_blk (HRP.out _ HR9.out).1 (i := 2) (u := .int .i64 v) rfl
                have u3 := cell_blk (HRP.out _ HR9.out).1 (i := 3) (u := .int .i64 bo) rfl
                have u4 := cell_blk (HRP.out _ HR9.out).1 (i := 4) (u := .int .i64 io) rfl
                have u5 := cell_blk (HRP.out _ HR9.out).1 (i := 5) (u := .slice none 0 0) rfl
                have u6 := cell_blk (HRP.out _ HR9.out).1 (i := 6) (u := .bool false) rfl
                clear hdep ho hR9 hc9
                try simp only [fill, slotOf, List.size_toArray, List.length_cons, List.length_nil, Nat.reduceAdd, List.getElem?_toArray, List.getElem?_cons_zero, List.getElem?_cons_succ, Option.bind_some, Act.put, List.setIfInBounds_toArray, List.set_cons_zero, List.set_cons_succ] at hK ⊢
                go_simp
                exact hK (.agg #[.int .i64 er, .slice ra rn rc, .int .i64 v, .int .i64 bo, .int .i64 io, .slice none 0 0, .bool false]) rfl _ rfl
              · obtain rfl := Option.some.inj ho.symm
                clear hdep ho hR9 hc9
                try simp only [fill, slotOf, List.size_toArray, List.length_cons, List.length_nil, Nat.reduceAdd, List.getElem?_toArray, List.getElem?_cons_zero, List.getElem?_cons_succ, Option.bind_some, Act.put, List.setIfInBounds_toArray, List.set_cons_zero, List.set_cons_succ] at hK ⊢
                go_simp
                exact hK (.pointer (some ⟨S, 0, none⟩)) rfl _ rfl
              · obtain rfl := Option.some.inj ho.symm
                have d2 : V 2 = .pointer (some ⟨S, 0, none⟩) := hdep ⟨2, .data⟩ (by simp) rfl _ rfl
                clear hdep ho hR9 hc9
                try simp only [fill, slotOf, List.size_toArray, List.length_cons, List.length_nil, Nat.reduceAdd, List.getElem?_toArray, List.getElem?_cons_zero, List.getElem?_cons_succ, Option.bind_some, Act.put, List.setIfInBounds_toArray, List.set_cons_zero, List.set_cons_succ] at hK ⊢
                rw [d2] at hK ⊢
                go_simp
                exact hK (.pointer (some ⟨S, 0, none⟩)) rfl _ rfl
              · obtain rfl := Option.some.inj ho.symm
                have d3 : V 3 = .pointer (some ⟨S, 0, none⟩) := hdep ⟨3, .data⟩ (by simp) rfl _ rfl
                clear hdep ho hR9 hc9
                try simp only [fill, slotOf, List.size_toArray, List.length_cons, List.length_nil, Nat.reduceAdd, List.getElem?_toArray, List.getElem?_cons_zero, List.getElem?_cons_succ, Option.bind_some, Act.put, List.setIfInBounds_toArray, List.set_cons_zero, List.set_cons_succ] at hK ⊢
                rw [d3] at hK ⊢
                go_simp
                exact hK (.pointer (some ⟨S, 4, none⟩)) rfl _ rfl
              · obtain rfl := Option.some.inj ho.symm
                have d4 : V 4 = .pointer (some ⟨S, 4, none⟩) := hdep ⟨4, .data⟩ (by simp) rfl _ rfl
                have u4 := (HRP.out _ HR9.out).2
                clear hdep ho hR9 hc9
                try simp only [fill, slotOf, List.size_toArray, List.length_cons, List.length_nil, Nat.reduceAdd, List.getElem?_toArray, List.getElem?_cons_zero, List.getElem?_cons_succ, Option.bind_some, Act.put, List.setIfInBounds_toArray, List.set_cons_zero, List.set_cons_succ] at hK ⊢
                rw [d4] at hK ⊢
                go_simp
                exact hK (.int .i64 (now : Int)) rfl _ rfl
              · cases hc9
            · intro i9 j9 o he9 ho V w9 K hS9 hdep hK
              simp only [fill, slotOf, List.size_toArray, List.length_cons, List.length_nil, Nat.reduceAdd, List.getElem?_toArray, List.getElem?_cons_zero, List.getElem?_cons_succ, Option.bind_some, Act.put, List.setIfInBounds_toArray, List.set_cons_zero, List.set_cons_succ] at hK ⊢
              have hin9 : i9 < 1 := (List.getElem?_eq_some_iff.1 he9).1
              have hcs : i9 = 0 := by omega
              clear hin9
              rcases hcs with rfl
              · obtain rfl := Option.some.inj he9.symm
                obtain rfl := Option.some.inj ho.symm
                have d0 : V 0 = .pointer (some ⟨B, 0, none⟩) := hdep ⟨0, .data⟩ (by simp) rfl _ rfl
                have d1 : V 1 = .agg #[.int .i64 er, .slice ra rn rc, .int .i64 v, .int .i64 bo, .int .i64 io, .slice none 0 0, .bool false] := hdep ⟨1, .data⟩ (by simp) rfl _ rfl
                have d5 : V 5 = .int .i64 (now : Int) := hdep ⟨5, .data⟩ (by simp) rfl _ rfl
                have hs : JQ w9 := hS9
                have HTC := Lib.hid (HTK.out w9 hs)
                clear hdep ho he9 hS9 hs
                try simp only [fill, slotOf, List.size_toArray, List.length_cons, List.length_nil, Nat.reduceAdd, List.getElem?_toArray, List.getElem?_cons_zero, List.getElem?_cons_succ, Option.bind_some, Act.put, List.setIfInBounds_toArray, List.set_cons_zero, List.set_cons_succ] at hK ⊢
                rw [d0, d1, d5] at hK ⊢
                go_simp
                refine HTC.out.mono ?_
                rintro e w8 ⟨⟨v9, rfl⟩, hx⟩
                exact hK _ w8 hx (fun y h => by cases h) _ rfl
            · intro V wN hS9 hv9
              have hr9 := (show RQ wN from hS9)
              rw [HRQ.out] at hr9
              obtain ⟨u', hr⟩ := hr9
              have HRN := Lib.hid hr
              have hb99 := HRN.out.bound hP hT hW
              clear hS9 hv9 hr HTK HJI HRP HRQ
              simp only [fill, slotOf, List.size_toArray, List.length_cons, List.length_nil, Nat.reduceAdd, List.getElem?_toArray, List.getElem?_cons_zero, List.getElem?_cons_succ, Option.bind_some, Act.put, List.setIfInBounds_toArray, List.set_cons_zero, List.set_cons_succ]
              go_wp2_with fail
              go_roundw
              case rel => exact ⟨k + 1, n + 1, now, σ9, u', by omega, by go_num, by go_num, by have := HKN.out; omega, by omega, HRN⟩
              case measure => simp [intOf]; omega
end Go.Proofs.Ytodoklnohedolaa
end PkUD4_4
section PkUD4_5
/- An upload whose replies never come: its functions, walked. -/
namespace Go.Proofs.Ytodoklnohedolaa
open Go.RowKit
set_option linter.unusedVariables false

def upA (ky : ByteArray) (da : Option Addr) (dn dc : Nat) (sz pt tr wt f rd : Int) (told : Bool) (st state : Int) : Array Value :=
  #[.string ky, .slice da dn dc, .int .i64 sz, .int .i64 pt, .int .i64 1, .int .i64 tr, .int .i64 wt, .int .i64 f, .int .i64 rd, .bool told, .int .i64 st, .int .i64 0, .bool false, .bool false, .int .i64 state, .int .i64 0]
theorem Turns.setRow_new {B : Nat} {a w : World} (h : Turns B a w) {g : Nat} (hg : a.heap.size ≤ g) (cs : Array Value) : Turns B a (w.setRow g cs) :=
  ⟨h.os, h.tape, h.output, by rw [setRow_size]; exact h.size, fun k hk hne => (setRow_other w g k cs (by omega)).trans (h.block k hk hne)⟩

set_option maxRecDepth 100000 in
theorem state_any {w : World} {B : Nat} {ky : ByteArray} {da : Option Addr} {dn dc : Nat} {sz pt tr wt f rd st state : Int} {told : Bool} (g : w.heap[B]? = some (.cells (upA ky da dn dc sz pt tr wt f rd told st state) 75 (0, 0))) :
    Calls Try.prog 18 #[.pointer (some ⟨B, 0, none⟩)] w fun e w' => e = .returned (.int .i64 state) ∧ w = w' := by
  have c14 := cell_blk g (i := 14) rfl
  clear g
  go_enter Try.func18, Try.ntmps18
  go_wp2_with fail
  go_ret
  exact ⟨rfl, rfl⟩

set_option maxRecDepth 100000 in
theorem end_any {w : World} {B : Nat} {ky : ByteArray} {da : Option Addr} {dn dc : Nat} {sz pt tr wt f rd st state : Int} {told : Bool} (s : Int) (g : w.heap[B]? = some (.cells (upA ky da dn dc sz pt tr wt f rd told st state) 75 (0, 0))) :
    Calls Try.prog 57 #[.pointer (some ⟨B, 0, none⟩), .int .i64 s] w fun e w' => e = .returned (.tuple #[]) ∧ w'.heap[B]? = some (.cells (upA ky da dn dc sz pt tr wt f rd told 5 s) 75 (0, 0)) ∧ Turns B w w' := by
  have c14 := cell_blk g (i := 14) rfl
  have f14 := fro_blk g 14
  have g1 := heap_set g 14 (.int .i64 s)
  have c10 := cell_blk g1 (i := 10) rfl
  have f10 := fro_blk g1 10
  have HG := Lib.hid (heap_set g1 10 (.int .i64 5))
  have HT := Lib.hid (((Turns.refl B w).set 14 (.int .i64 s)).set 10 (.int .i64 5))
  clear g g1
  go_enter Try.func57, Try.ntmps57
  go_wp2_with fail
  first | go_end0 | refine bodyPost_ret (results_none rfl _ _ _) rfl ?_
  exact ⟨rfl, HG.out, HT.out⟩

set_option maxRecDepth 100000 in
set_option maxHeartbeats 1000000 in
theorem ufail_more {w : World} {B : Nat} {ky : ByteArray} {da : Option Addr} {dn dc : Nat} {sz pt tr wt rd now : Int} {f : Nat} (g : w.heap[B]? = some (.cells (upA ky da dn dc sz pt tr wt (f : Int) rd false 0 0) 75 (0, 0))) (hf : f ≤ 10) (hw : 0 ≤ wt ∧ wt ≤ 1000) (hn : 0 ≤ now ∧ now ≤ 10000000) (h : (f : Int) + 1 < tr) :
    Calls Try.prog 73 #[.pointer (some ⟨B, 0, none⟩), .bool true, .int .i64 now] w fun e w' => e = .returned (.tuple #[]) ∧ w'.heap[B]? = some (.cells (upA ky da dn dc sz pt tr wt ((f : Int) + 1) (now + wt * 2 ^ f) false 0 0) 75 (0, 0)) ∧ Turns B w w' := by
  have HF := Lib.hid (fail_more (o := 5) g rfl rfl rfl rfl hf hw hn h)
  clear g
  go_enter Try.func73, Try.ntmps73
  go_wp2_with fail
  refine HF.out.mono ?_
  rintro e w2 ⟨rfl, hg2, ht2⟩
  have HG := Lib.hid hg2
  have HT := Lib.hid ht2
  clear hg2 ht2
  go_wp2_with fail
  first | go_end0 | refine bodyPost_ret (results_none rfl _ _ _) rfl ?_
  exact ⟨rfl, HG.out, HT.out⟩

set_option maxRecDepth 100000 in
set_option maxHeartbeats 1000000 in
theorem ufail_last {w : World} {B : Nat} {ky : ByteArray} {da : Option Addr} {dn dc : Nat} {sz pt tr wt rd now : Int} {f : Nat} (g : w.heap[B]? = some (.cells (upA ky da dn dc sz pt tr wt (f : Int) rd false 0 0) 75 (0, 0))) (hf : f ≤ 10) (h : tr ≤ (f : Int) + 1) :
    Calls Try.prog 73 #[.pointer (some ⟨B, 0, none⟩), .bool true, .int .i64 now] w fun e w' => e = .returned (.tuple #[]) ∧ w'.heap[B]? = some (.cells (upA ky da dn dc sz pt tr wt ((f : Int) + 1) rd false 5 2) 75 (0, 0)) ∧ Turns B w w' := by
  have HF := Lib.hid (fail_last (o := 5) (now := now) g rfl rfl (by omega) h)
  clear g
  go_enter Try.func73, Try.ntmps73
  go_wp2_with fail
  refine HF.out.mono ?_
  rintro e w2 ⟨rfl, hg2, ht2⟩
  have hg3 : w2.heap[B]? = some (.cells (upA ky da dn dc sz pt tr wt ((f : Int) + 1) rd false 0 0) 75 (0, 0)) := hg2
  have c12 := cell_blk hg3 (i := 12) (u := .bool false) rfl
  have HE := Lib.hid (end_any 2 hg3)
  have HT := Lib.hid ht2
  clear hg2 hg3 ht2
  go_wp2_with fail
  refine HE.out.mono ?_
  rintro e w3 ⟨rfl, hg3, ht3⟩
  have HG3 := Lib.hid hg3
  have HT3 := Lib.hid (HT.out.trans ht3)
  clear hg3 ht3
  go_wp2_with fail
  first | go_end0 | refine bodyPost_ret (results_none rfl _ _ _) rfl ?_
  exact ⟨rfl, HG3.out, HT3.out⟩

set_option maxRecDepth 100000 in
set_option maxHeartbeats 1000000 in
theorem created_more {w : World} {B : Nat} {ky : ByteArray} {da : Option Addr} {dn dc : Nat} {sz pt tr wt rd now : Int} {f : Nat} (g : w.heap[B]? = some (.cells (upA ky da dn dc sz pt tr wt (f : Int) rd false 0 0) 75 (0, 0))) (hf : f ≤ 10) (hw : 0 ≤ wt ∧ wt ≤ 1000) (hn : 0 ≤ now ∧ now ≤ 10000000) (h : (f : Int) + 1 < tr) :
    Calls Try.prog 53 #[.pointer (some ⟨B, 0, none⟩), .agg #[.int .i64 10, .slice none 0 0, .int .i64 0, .int .i64 0, .int .i64 0, .slice none 0 0, .bool false], .int .i64 now] w fun e w' => e = .returned (.tuple #[]) ∧ w'.heap[B]? = some (.cells (upA ky da dn dc sz pt tr wt ((f : Int) + 1) (now + wt * 2 ^ f) false 0 0) 75 (0, 0)) ∧ Turns B w w' := by
  obtain ⟨w1, hw1⟩ : ∃ w1, w1 = w.alloc (.cells #[.int .i64 10, .slice none 0 0, .int .i64 0, .int .i64 0, .int .i64 0, .slice none 0 0, .bool false] 36) := ⟨_, rfl⟩
  have hlt := (Array.getElem?_eq_some_iff.1 g).1
  have hb1 : Below w.heap.size w w1 := by rw [hw1]; exact (Below.refl _ _).alloc (Nat.le_refl _) _
  have g1 := (hb1.block B hlt).trans g
  have HF := Lib.hid (ufail_more (now := now) g1 hf hw hn h)
  have HT := Lib.hid ((Turns.refl B w).below hb1)
  have z10 : ((10 : Int) != 0) = true := by decide
  rw [hw1] at HF HT
  have HF := Lib.hid HF.out
  clear g g1 hb1 hlt
  subst hw1
  go_enter Try.func53, Try.ntmps53
  go_wp2_with fail
  refine (passes_net _).mono ?_
  rintro e w2 ⟨rfl, rfl⟩
  go_wp2_with fail
  refine HF.out.mono ?_
  rintro e w3 ⟨rfl, hg3, ht3⟩
  have HG3 := Lib.hid hg3
  have HT3 := Lib.hid (HT.out.trans ht3)
  clear hg3 ht3
  go_wp2_with fail
  first | go_end0 | refine bodyPost_ret (results_none rfl _ _ _) rfl ?_
  exact ⟨rfl, HG3.out, HT3.out⟩

set_option maxRecDepth 100000 in
set_option maxHeartbeats 1000000 in
theorem take_more {w : World} {B : Nat} {ky : ByteArray} {da : Option Addr} {dn dc : Nat} {sz pt tr wt rd now : Int} {f : Nat} (g : w.heap[B]? = some (.cells (upA ky da dn dc sz pt tr wt (f : Int) rd true 0 0) 75 (0, 0))) (hf : f ≤ 10) (hw : 0 ≤ wt ∧ wt ≤ 1000) (hn : 0 ≤ now ∧ now ≤ 10000000) (h : (f : Int) + 1 < tr) :
    Calls Try.prog 23 #[.pointer (some ⟨B, 0, none⟩), .agg #[.int .i64 10, .slice none 0 0, .int .i64 0, .int .i64 0, .int .i64 0, .slice none 0 0, .bool false], .int .i64 now] w fun e w' => (∃ v, e = .returned v) ∧ w'.heap[B]? = some (.cells (upA ky da dn dc sz pt tr wt ((f : Int) + 1) (now + wt * 2 ^ f) false 0 0) 75 (0, 0)) ∧ Turns B w w' := by
  obtain ⟨w1, hw1⟩ : ∃ w1, w1 = w.alloc (.cells #[.int .i64 10, .slice none 0 0, .int .i64 0, .int .i64 0, .int .i64 0, .slice none 0 0, .bool false] 36) := ⟨_, rfl⟩
  have hlt := (Array.getElem?_eq_some_iff.1 g).1
  have hb1 : Below w.heap.size w w1 := by rw [hw1]; exact (Below.refl _ _).alloc (Nat.le_refl _) _
  have g1 := (hb1.block B hlt).trans g
  have hlt1 : w.heap.size < w1.heap.size := by rw [hw1]; exact (Array.getElem?_eq_some_iff.1 (heap_alloc_new w _)).1
  have gr : w1.heap[w.heap.size]? = some (.cells #[.int .i64 10, .slice none 0 0, .int .i64 0, .int .i64 0, .int .i64 0, .slice none 0 0, .bool false] 36 (0, 0)) := by rw [hw1]; exact heap_alloc_new w _
  have HTK := Lib.hid (taken_yes (o := 5) g1 rfl)
  have HT := Lib.hid ((Turns.refl B w).below hb1)
  have HR := Lib.hid (fun (w2 : World) (h : Turns B w1 w2) => (h.block w.heap.size hlt1 (by omega)).trans gr)
  rw [hw1] at HTK HT HR
  have HTK := Lib.hid HTK.out
  have HR := Lib.hid HR.out
  clear g g1 hb1 hlt hlt1 gr
  subst hw1
  go_enter Try.func23, Try.ntmps23
  go_wp2_with fail
  refine HTK.out.mono ?_
  rintro e w2 ⟨rfl, hg2, ht2⟩
  have hg3 : w2.heap[B]? = some (.cells (upA ky da dn dc sz pt tr wt (f : Int) rd false 0 0) 75 (0, 0)) := hg2
  have c10 := cell_blk hg3 (i := 10) (u := .int .i64 0) rfl
  have gr2 := HR.out w2 ht2
  have r0 := cell_blk gr2 (i := 0) (u := .int .i64 10) rfl
  have r1 := cell_blk gr2 (i := 1) (u := .slice none 0 0) rfl
  have r2 := cell_blk gr2 (i := 2) (u := .int .i64 0) rfl
  have r3 := cell_blk gr2 (i := 3) (u := .int .i64 0) rfl
  have r4 := cell_blk gr2 (i := 4) (u := .int .i64 0) rfl
  have r5 := cell_blk gr2 (i := 5) (u := .slice none 0 0) rfl
  have r6 := cell_blk gr2 (i := 6) (u := .bool false) rfl
  have HC := Lib.hid (created_more (now := now) hg3 hf hw hn h)
  have HT2 := Lib.hid (HT.out.trans ht2)
  clear hg2 hg3 ht2 gr2
  go_wp2_with fail
  refine HC.out.mono ?_
  rintro e w3 ⟨rfl, hg3, ht3⟩
  have HG3 := Lib.hid hg3
  have HT3 := Lib.hid (HT2.out.trans ht3)
  clear hg3 ht3
  go_wp2_with fail
  go_ret
  exact ⟨⟨_, rfl⟩, HG3.out, HT3.out⟩

set_option maxRecDepth 100000 in
set_option maxHeartbeats 1000000 in
theorem created_last {w : World} {B : Nat} {ky : ByteArray} {da : Option Addr} {dn dc : Nat} {sz pt tr wt rd now : Int} {f : Nat} (g : w.heap[B]? = some (.cells (upA ky da dn dc sz pt tr wt (f : Int) rd false 0 0) 75 (0, 0))) (hf : f ≤ 10) (h : tr ≤ (f : Int) + 1) :
    Calls Try.prog 53 #[.pointer (some ⟨B, 0, none⟩), .agg #[.int .i64 10, .slice none 0 0, .int .i64 0, .int .i64 0, .int .i64 0, .slice none 0 0, .bool false], .int .i64 now] w fun e w' => e = .returned (.tuple #[]) ∧ w'.heap[B]? = some (.cells (upA ky da dn dc sz pt tr wt ((f : Int) + 1) rd false 5 2) 75 (0, 0)) ∧ Turns B w w' := by
  obtain ⟨w1, hw1⟩ : ∃ w1, w1 = w.alloc (.cells #[.int .i64 10, .slice none 0 0, .int .i64 0, .int .i64 0, .int .i64 0, .slice none 0 0, .bool false] 36) := ⟨_, rfl⟩
  have hlt := (Array.getElem?_eq_some_iff.1 g).1
  have hb1 : Below w.heap.size w w1 := by rw [hw1]; exact (Below.refl _ _).alloc (Nat.le_refl _) _
  have g1 := (hb1.block B hlt).trans g
  have HF := Lib.hid (ufail_last (now := now) g1 hf h)
  have HT := Lib.hid ((Turns.refl B w).below hb1)
  have z10 : ((10 : Int) != 0) = true := by decide
  rw [hw1] at HF HT
  have HF := Lib.hid HF.out
  clear g g1 hb1 hlt
  subst hw1
  go_enter Try.func53, Try.ntmps53
  go_wp2_with fail
  refine (passes_net _).mono ?_
  rintro e w2 ⟨rfl, rfl⟩
  go_wp2_with fail
  refine HF.out.mono ?_
  rintro e w3 ⟨rfl, hg3, ht3⟩
  have HG3 := Lib.hid hg3
  have HT3 := Lib.hid (HT.out.trans ht3)
  clear hg3 ht3
  go_wp2_with fail
  first | go_end0 | refine bodyPost_ret (results_none rfl _ _ _) rfl ?_
  exact ⟨rfl, HG3.out, HT3.out⟩

set_option maxRecDepth 100000 in
set_option maxHeartbeats 1000000 in
theorem take_last {w : World} {B : Nat} {ky : ByteArray} {da : Option Addr} {dn dc : Nat} {sz pt tr wt rd now : Int} {f : Nat} (g : w.heap[B]? = some (.cells (upA ky da dn dc sz pt tr wt (f : Int) rd true 0 0) 75 (0, 0))) (hf : f ≤ 10) (h : tr ≤ (f : Int) + 1) :
    Calls Try.prog 23 #[.pointer (some ⟨B, 0, none⟩), .agg #[.int .i64 10, .slice none 0 0, .int .i64 0, .int .i64 0, .int .i64 0, .slice none 0 0, .bool false], .int .i64 now] w fun e w' => (∃ v, e = .returned v) ∧ w'.heap[B]? = some (.cells (upA ky da dn dc sz pt tr wt ((f : Int) + 1) rd false 5 2) 75 (0, 0)) ∧ Turns B w w' := by
  obtain ⟨w1, hw1⟩ : ∃ w1, w1 = w.alloc (.cells #[.int .i64 10, .slice none 0 0, .int .i64 0, .int .i64 0, .int .i64 0, .slice none 0 0, .bool false] 36) := ⟨_, rfl⟩
  have hlt := (Array.getElem?_eq_some_iff.1 g).1
  have hb1 : Below w.heap.size w w1 := by rw [hw1]; exact (Below.refl _ _).alloc (Nat.le_refl _) _
  have g1 := (hb1.block B hlt).trans g
  have hlt1 : w.heap.size < w1.heap.size := by rw [hw1]; exact (Array.getElem?_eq_some_iff.1 (heap_alloc_new w _)).1
  have gr : w1.heap[w.heap.size]? = some (.cells #[.int .i64 10, .slice none 0 0, .int .i64 0, .int .i64 0, .int .i64 0, .slice none 0 0, .bool false] 36 (0, 0)) := by rw [hw1]; exact heap_alloc_new w _
  have HTK := Lib.hid (taken_yes (o := 5) g1 rfl)
  have HT := Lib.hid ((Turns.refl B w).below hb1)
  have HR := Lib.hid (fun (w2 : World) (h : Turns B w1 w2) => (h.block w.heap.size hlt1 (by omega)).trans gr)
  rw [hw1] at HTK HT HR
  have HTK := Lib.hid HTK.out
  have HR := Lib.hid HR.out
  clear g g1 hb1 hlt hlt1 gr
  subst hw1
  go_enter Try.func23, Try.ntmps23
  go_wp2_with fail
  refine HTK.out.mono ?_
  rintro e w2 ⟨rfl, hg2, ht2⟩
  have hg3 : w2.heap[B]? = some (.cells (upA ky da dn dc sz pt tr wt (f : Int) rd false 0 0) 75 (0, 0)) := hg2
  have c10 := cell_blk hg3 (i := 10) (u := .int .i64 0) rfl
  have gr2 := HR.out w2 ht2
  have r0 := cell_blk gr2 (i := 0) (u := .int .i64 10) rfl
  have r1 := cell_blk gr2 (i := 1) (u := .slice none 0 0) rfl
  have r2 := cell_blk gr2 (i := 2) (u := .int .i64 0) rfl
  have r3 := cell_blk gr2 (i := 3) (u := .int .i64 0) rfl
  have r4 := cell_blk gr2 (i := 4) (u := .int .i64 0) rfl
  have r5 := cell_blk gr2 (i := 5) (u := .slice none 0 0) rfl
  have r6 := cell_blk gr2 (i := 6) (u := .bool false) rfl
  have HC := Lib.hid (created_last (now := now) hg3 hf h)
  have HT2 := Lib.hid (HT.out.trans ht2)
  clear hg2 hg3 ht2 gr2
  go_wp2_with fail
  refine HC.out.mono ?_
  rintro e w3 ⟨rfl, hg3, ht3⟩
  have HG3 := Lib.hid hg3
  have HT3 := Lib.hid (HT2.out.trans ht3)
  clear hg3 ht3
  go_wp2_with fail
  go_ret
  exact ⟨⟨_, rfl⟩, HG3.out, HT3.out⟩
end Go.Proofs.Ytodoklnohedolaa
end PkUD4_5
section PkUD4_6
/- An upload's Next and New; layer 17's fixed fact: walked. -/
namespace Go.Proofs.Ytodoklnohedolaa
open Go.RowKit
set_option linter.unusedVariables false

set_option maxRecDepth 100000 in
set_option maxHeartbeats 1000000 in
theorem next_yes {w : World} {B : Nat} {ky : ByteArray} {da : Option Addr} {dn dc : Nat} {sz pt tr wt rd now f state : Int} (g : w.heap[B]? = some (.cells (upA ky da dn dc sz pt tr wt f rd false 0 state) 75 (0, 0))) (h : rd ≤ now) :
    Calls Try.prog 22 #[.pointer (some ⟨B, 0, none⟩), .int .i64 now] w fun e w' => e = .returned (.tuple #[.agg #[.int .i64 7, .string ky, .slice none 0 0, .int .i64 0, .int .i64 0, .int .i64 0, .int .i64 0], .bool true]) ∧ w'.heap[B]? = some (.cells (upA ky da dn dc sz pt tr wt f rd true 0 state) 75 (0, 0)) ∧ Turns B w w' := by
  obtain ⟨w1, hw1⟩ : ∃ w1, w1 = w.alloc (.cells #[.int .i64 0, .string { data := #[] }, .slice none 0 0, .int .i64 0, .int .i64 0, .int .i64 0, .int .i64 0] 30) := ⟨_, rfl⟩
  have hlt := (Array.getElem?_eq_some_iff.1 g).1
  have hb1 : Below w.heap.size w w1 := by rw [hw1]; exact (Below.refl _ _).alloc (Nat.le_refl _) _
  have g1 := (hb1.block B hlt).trans g
  have hlt1 : w.heap.size < w1.heap.size := by rw [hw1]; exact (Array.getElem?_eq_some_iff.1 (heap_alloc_new w _)).1
  have gr : w1.heap[w.heap.size]? = some (.cells #[.int .i64 0, .string { data := #[] }, .slice none 0 0, .int .i64 0, .int .i64 0, .int .i64 0, .int .i64 0] 30 (0, 0)) := by rw [hw1]; exact heap_alloc_new w _
  have hT : Turns B w w1 := (Turns.refl B w).below hb1
  have c10 := cell_blk g1 (i := 10) (u := .int .i64 0) rfl
  have HTL := Lib.hid (tell_yes (o := 5) (now := now) g1 rfl rfl h)
  have HR := Lib.hid (fun (w2 : World) (h : Turns B w1 w2) => (h.block w.heap.size hlt1 (by omega)).trans gr)
  have HT := Lib.hid hT
  have HNE := Lib.hid (show B ≠ w.heap.size by omega)
  rw [hw1] at HTL HT HR c10
  have HTL := Lib.hid HTL.out
  have HR := Lib.hid HR.out
  clear g g1 hb1 hlt hlt1 gr hT
  subst hw1
  go_enter Try.func22, Try.ntmps22
  go_wp2_with fail
  refine HTL.out.mono ?_
  rintro e w2 ⟨rfl, hg2, ht2⟩
  have hg3 : w2.heap[B]? = some (.cells (upA ky da dn dc sz pt tr wt f rd true 0 state) 75 (0, 0)) := hg2
  have k0 := cell_blk hg3 (i := 0) (u := .string ky) rfl
  have k10 := cell_blk hg3 (i := 10) (u := .int .i64 0) rfl
  have gr2 := HR.out w2 ht2
  have HG2 := Lib.hid gr2
  have HGB := Lib.hid ((setRow_other w2 w.heap.size B #[.int .i64 7, .string ky, .slice none 0 0, .int .i64 0, .int .i64 0, .int .i64 0, .int .i64 0] HNE.out).trans hg3)
  have HTB := Lib.hid ((HT.out.trans ht2).setRow_new (Nat.le_refl _) #[.int .i64 7, .string ky, .slice none 0 0, .int .i64 0, .int .i64 0, .int .i64 0, .int .i64 0])
  have e0 := fun j => cell_setRow_same w2 w.heap.size j _ #[.int .i64 7, .string ky, .slice none 0 0, .int .i64 0, .int .i64 0, .int .i64 0, .int .i64 0] _ _ gr2
  have q0 := e0 0
  have q1 := e0 1
  have q2 := e0 2
  have q3 := e0 3
  have q4 := e0 4
  have q5 := e0 5
  have q6 := e0 6
  clear e0 hg2 hg3 ht2 gr2
  go_wp2_with (refine wpList_store_row rfl 30 (.tmp 4) (.tmp 36) rfl w.heap.size #[.int .i64 7, .string ky, .slice none 0 0, .int .i64 0, .int .i64 0, .int .i64 0, .int .i64 0] rfl rfl 30 _ HG2.out (by kernel_rfl) (by rfl) (by simp [Value.oneCell']) ?_)
  exact bodyPost_ret (v := .tuple #[.agg #[.int .i64 7, .string ky, .slice none 0 0, .int .i64 0, .int .i64 0, .int .i64 0, .int .i64 0], .bool true]) (by simp [results, Try.results22, go_sem, q0, q1, q2, q3, q4, q5, q6]) rfl ⟨rfl, HGB.out, HTB.out⟩

set_option maxRecDepth 100000 in
set_option maxHeartbeats 1000000 in
theorem next_over {w : World} {B : Nat} {ky : ByteArray} {da : Option Addr} {dn dc : Nat} {sz pt tr wt rd now f state : Int} (g : w.heap[B]? = some (.cells (upA ky da dn dc sz pt tr wt f rd false 5 state) 75 (0, 0))) :
    Calls Try.prog 22 #[.pointer (some ⟨B, 0, none⟩), .int .i64 now] w fun e w' => e = .returned (.tuple #[.agg #[.int .i64 0, .string { data := #[] }, .slice none 0 0, .int .i64 0, .int .i64 0, .int .i64 0, .int .i64 0], .bool false]) ∧ w'.heap[B]? = some (.cells (upA ky da dn dc sz pt tr wt f rd false 5 state) 75 (0, 0)) ∧ Turns B w w' := by
  obtain ⟨w1, hw1⟩ : ∃ w1, w1 = w.alloc (.cells #[.int .i64 0, .string { data := #[] }, .slice none 0 0, .int .i64 0, .int .i64 0, .int .i64 0, .int .i64 0] 30) := ⟨_, rfl⟩
  have hlt := (Array.getElem?_eq_some_iff.1 g).1
  have hb1 : Below w.heap.size w w1 := by rw [hw1]; exact (Below.refl _ _).alloc (Nat.le_refl _) _
  have g1 := (hb1.block B hlt).trans g
  have hlt1 : w.heap.size < w1.heap.size := by rw [hw1]; exact (Array.getElem?_eq_some_iff.1 (heap_alloc_new w _)).1
  have gr : w1.heap[w.heap.size]? = some (.cells #[.int .i64 0, .string { data := #[] }, .slice none 0 0, .int .i64 0, .int .i64 0, .int .i64 0, .int .i64 0] 30 (0, 0)) := by rw [hw1]; exact heap_alloc_new w _
  have hT : Turns B w w1 := (Turns.refl B w).below hb1
  have c10 := cell_blk g1 (i := 10) (u := .int .i64 5) rfl
  have HG2 := Lib.hid gr
  have HGB := Lib.hid ((setRow_other w1 w.heap.size B #[.int .i64 0, .string { data := #[] }, .slice none 0 0, .int .i64 0, .int .i64 0, .int .i64 0, .int .i64 0] (by omega)).trans g1)
  have HTB := Lib.hid (hT.setRow_new (Nat.le_refl _) #[.int .i64 0, .string { data := #[] }, .slice none 0 0, .int .i64 0, .int .i64 0, .int .i64 0, .int .i64 0])
  have e0 := fun j => cell_setRow_same w1 w.heap.size j _ #[.int .i64 0, .string { data := #[] }, .slice none 0 0, .int .i64 0, .int .i64 0, .int .i64 0, .int .i64 0] _ _ gr
  have q0 := e0 0
  have q1 := e0 1
  have q2 := e0 2
  have q3 := e0 3
  have q4 := e0 4
  have q5 := e0 5
  have q6 := e0 6
  rw [hw1] at HG2 HGB HTB c10 q0 q1 q2 q3 q4 q5 q6
  clear e0 g g1 hb1 hlt hlt1 gr hT
  subst hw1
  go_enter Try.func22, Try.ntmps22
  go_wp2_with (refine wpList_store_row rfl 30 (.tmp 4) (.tmp 25) rfl w.heap.size #[.int .i64 0, .string { data := #[] }, .slice none 0 0, .int .i64 0, .int .i64 0, .int .i64 0, .int .i64 0] rfl rfl 30 _ HG2.out (by kernel_rfl) (by rfl) (by simp [Value.oneCell']) ?_)
  exact bodyPost_ret (v := .tuple #[.agg #[.int .i64 0, .string { data := #[] }, .slice none 0 0, .int .i64 0, .int .i64 0, .int .i64 0, .int .i64 0], .bool false]) (by simp [results, Try.results22, go_sem, q0, q1, q2, q3, q4, q5, q6]) rfl ⟨rfl, HGB.out, HTB.out⟩

set_option maxRecDepth 100000 in
set_option maxHeartbeats 1000000 in
theorem next_wait {w : World} {B : Nat} {ky : ByteArray} {da : Option Addr} {dn dc : Nat} {sz pt tr wt rd now f state : Int} (g : w.heap[B]? = some (.cells (upA ky da dn dc sz pt tr wt f rd false 0 state) 75 (0, 0))) (h : now < rd) :
    Calls Try.prog 22 #[.pointer (some ⟨B, 0, none⟩), .int .i64 now] w fun e w' => e = .returned (.tuple #[.agg #[.int .i64 0, .string { data := #[] }, .slice none 0 0, .int .i64 0, .int .i64 0, .int .i64 0, .int .i64 0], .bool false]) ∧ w'.heap[B]? = some (.cells (upA ky da dn dc sz pt tr wt f rd false 0 state) 75 (0, 0)) ∧ Turns B w w' := by
  obtain ⟨w1, hw1⟩ : ∃ w1, w1 = w.alloc (.cells #[.int .i64 0, .string { data := #[] }, .slice none 0 0, .int .i64 0, .int .i64 0, .int .i64 0, .int .i64 0] 30) := ⟨_, rfl⟩
  have hlt := (Array.getElem?_eq_some_iff.1 g).1
  have hb1 : Below w.heap.size w w1 := by rw [hw1]; exact (Below.refl _ _).alloc (Nat.le_refl _) _
  have g1 := (hb1.block B hlt).trans g
  have hlt1 : w.heap.size < w1.heap.size := by rw [hw1]; exact (Array.getElem?_eq_some_iff.1 (heap_alloc_new w _)).1
  have gr : w1.heap[w.heap.size]? = some (.cells #[.int .i64 0, .string { data := #[] }, .slice none 0 0, .int .i64 0, .int .i64 0, .int .i64 0, .int .i64 0] 30 (0, 0)) := by rw [hw1]; exact heap_alloc_new w _
  have hT : Turns B w w1 := (Turns.refl B w).below hb1
  have c10 := cell_blk g1 (i := 10) (u := .int .i64 0) rfl
  have HTL := Lib.hid (tell_no (o := 5) (now := now) g1 rfl rfl h)
  have HG2 := Lib.hid gr
  have HGB := Lib.hid ((setRow_other w1 w.heap.size B #[.int .i64 0, .string { data := #[] }, .slice none 0 0, .int .i64 0, .int .i64 0, .int .i64 0, .int .i64 0] (by omega)).trans g1)
  have HTB := Lib.hid (hT.setRow_new (Nat.le_refl _) #[.int .i64 0, .string { data := #[] }, .slice none 0 0, .int .i64 0, .int .i64 0, .int .i64 0, .int .i64 0])
  have e0 := fun j => cell_setRow_same w1 w.heap.size j _ #[.int .i64 0, .string { data := #[] }, .slice none 0 0, .int .i64 0, .int .i64 0, .int .i64 0, .int .i64 0] _ _ gr
  have q0 := e0 0
  have q1 := e0 1
  have q2 := e0 2
  have q3 := e0 3
  have q4 := e0 4
  have q5 := e0 5
  have q6 := e0 6
  rw [hw1] at HG2 HGB HTB c10 q0 q1 q2 q3 q4 q5 q6 HTL
  clear e0 g g1 hb1 hlt hlt1 gr hT
  subst hw1
  go_enter Try.func22, Try.ntmps22
  go_wp2_with fail
  refine HTL.out.mono ?_
  rintro e w2 ⟨rfl, rfl⟩
  go_wp2_with (refine wpList_store_row rfl 30 (.tmp 4) (.tmp 25) rfl w.heap.size #[.int .i64 0, .string { data := #[] }, .slice none 0 0, .int .i64 0, .int .i64 0, .int .i64 0, .int .i64 0] rfl rfl 30 _ HG2.out (by kernel_rfl) (by rfl) (by simp [Value.oneCell']) ?_)
  exact bodyPost_ret (v := .tuple #[.agg #[.int .i64 0, .string { data := #[] }, .slice none 0 0, .int .i64 0, .int .i64 0, .int .i64 0, .int .i64 0], .bool false]) (by simp [results, Try.results22, go_sem, q0, q1, q2, q3, q4, q5, q6]) rfl ⟨rfl, HGB.out, HTB.out⟩
end Go.Proofs.Ytodoklnohedolaa
end PkUD4_6
section PkUD4_7
/- An upload made; layer 17's fixed fact: walked. -/
namespace Go.Proofs.Ytodoklnohedolaa
open Go.RowKit
set_option linter.unusedVariables false

theorem divided_any (n d : Int) (hn : 0 ≤ n ∧ n ≤ 1000000) (hd : 1 ≤ d ∧ d ≤ 3000000) (w : World) :
    Calls Try.prog 36 #[.int .i64 n, .int .i64 d] w fun e w' => (∃ z : Int, e = .returned (.int .i64 z) ∧ 0 ≤ z ∧ z ≤ n + d) ∧ w = w' := by
  obtain ⟨hn0, hn1⟩ := hn
  obtain ⟨hd0, hd1⟩ := hd
  have hz : (d == 0) = false := by rw [beq_eq_false_iff_ne]; omega
  have hq0 : 0 ≤ (n + d - 1).tdiv d := Int.tdiv_nonneg (by omega) (by omega)
  have hq1 : (n + d - 1).tdiv d ≤ n + d := Int.le_trans (Int.tdiv_le_self _ (by omega)) (by omega)
  have HQ := Lib.hid (And.intro hq0 hq1)
  go_enter Try.func36, Try.ntmps36
  go_wp2_with fail
  go_ret
  exact ⟨⟨_, rfl, HQ.out.1, HQ.out.2⟩, rfl⟩

set_option maxRecDepth 100000 in
set_option maxHeartbeats 1000000 in
theorem new_no {w : World} {ky : ByteArray} {da : Option Addr} {dn dc : Nat} {pc tr wt : Int} (hd : dn ≤ 3000) (h : ¬ (1 ≤ pc ∧ pc ≤ 262144 ∧ fitsB tr wt = true)) :
    Calls Try.prog 15 #[.string ky, .slice da dn dc, .int .i64 pc, .int .i64 tr, .int .i64 wt] w fun e w' => e = .returned (.pointer none) ∧ w = w' := by
  have hdi : (dn : Int) ≤ 262144 := by omega
  by_cases h1 : pc < 1
  · clear h
    go_enter Try.func15, Try.ntmps15
    go_wp2_with fail
    go_ret
    exact ⟨rfl, rfl⟩
  · have h1i : 1 ≤ pc := by omega
    clear h1
    by_cases h2 : 262144 < pc
    · clear h
      go_enter Try.func15, Try.ntmps15
      go_wp2_with fail
      go_ret
      exact ⟨rfl, rfl⟩
    · have h2i : pc ≤ 262144 := by omega
      have hf : fitsB tr wt = false := by
        cases hb : fitsB tr wt with
        | false => rfl
        | true => exact absurd ⟨h1i, h2i, hb⟩ h
      have HF := Lib.hid (fun w => fits_any tr wt w)
      rw [hf] at HF
      clear h2 h hf
      go_enter Try.func15, Try.ntmps15
      go_wp2_with fail
      refine (HF.out _).mono ?_
      rintro e w2 ⟨rfl, rfl⟩
      go_wp2_with fail
      go_ret
      exact ⟨rfl, rfl⟩

set_option maxRecDepth 100000 in
set_option maxHeartbeats 2000000 in
theorem new_yes {w : World} {ky : ByteArray} {da : Option Addr} {dn dc : Nat} {xs : List Nat} {pc tr wt : Int} (hb : BytesAt w da dn dc xs) (hd : dn ≤ 3000) (h1 : 1 ≤ pc) (h2 : pc ≤ 262144) (hf : fitsB tr wt = true) :
    Calls Try.prog 15 #[.string ky, .slice da dn dc, .int .i64 pc, .int .i64 tr, .int .i64 wt] w fun e w' => ∃ (B : Nat) (da' : Option Addr) (dc' : Nat) (sz pt : Int), e = .returned (.pointer (some ⟨B, 0, none⟩)) ∧ w'.heap[B]? = some (.cells (upA ky da' dn dc' sz pt tr wt 0 0 false 0 0) 75 (0, 0)) ∧ w.heap.size ≤ B ∧ Below w.heap.size w w' := by
  have hdi : (dn : Int) ≤ 262144 := by omega
  have HF := Lib.hid (fun w => fits_any tr wt w)
  rw [hf] at HF
  have HBY := Lib.hid hb
  have hdn : (dn : Int) ≤ 3000 := by omega
  clear hb hf
  go_enter Try.func15, Try.ntmps15
  go_wp2_with fail
  refine (HF.out _).mono ?_
  rintro e w2 ⟨rfl, rfl⟩
  go_wp2_with fail
  refine (divided_any (dn : Int) 32 ⟨by omega, by omega⟩ ⟨by omega, by omega⟩ _).mono ?_
  rintro e w2 ⟨⟨z, rfl, hz0, hz1⟩, rfl⟩
  go_wp2_with fail
  refine (clone_own HBY.out).mono ?_
  rintro e w3 ⟨v, rfl, hown, hb3⟩
  obtain ⟨a', c', rfl⟩ : ∃ a' c', v = .slice a' dn c' := by
    rcases hown.2 with ⟨rfl, h0⟩ | ⟨g, cap, cur, rfl, _⟩
    · subst h0; exact ⟨_, _, rfl⟩
    · exact ⟨_, _, rfl⟩
  have HB3 := Lib.hid hb3
  clear hown hb3
  go_wp2_with fail
  have hm : 1 ≤ max pc z := by omega
  have hm2 : max pc z ≤ 3000000 := by omega
  refine (divided_any (dn : Int) (max pc z) ⟨by omega, by omega⟩ ⟨hm, hm2⟩ _).mono ?_
  rintro e w4 ⟨⟨z2, rfl, hy0, hy1⟩, rfl⟩
  clear hm hm2
  go_wp2_with fail
  refine (pacenew_any tr wt _).mono ?_
  rintro e w5 ⟨rfl, hb5⟩
  have hb6 := HB3.out.trans (hb5.mono HB3.out.size)
  have HG := Lib.hid (heap_alloc_new w5 (.cells (upA ky a' dn c' (max pc z) (max 1 z2) tr wt 0 0 false 0 0) 75))
  have HB6 := Lib.hid (hb6.alloc hb6.size (.cells (upA ky a' dn c' (max pc z) (max 1 z2) tr wt 0 0 false 0 0) 75))
  have HS := Lib.hid hb6.size
  clear hb5 hb6
  go_wp2_with fail
  go_ret
  exact ⟨w5.heap.size, a', c', max pc z, max 1 z2, rfl, HG.out, HS.out, HB6.out⟩

set_option maxRecDepth 100000 in
set_option maxHeartbeats 2000000 in
theorem lives17_any (w : World) :
    Calls Try.prog 13 #[] w fun e w' => e = .returned (.bool true) ∧ Below w.heap.size w w' := by
  obtain ⟨w1, hw1⟩ : ∃ w1, w1 = w.alloc (.cells #[.int .u8 97, .int .u8 98] 5 (2, 3)) := ⟨_, rfl⟩
  have hblk : w1.heap[w.heap.size]? = some (.cells #[.int .u8 97, .int .u8 98] 5 (2, 3)) := by
    rw [hw1]; show (w.heap.push _)[w.heap.size]? = _; simp
  have hb1 : Below w.heap.size w w1 := by rw [hw1]; exact (Below.refl _ _).alloc (Nat.le_refl _) _
  have hby : BytesAt w1 (some ⟨w.heap.size, 0, none⟩) 2 2 [97, 98] := by
    refine ⟨rfl, Nat.le_refl _, by decide, by omega, by omega, (fun e => by cases e), fun _ => ⟨w.heap.size, 0, rfl, (Array.getElem?_eq_some_iff.1 hblk).1, fun i hi => ?_⟩⟩
    rw [cell_of_row w1 _ _ _ _ (2, 3) hblk]
    match i, hi with
    | 0, _ => rfl
    | 1, _ => rfl
  have HN := Lib.hid (new_yes (ky := { data := #[107] }) (pc := 1) (tr := 2) (wt := 1) hby (by omega) (by omega) (by omega) (by decide))
  have HB1 := Lib.hid hb1
  rw [hw1] at HN HB1
  have HN := Lib.hid HN.out
  clear hby hblk hb1
  subst hw1
  have hcv : (convert 28 28 (.slice (some ⟨w.heap.size, 0, none⟩) 2 2)).run Try.prog (w.alloc (.cells #[.int .u8 97, .int .u8 98] 5)) = .ok (.slice (some ⟨w.heap.size, 0, none⟩) 2 2) (w.alloc (.cells #[.int .u8 97, .int .u8 98] 5 (2, 3))) := Lib.run_convert_bytes_const w _ _ _ 2 2 Try.underlying28 Try.underlying5
  go_enter Try.func13, Try.ntmps13
  go_wp2_with fail
  refine HN.out.mono ?_
  rintro e w2 ⟨B, da, dc, sz, pt, rfl, hg, hB, hb2⟩
  have HNX := Lib.hid (next_yes (now := 0) hg (Int.le_refl 0))
  have hle := HB1.out.size
  have HB2 := Lib.hid (HB1.out.trans (hb2.mono HB1.out.size))
  have HBB := Lib.hid (Nat.le_trans hle hB)
  clear hg hB hb2 hle hcv
  go_wp2_with fail
  refine HNX.out.mono ?_
  rintro e w3 ⟨rfl, hg3, ht3⟩
  have hb3 := ht3.old HB2.out HBB.out HB2.out.size
  have hlt := (Array.getElem?_eq_some_iff.1 hg3).1
  have hal : Below w3.heap.size w3 (w3.alloc (.cells #[.int .i64 7, .string { data := #[107] }, .slice none 0 0, .int .i64 0, .int .i64 0, .int .i64 0, .int .i64 0] 30)) := (Below.refl _ _).alloc (Nat.le_refl _) _
  have HST := Lib.hid (state_any ((hal.block B hlt).trans hg3))
  have HB3 := Lib.hid (hb3.alloc hb3.size (.cells #[.int .i64 7, .string { data := #[107] }, .slice none 0 0, .int .i64 0, .int .i64 0, .int .i64 0, .int .i64 0] 30))
  clear hg3 ht3 hb3 hlt hal
  go_wp2_with fail
  refine HST.out.mono ?_
  rintro e w4 ⟨rfl, rfl⟩
  go_wp2_with fail
  go_ret
  exact ⟨rfl, HB3.out⟩
end Go.Proofs.Ytodoklnohedolaa
end PkUD4_7
section PkUD4_8
/- The law UploadPaces, walked. -/
namespace Go.Proofs.Ytodoklnohedolaa
open Go.RowKit
set_option linter.unusedVariables false

def fewB (dn : Nat) (ky : ByteArray) : Bool := decide (dn ≤ 3000) && decide (ky.size ≤ 100)
set_option maxRecDepth 100000 in
theorem few17_any {w : World} {ky : ByteArray} {da : Option Addr} {dn dc : Nat} {pc tr wt : Int} (hk : ky.size ≤ 140737488355328) (hd : dn ≤ 140737488355328) :
    Calls Try.prog 14 #[.agg #[.string ky, .slice da dn dc, .int .i64 pc, .int .i64 tr, .int .i64 wt]] w fun e w' => e = .returned (.bool (fewB dn ky)) ∧ Below w.heap.size w w' := by
  have HB := Lib.hid ((Below.refl w.heap.size w).alloc (Nat.le_refl _) (.cells #[.string ky, .slice da dn dc, .int .i64 pc, .int .i64 tr, .int .i64 wt] 41))
  by_cases h1 : dn ≤ 3000
  · have h1i : (dn : Int) ≤ 3000 := by omega
    by_cases h2 : ky.size ≤ 100
    · have HF := Lib.hid (show fewB dn ky = true by unfold fewB; rw [decide_eq_true h1, decide_eq_true h2]; rfl)
      have h2i : (ky.size : Int) ≤ 100 := by omega
      clear h1 h2
      go_enter Try.func14, Try.ntmps14
      go_wp2_with fail
      go_ret
      rw [HF.out]; exact ⟨rfl, HB.out⟩
    · have HF := Lib.hid (show fewB dn ky = false by unfold fewB; rw [decide_eq_false h2, Bool.and_false])
      have h2i : (100 : Int) < (ky.size : Int) := by omega
      clear h1 h2
      go_enter Try.func14, Try.ntmps14
      go_wp2_with fail
      go_ret
      rw [HF.out]; exact ⟨by simp; omega, HB.out⟩
  · have HF := Lib.hid (show fewB dn ky = false by unfold fewB; rw [decide_eq_false h1]; rfl)
    have h1i : (3000 : Int) < (dn : Int) := by omega
    clear h1
    go_enter Try.func14, Try.ntmps14
    go_wp2_with fail
    go_ret
    rw [HF.out]; exact ⟨rfl, HB.out⟩
/-- the series --/
theorem pow_step (wt : Int) (f : Nat) : wt * 2 ^ (f + 1) = 2 * (wt * 2 ^ f) := by rw [Int.pow_succ, ← Int.mul_assoc, Int.mul_comm]
theorem pow_in {wt : Int} (h0 : 0 ≤ wt) (h1 : wt ≤ 20) : ∀ (f n : Nat), f ≤ n → wt ≤ wt * 2 ^ f ∧ wt * 2 ^ f ≤ wt * 2 ^ n := by
  have hstep : ∀ f : Nat, 0 ≤ wt * 2 ^ f := fun f => Int.mul_nonneg h0 (Int.pow_nonneg (by omega))
  have hup : ∀ f n : Nat, f ≤ n → wt * 2 ^ f ≤ wt * 2 ^ n := by
    intro f n h
    induction h with
    | refl => exact Int.le_refl _
    | step _ ih => rw [pow_step]; have := hstep f; omega
  intro f n h
  refine ⟨?_, hup f n h⟩
  have := hup 0 f (Nat.zero_le _)
  simpa using this
theorem pow_8 {wt : Int} (h0 : 0 ≤ wt) (h1 : wt ≤ 20) {f : Nat} (h : f ≤ 8) : wt ≤ wt * 2 ^ f ∧ wt * 2 ^ f ≤ 5120 := by
  have := pow_in h0 h1 f 8 h
  exact ⟨this.1, by have := this.2; omega⟩
theorem pow_7 {wt : Int} (h0 : 0 ≤ wt) (h1 : wt ≤ 20) {f : Nat} (h : f ≤ 7) : wt ≤ wt * 2 ^ f ∧ wt * 2 ^ f ≤ 2560 := by
  have := pow_in h0 h1 f 7 h
  exact ⟨this.1, by have := this.2; omega⟩
theorem Below.setRow_new {B : Nat} {a w : World} (h : Below B a w) {g : Nat} (hg : B ≤ g) (cs : Array Value) : Below B a (w.setRow g cs) :=
  h.trans ⟨rfl, rfl, rfl, by simp, fun k hk => setRow_other w g k cs (by omega)⟩
/-- what was told last: a call, or none -/
def callA (ky : ByteArray) : Bool → Array Value
  | true => #[.int .i64 7, .string ky, .slice none 0 0, .int .i64 0, .int .i64 0, .int .i64 0, .int .i64 0]
  | false => #[.int .i64 0, .string { data := #[] }, .slice none 0 0, .int .i64 0, .int .i64 0, .int .i64 0, .int .i64 0]
/-- how it stands: failed so often; the call was told; it may be over -/
def Stands (w : World) (B : Nat) (ky : ByteArray) (da' : Option Addr) (dn dc' : Nat) (sz pt tr wt : Int) (f : Nat) (told : Bool) : Prop :=
  ((f : Int) < tr ∧ w.heap[B]? = some (.cells (upA ky da' dn dc' sz pt tr wt f (wt * 2 ^ f - wt) told 0 0) 75 (0, 0))) ∨ (told = false ∧ (f : Int) = tr ∧ ∃ rd, w.heap[B]? = some (.cells (upA ky da' dn dc' sz pt tr wt f rd false 5 2) 75 (0, 0)))

set_option maxRecDepth 100000 in
set_option maxHeartbeats 8000000 in
theorem upload_paces (ky : ByteArray) (da : Option Addr) (dn dc : Nat) (xs : List Nat) (pc tr wt : Int) (w : World) (hk : ky.size ≤ 140737488355328) (hby : BytesAt w da dn dc xs) :
    Calls Try.prog 7 #[.agg #[.string ky, .slice da dn dc, .int .i64 pc, .int .i64 tr, .int .i64 wt]] w fun e w' => e = .returned (.bool true) ∧ Below w.heap.size w w' := by
  obtain ⟨w1, hw1⟩ : ∃ w1, w1 = w.alloc (.cells #[.string ky, .slice da dn dc, .int .i64 pc, .int .i64 tr, .int .i64 wt] 41) := ⟨_, rfl⟩
  have s1 : w.heap.size < w1.heap.size := by rw [hw1]; exact (Array.getElem?_eq_some_iff.1 (heap_alloc_new w _)).1
  have hb1 : Below w.heap.size w w1 := by rw [hw1]; exact (Below.refl _ _).alloc (Nat.le_refl _) _
  have hbox : ∀ (wr : World), Below w1.heap.size w1 wr → wr.cell? ⟨w.heap.size, 0, none⟩ = some (.string ky) ∧ wr.cell? ⟨w.heap.size, 1, none⟩ = some (.slice da dn dc) ∧ wr.cell? ⟨w.heap.size, 2, none⟩ = some (.int .i64 pc) ∧ wr.cell? ⟨w.heap.size, 3, none⟩ = some (.int .i64 tr) ∧ wr.cell? ⟨w.heap.size, 4, none⟩ = some (.int .i64 wt) := by
    intro wr hb
    rw [hw1] at hb
    exact ⟨box_cell hb rfl, box_cell hb rfl, box_cell hb rfl, box_cell hb rfl, box_cell hb rfl⟩
  have hdm : dn ≤ 140737488355328 := by have := hby.reach; omega
  have HBY := Lib.hid (hby.kept hb1)
  have HBOX := Lib.hid hbox
  have HB1 := Lib.hid hb1
  have HW1 := Lib.hid hw1
  clear hby hb1 hbox hw1
  cases hfw : fewB dn ky with
  | false =>
    have HFW := Lib.hid hfw
    clear hfw
    go_enter Try.func7, Try.ntmps7
    go_wp2_with fail
    rw [← HW1.out]
    refine (lives17_any w1).mono ?_
    rintro e w2 ⟨rfl, hb2⟩
    obtain ⟨b0, b1, b2, b3, b4⟩ := HBOX.out w2 hb2
    have HB2 := Lib.hid hb2
    clear hb2
    go_wp2_with fail
    refine (few17_any hk hdm).mono ?_
    rw [HFW.out]
    rintro e w3 ⟨rfl, hb3⟩
    have HB3 := Lib.hid (HB2.out.trans (hb3.mono HB2.out.size))
    clear hb3
    go_wp2_with fail
    refine (lives17_any w3).mono ?_
    rintro e w4 ⟨rfl, hb4⟩
    have HB4 := Lib.hid ((HB1.out.trans (HB3.out.mono HB1.out.size)).trans (hb4.mono (Nat.le_trans HB1.out.size HB3.out.size)))
    clear hb4
    go_wp2_with fail
    go_ret
    exact ⟨rfl, HB4.out⟩
  | true =>
    have HFW := Lib.hid hfw
    have hdn : dn ≤ 3000 := by unfold fewB at hfw; rw [Bool.and_eq_true, decide_eq_true_eq] at hfw; exact hfw.1
    clear hfw
    by_cases hw20 : 20 < wt
    · go_enter Try.func7, Try.ntmps7
      go_wp2_with fail
      rw [← HW1.out]
      refine (lives17_any w1).mono ?_
      rintro e w2 ⟨rfl, hb2⟩
      obtain ⟨b0, b1, b2, b3, b4⟩ := HBOX.out w2 hb2
      have HB2 := Lib.hid hb2
      clear hb2
      go_wp2_with fail
      refine (few17_any hk hdm).mono ?_
      rw [HFW.out]
      rintro e w3 ⟨rfl, hb3⟩
      have hb3' := HB2.out.trans (hb3.mono HB2.out.size)
      clear b0 b1 b2 b3 b4
      obtain ⟨b0, b1, b2, b3, b4⟩ := HBOX.out w3 hb3'
      have HB3 := Lib.hid hb3'
      clear hb3 hb3'
      go_wp2_with fail
      refine (lives17_any w3).mono ?_
      rintro e w4 ⟨rfl, hb4⟩
      have HB4 := Lib.hid ((HB1.out.trans (HB3.out.mono HB1.out.size)).trans (hb4.mono (Nat.le_trans HB1.out.size HB3.out.size)))
      clear hb4
      go_wp2_with fail
      go_ret
      exact ⟨rfl, HB4.out⟩
    · have hw20i : wt ≤ 20 := by omega
      clear hw20
      by_cases hmk : 1 ≤ pc ∧ pc ≤ 262144 ∧ fitsB tr wt = true
      case neg =>
        have HNO := Lib.hid (fun w' => new_no (w := w') (ky := ky) (da := da) (dc := dc) hdn hmk)
        clear hmk
        go_enter Try.func7, Try.ntmps7
        go_wp2_with fail
        rw [← HW1.out]
        refine (lives17_any w1).mono ?_
        rintro e w2 ⟨rfl, hb2⟩
        obtain ⟨b0, b1, b2, b3, b4⟩ := HBOX.out w2 hb2
        have HB2 := Lib.hid hb2
        clear hb2
        go_wp2_with fail
        refine (few17_any hk hdm).mono ?_
        rw [HFW.out]
        rintro e w3 ⟨rfl, hb3⟩
        have hb3' := HB2.out.trans (hb3.mono HB2.out.size)
        clear b0 b1 b2 b3 b4
        obtain ⟨b0, b1, b2, b3, b4⟩ := HBOX.out w3 hb3'
        have HB3 := Lib.hid hb3'
        clear hb3 hb3'
        go_wp2_with fail
        refine (HNO.out w3).mono ?_
        rintro e w4 ⟨rfl, rfl⟩
        have HB4 := Lib.hid (HB1.out.trans (HB3.out.mono HB1.out.size))
        go_wp2_with fail
        go_ret
        exact ⟨rfl, HB4.out⟩
      case pos =>
        obtain ⟨hp1, hp2, hfit⟩ := hmk
        obtain ⟨ht1, ht8, hw0, _⟩ : 1 ≤ tr ∧ tr ≤ 8 ∧ 0 ≤ wt ∧ wt ≤ 1099511627776 := by unfold fitsB at hfit; exact of_decide_eq_true hfit
        have HFIT := Lib.hid hfit
        clear hfit
        go_enter Try.func7, Try.ntmps7
        go_wp2_with fail
        rw [← HW1.out]
        refine (lives17_any w1).mono ?_
        rintro e w2 ⟨rfl, hb2⟩
        obtain ⟨b0, b1, b2, b3, b4⟩ := HBOX.out w2 hb2
        have HB2 := Lib.hid hb2
        clear hb2
        go_wp2_with fail
        refine (few17_any hk hdm).mono ?_
        rw [HFW.out]
        rintro e w3 ⟨rfl, hb3⟩
        have hb3' := HB2.out.trans (hb3.mono HB2.out.size)
        clear b0 b1 b2 b3 b4
        obtain ⟨b0, b1, b2, b3, b4⟩ := HBOX.out w3 hb3'
        have HB3 := Lib.hid hb3'
        have HBY3 := Lib.hid (HBY.out.kept hb3')
        clear hb3 hb3'
        go_wp2_with fail
        refine (new_yes HBY3.out hdn hp1 hp2 HFIT.out).mono ?_
        rintro e w4 ⟨B, da', dc', sz, pt, rfl, hg, hB, hb4⟩
        have hB1 : w1.heap.size ≤ B := Nat.le_trans HB3.out.size hB
        have hb4' := HB3.out.trans (hb4.mono HB3.out.size)
        clear b0 b1 b2 b3 b4
        obtain ⟨b0, b1, b2, b3, b4⟩ := HBOX.out w4 hb4'
        have HB4 := Lib.hid hb4'
        have HG := Lib.hid hg
        have HBB := Lib.hid hB1
        clear hg hB hb4 hb4' hB1
        go_wp2_with fail
        go_region
        go_wp2_with fail
        go_loopw [4, 5, 6, 38] (fun s4 s5 s6 s38 wr => ∃ (i f : Nat) (due q : Int), i ≤ 3000 ∧ s38 = .int .i64 (i : Int) ∧ s6 = .int .i64 (f : Int) ∧ s4 = .int .i64 due ∧ s5 = .int .i64 q ∧ (f : Int) ≤ tr ∧ Hid (Below w1.heap.size w1 wr) ∧ Hid (Stands wr B ky da' dn dc' sz pt tr wt f false) ∧ Hid ((f : Int) < tr → q = wt * 2 ^ f ∧ due = q - wt ∧ (i : Int) ≤ due)) (fun _ _ _ s38 _ => 3000 - (intOf s38).toNat)
        case atStart => exact ⟨0, 0, 0, wt, by omega, rfl, rfl, rfl, rfl, by omega, Lib.hid HB4.out.drew, Lib.hid (.inl ⟨by omega, by rw [show wt * 2 ^ 0 - wt = 0 by rw [Int.pow_zero, Int.mul_one, Int.sub_self]]; exact HG.out⟩), Lib.hid (fun _ => ⟨by rw [Int.pow_zero, Int.mul_one], by omega, by omega⟩)⟩
        case round =>
          clear b0 b1 b2 b3 b4
          obtain ⟨i, f, due, q, hi, rfl, rfl, rfl, rfl, hft, HBW, HST, HQ⟩ := hrel
          rename World => wr
          by_cases hi3 : i < 3000
          · have hi3i : (i : Int) < 3000 := by omega
            rcases HST.out with ⟨hlt, hg⟩ | ⟨_, hf2, rd, hg⟩
            case inr =>
              have zt : ((f : Int) == tr) = true := by rw [beq_iff_eq]; exact hf2
              have HSA := Lib.hid (state_any hg)
              obtain ⟨b0, b1, b2, b3, b4⟩ := HBOX.out wr HBW.out
              have HBF := Lib.hid (HB1.out.trans (HBW.out.mono HB1.out.size))
              have z20 : ((2 : Int) != 0) = true := by decide
              clear hg hf2
              go_wp2_with fail
              refine HSA.out.mono ?_
              rintro e w6 ⟨rfl, rfl⟩
              go_wp2_with fail
              refine HSA.out.mono ?_
              rintro e w7 ⟨rfl, rfl⟩
              go_wp2_with fail
              go_ret
              exact ⟨by simp, HBF.out⟩
            case inl =>
              obtain ⟨hq, hd, hid⟩ := HQ.out hlt
              have hp := pow_7 hw0 hw20i (f := f) (by omega)
              rw [← hq] at hp
              obtain ⟨hp1, hp2⟩ := hp
              have HSA := Lib.hid (state_any hg)
              have z00 : ((0 : Int) != 0) = false := by decide
              have HQE := Lib.hid hq
              by_cases hnow : due ≤ (i : Int)
              case neg =>
                have HN := Lib.hid (next_wait (now := (i : Int)) hg (by rw [← hq]; omega))
                have hidlt : (i : Int) + 1 ≤ due := by omega
                have HD := Lib.hid (And.intro hd hidlt)
                clear hg hq hd hidlt hnow
                go_wp2_with fail
                refine HSA.out.mono ?_
                rintro e w6 ⟨rfl, rfl⟩
                go_wp2_with fail
                refine HN.out.mono ?_
                rintro e w7 ⟨rfl, hg7, ht7⟩
                have hb7 := ht7.old HBW.out HBB.out HBW.out.size
                have hal : Below w7.heap.size w7 (w7.alloc (.cells #[.int .i64 0, .string { data := #[] }, .slice none 0 0, .int .i64 0, .int .i64 0, .int .i64 0, .int .i64 0] 30)) := (Below.refl _ _).alloc (Nat.le_refl _) _
                have HB8 := Lib.hid (hb7.alloc hb7.size (.cells #[.int .i64 0, .string { data := #[] }, .slice none 0 0, .int .i64 0, .int .i64 0, .int .i64 0, .int .i64 0] 30))
                have HS8 := Lib.hid (show Stands (w7.alloc (.cells #[.int .i64 0, .string { data := #[] }, .slice none 0 0, .int .i64 0, .int .i64 0, .int .i64 0, .int .i64 0] 30)) B ky da' dn dc' sz pt tr wt f false from .inl ⟨hlt, (hal.block B (Array.getElem?_eq_some_iff.1 hg7).1).trans hg7⟩)
                clear hg7 ht7 hb7 hal
                go_wp2_with fail
                go_loopw [4, 5, 6, 9] (fun s4 s5 s6 s9 wq => s4 = .int .i64 due ∧ s5 = .int .i64 q ∧ s6 = .int .i64 (f : Int) ∧ s9 = .bool false ∧ wq = w7.alloc (.cells #[.int .i64 0, .string { data := #[] }, .slice none 0 0, .int .i64 0, .int .i64 0, .int .i64 0, .int .i64 0] 30)) (fun _ _ _ _ _ => 0)
                case atStart => exact ⟨rfl, rfl, rfl, rfl, rfl⟩
                case round =>
                  obtain ⟨rfl, rfl, rfl, rfl, rfl⟩ := hrel
                  go_wp2_with fail
                  go_roundw
                  case rel => exact ⟨i + 1, f, due, q, by omega, by go_num, rfl, rfl, rfl, hft, HB8, HS8, Lib.hid (fun _ => ⟨HQE.out, HD.out.1, by have := HD.out.2; omega⟩)⟩
                  case measure => simp [intOf]; omega
              case pos =>
                have hdi : due = (i : Int) := by omega
                have HN := Lib.hid (next_yes (now := (i : Int)) hg (by rw [← hq]; omega))
                have HD := Lib.hid (And.intro hd hdi)
                clear hg hq hd hdi hnow
                go_wp2_with fail
                refine HSA.out.mono ?_
                rintro e w6 ⟨rfl, rfl⟩
                go_wp2_with fail
                refine HN.out.mono ?_
                rintro e w7 ⟨rfl, hg7, ht7⟩
                have hb7 := ht7.old HBW.out HBB.out HBW.out.size
                obtain ⟨w8, hw8⟩ : ∃ w8, w8 = w7.alloc (.cells #[.int .i64 7, .string ky, .slice none 0 0, .int .i64 0, .int .i64 0, .int .i64 0, .int .i64 0] 30) := ⟨_, rfl⟩
                obtain ⟨cb, hcb⟩ : ∃ cb, cb = w7.heap.size := ⟨_, rfl⟩
                have hal : Below w7.heap.size w7 w8 := by rw [hw8]; exact (Below.refl _ _).alloc (Nat.le_refl _) _
                have hg8 : w8.heap[B]? = some (.cells (upA ky da' dn dc' sz pt tr wt (f : Int) (wt * 2 ^ f - wt) true 0 0) 75 (0, 0)) := (hal.block B (Array.getElem?_eq_some_iff.1 hg7).1).trans hg7
                have hc8 : w8.heap[cb]? = some (.cells (callA ky true) 30 (0, 0)) := by rw [hw8, hcb]; exact heap_alloc_new w7 _
                have HCN := Lib.hid (show cb ≠ B ∧ w1.heap.size ≤ cb from ⟨by have := (Array.getElem?_eq_some_iff.1 hg7).1; omega, by rw [hcb]; exact hb7.size⟩)
                have HB8 := Lib.hid (hb7.trans (hal.mono hb7.size))
                have HS8 := Lib.hid (show Stands w8 B ky da' dn dc' sz pt tr wt f true from .inl ⟨hlt, hg8⟩)
                have HC8 := Lib.hid hc8
                have HW8 := Lib.hid hw8
                have HCB := Lib.hid hcb
                clear hg7 ht7 hb7 hal hg8 hc8 hw8 hcb
                go_wp2_with fail
                rw [← HW8.out, ← HCB.out]
                go_loopw [4, 5, 6, 9] (fun s4 s5 s6 s9 wq => ∃ (g : Nat) (du p : Int) (b : Bool), s6 = .int .i64 (g : Int) ∧ s4 = .int .i64 du ∧ s5 = .int .i64 p ∧ s9 = .bool b ∧ (g : Int) ≤ tr ∧ Hid (Below w1.heap.size w1 wq) ∧ Hid (wq.heap[cb]? = some (.cells (callA ky b) 30 (0, 0))) ∧ Hid (Stands wq B ky da' dn dc' sz pt tr wt g b) ∧ Hid ((g : Int) < tr → p = wt * 2 ^ g ∧ du = p - wt ∧ (b = true → du = (i : Int)) ∧ (b = false → (i : Int) + 1 ≤ du)) ∧ Hid (b = true → (g : Int) < tr)) (fun _ _ s6 _ _ => 9 - (intOf s6).toNat)
                case atStart => exact ⟨f, due, q, true, rfl, rfl, rfl, rfl, hft, HB8, HC8, HS8, Lib.hid (fun _ => ⟨HQE.out, HD.out.1, fun _ => HD.out.2, fun h => by cases h⟩), Lib.hid (fun _ => hlt)⟩
                case round =>
                  clear hi3i z00
                  obtain ⟨g, du, p, b, rfl, rfl, rfl, rfl, hgt, HBQ, HCQ, HSQ, HQQ, HBT⟩ := hrel
                  rename World => wq
                  cases b with
                  | false =>
                    go_wp2_with fail
                    go_roundw
                    case rel => exact ⟨i + 1, g, du, p, by omega, by go_num, rfl, rfl, rfl, hgt, HBQ, HSQ, Lib.hid (fun h => ⟨(HQQ.out h).1, (HQQ.out h).2.1, by have := (HQQ.out h).2.2.2 rfl; omega⟩)⟩
                    case measure => simp [intOf]; omega
                  | true =>
                    have hlg := HBT.out rfl
                    rcases HSQ.out with ⟨_, hgq⟩ | ⟨hno, _⟩
                    case inr => cases hno
                    obtain ⟨hpq, hdp, hdui, _⟩ := HQQ.out hlg
                    have hdu := hdui rfl
                    have hpp := pow_7 hw0 hw20i (f := g) (by omega)
                    rw [← hpq] at hpp
                    obtain ⟨hpp1, hpp2⟩ := hpp
                    have ck := cell_blk HCQ.out (i := 0) (u := .int .i64 7) rfl
                    have zn : ((i : Int) != du) = false := by rw [hdu]; simp
                    have z77 : ((7 : Int) != 7) = false := by decide
                    have hcblt := (Array.getElem?_eq_some_iff.1 HCQ.out).1
                    have HPQ := Lib.hid (And.intro hpq (And.intro hdp hdu))
                    have hi3i : (i : Int) < 3000 := by omega
                    have hg7 : g ≤ 7 := by omega
                    by_cases hmore : (g : Int) + 1 < tr
                    · have HTK := Lib.hid (take_more (now := (i : Int)) hgq (by omega) ⟨hw0, by omega⟩ ⟨by omega, by omega⟩ hmore)
                      clear hgq hpq hdp hdui
                      go_wp2_with fail
                      refine HTK.out.mono ?_
                      rintro e w9 ⟨⟨vv, rfl⟩, hg9, ht9⟩
                      have hg9' : w9.heap[B]? = some (.cells (upA ky da' dn dc' sz pt tr wt ((g + 1 : Nat) : Int) (wt * 2 ^ (g + 1) - wt) false 0 0) 75 (0, 0)) := by
                        rw [hg9, pow_step, show (i : Int) + wt * 2 ^ g = 2 * (wt * 2 ^ g) - wt from by have := HPQ.out; omega]; rfl
                      have hc9 := (ht9.block cb hcblt HCN.out.1).trans HCQ.out
                      have hb9 := ht9.old HBQ.out HBB.out HBQ.out.size
                      have hcl9 := (Array.getElem?_eq_some_iff.1 hc9).1
                      by_cases hz : wt * 2 ^ (g + 1) - wt ≤ (i : Int)
                      · have HNX := Lib.hid (next_yes (now := (i : Int)) hg9' hz)
                        have HZ := Lib.hid hz
                        clear hg9 hg9' ht9 hz
                        go_wp2_with fail
                        refine HNX.out.mono ?_
                        rintro e wA ⟨rfl, hgA, htA⟩
                        have hcA := (htA.block cb hcl9 HCN.out.1).trans hc9
                        have HCA := Lib.hid hcA
                        have HBA := Lib.hid (Below.setRow_new (htA.old hb9 HBB.out hb9.size) HCN.out.2 #[.int .i64 7, .string ky, .slice none 0 0, .int .i64 0, .int .i64 0, .int .i64 0, .int .i64 0])
                        have HSA2 := Lib.hid (show Stands (wA.setRow cb #[.int .i64 7, .string ky, .slice none 0 0, .int .i64 0, .int .i64 0, .int .i64 0, .int .i64 0]) B ky da' dn dc' sz pt tr wt (g + 1) true from .inl ⟨by omega, (setRow_other wA cb B #[.int .i64 7, .string ky, .slice none 0 0, .int .i64 0, .int .i64 0, .int .i64 0, .int .i64 0] (fun e => HCN.out.1 e.symm)).trans hgA⟩)
                        have HCC := Lib.hid (show (wA.setRow cb #[.int .i64 7, .string ky, .slice none 0 0, .int .i64 0, .int .i64 0, .int .i64 0, .int .i64 0]).heap[cb]? = some (.cells (callA ky true) 30 (0, 0)) from setRow_heap wA cb _ _ _ (0, 0) hcA)
                        clear hgA htA hcA
                        go_wp2_with (refine wpList_store_row rfl 30 (.tmp 8) (.tmp 74) rfl cb #[.int .i64 7, .string ky, .slice none 0 0, .int .i64 0, .int .i64 0, .int .i64 0, .int .i64 0] rfl rfl 30 _ HCA.out (by kernel_rfl) (by rfl) (by simp [Value.oneCell']) ?_)
                        go_roundw
                        case rel => exact ⟨g + 1, _, _, true, by go_num, rfl, rfl, rfl, by omega, HBA, HCC, HSA2, Lib.hid (fun _ => ⟨by rw [pow_step]; have := HPQ.out.1; omega, by have := HPQ.out; omega, fun _ => by have h1 := HPQ.out; have h2 := HZ.out; rw [pow_step] at h2; omega, fun h => by cases h⟩), Lib.hid (fun _ => by omega)⟩
                        case measure => simp [intOf]; omega
                      · have HNX := Lib.hid (next_wait (now := (i : Int)) hg9' (by omega))
                        have HZ := Lib.hid hz
                        clear hg9 hg9' ht9 hz
                        go_wp2_with fail
                        refine HNX.out.mono ?_
                        rintro e wA ⟨rfl, hgA, htA⟩
                        have hcA := (htA.block cb hcl9 HCN.out.1).trans hc9
                        have HCA := Lib.hid hcA
                        have HBA := Lib.hid (Below.setRow_new (htA.old hb9 HBB.out hb9.size) HCN.out.2 #[.int .i64 0, .string { data := #[] }, .slice none 0 0, .int .i64 0, .int .i64 0, .int .i64 0, .int .i64 0])
                        have HSA2 := Lib.hid (show Stands (wA.setRow cb #[.int .i64 0, .string { data := #[] }, .slice none 0 0, .int .i64 0, .int .i64 0, .int .i64 0, .int .i64 0]) B ky da' dn dc' sz pt tr wt (g + 1) false from .inl ⟨by omega, (setRow_other wA cb B #[.int .i64 0, .string { data := #[] }, .slice none 0 0, .int .i64 0, .int .i64 0, .int .i64 0, .int .i64 0] (fun e => HCN.out.1 e.symm)).trans hgA⟩)
                        have HCC := Lib.hid (show (wA.setRow cb #[.int .i64 0, .string { data := #[] }, .slice none 0 0, .int .i64 0, .int .i64 0, .int .i64 0, .int .i64 0]).heap[cb]? = some (.cells (callA ky false) 30 (0, 0)) from setRow_heap wA cb _ _ _ (0, 0) hcA)
                        clear hgA htA hcA
                        go_wp2_with (refine wpList_store_row rfl 30 (.tmp 8) (.tmp 74) rfl cb #[.int .i64 0, .string { data := #[] }, .slice none 0 0, .int .i64 0, .int .i64 0, .int .i64 0, .int .i64 0] rfl rfl 30 _ HCA.out (by kernel_rfl) (by rfl) (by simp [Value.oneCell']) ?_)
                        go_roundw
                        case rel => exact ⟨g + 1, _, _, false, by go_num, rfl, rfl, rfl, by omega, HBA, HCC, HSA2, Lib.hid (fun _ => ⟨by rw [pow_step]; have := HPQ.out.1; omega, by have := HPQ.out; omega, (fun h => by cases h), fun _ => by have h1 := HPQ.out; have h2 := HZ.out; rw [pow_step] at h2; omega⟩), Lib.hid (fun h => by cases h)⟩
                        case measure => simp [intOf]; omega
                    · have htr : ((g + 1 : Nat) : Int) = tr := by omega
                      have HTK := Lib.hid (take_last (now := (i : Int)) hgq (by omega) (by omega))
                      clear hgq hpq hdp hdui hmore
                      go_wp2_with fail
                      refine HTK.out.mono ?_
                      rintro e w9 ⟨⟨vv, rfl⟩, hg9, ht9⟩
                      have hc9 := (ht9.block cb hcblt HCN.out.1).trans HCQ.out
                      have hb9 := ht9.old HBQ.out HBB.out HBQ.out.size
                      have hcl9 := (Array.getElem?_eq_some_iff.1 hc9).1
                      have HNX := Lib.hid (next_over (now := (i : Int)) hg9)
                      clear hg9 ht9
                      go_wp2_with fail
                      refine HNX.out.mono ?_
                      rintro e wA ⟨rfl, hgA, htA⟩
                      have hcA := (htA.block cb hcl9 HCN.out.1).trans hc9
                      have HCA := Lib.hid hcA
                      have HBA := Lib.hid (Below.setRow_new (htA.old hb9 HBB.out hb9.size) HCN.out.2 #[.int .i64 0, .string { data := #[] }, .slice none 0 0, .int .i64 0, .int .i64 0, .int .i64 0, .int .i64 0])
                      have HSA2 := Lib.hid (show Stands (wA.setRow cb #[.int .i64 0, .string { data := #[] }, .slice none 0 0, .int .i64 0, .int .i64 0, .int .i64 0, .int .i64 0]) B ky da' dn dc' sz pt tr wt (g + 1) false from .inr ⟨rfl, htr, _, (setRow_other wA cb B #[.int .i64 0, .string { data := #[] }, .slice none 0 0, .int .i64 0, .int .i64 0, .int .i64 0, .int .i64 0] (fun e => HCN.out.1 e.symm)).trans hgA⟩)
                      have HCC := Lib.hid (show (wA.setRow cb #[.int .i64 0, .string { data := #[] }, .slice none 0 0, .int .i64 0, .int .i64 0, .int .i64 0, .int .i64 0]).heap[cb]? = some (.cells (callA ky false) 30 (0, 0)) from setRow_heap wA cb _ _ _ (0, 0) hcA)
                      clear hgA htA hcA
                      go_wp2_with (refine wpList_store_row rfl 30 (.tmp 8) (.tmp 74) rfl cb #[.int .i64 0, .string { data := #[] }, .slice none 0 0, .int .i64 0, .int .i64 0, .int .i64 0, .int .i64 0] rfl rfl 30 _ HCA.out (by kernel_rfl) (by rfl) (by simp [Value.oneCell']) ?_)
                      go_roundw
                      case rel => exact ⟨g + 1, _, _, false, by go_num, rfl, rfl, rfl, by omega, HBA, HCC, HSA2, Lib.hid (fun h => absurd h (by omega)), Lib.hid (fun h => by cases h)⟩
                      case measure => simp [intOf]; omega
          · obtain rfl : i = 3000 := by omega
            rcases HST.out with ⟨hlt, hg⟩ | ⟨_, hf2, rd, hg⟩
            case inl =>
              obtain ⟨hq, hd, hid⟩ := HQ.out hlt
              have hp := pow_7 hw0 hw20i (f := f) (by omega)
              rw [← hq] at hp
              omega
            case inr =>
              have zt : ((f : Int) == tr) = true := by rw [beq_iff_eq]; exact hf2
              have HSA := Lib.hid (state_any hg)
              obtain ⟨b0, b1, b2, b3, b4⟩ := HBOX.out wr HBW.out
              have HBF := Lib.hid (HB1.out.trans (HBW.out.mono HB1.out.size))
              have z20 : ((2 : Int) != 0) = true := by decide
              clear hg hf2
              clear hi3
              go_wp2_with fail
              refine HSA.out.mono ?_
              rintro e w7 ⟨rfl, rfl⟩
              go_wp2_with fail
              go_ret
              exact ⟨by simp, HBF.out⟩
end Go.Proofs.Ytodoklnohedolaa
end PkUD4_8
section PkUD4_9
/- The law UploadDone, walked. Written by genudone.py. -/
namespace Go.Proofs.Ytodoklnohedolaa
open Go.RowKit
set_option linter.unusedVariables false

/-- the fates, wherever they lie -/
theorem fates_at {w : World} {fa : Option Addr} {fn fc : Nat} {zs : List Int} (h : IsRow .i64 8 w fa fn fc zs) {w' : World} (hb : Below w.heap.size w w') : ∀ i, i < fn → ∃ b off f, fa = some ⟨b, off, none⟩ ∧ w'.cell? ⟨b, off + i, none⟩ = some (.int .i64 f) := by
  intro i hi
  rcases h with ⟨_, rfl, _⟩ | ⟨x, rfl, hl, hm, hz, hcell, _, _⟩
  · omega
  · obtain ⟨b, off, spot⟩ := x
    have hc := hcell 0 (by omega)
    have hspot : spot = none := by simpa [Addr.add] using World.cell?_spot hc
    subst hspot
    have hlt : b < w.heap.size := by have := World.block_lt_of_cell? w _ hc; simpa [Addr.add] using this
    have h1 := hcell i (by omega)
    have h4 : (⟨b, off, none⟩ : Addr).add i = ⟨b, off + i, none⟩ := by unfold Addr.add; split <;> simp_all
    rw [h4] at h1
    exact ⟨b, off, _, rfl, (hb.cell (p := ⟨b, off + i, none⟩) hlt).trans h1⟩
/-- an upload that is new, over a new store -/
theorem runW_new {w1 w4 : World} {B : Nat} {ky : ByteArray} {da' : Option Addr} {dn dc' : Nat} {xs : List Nat} {s P T W : Nat} (hg : UAt w4 B ⟨ky, da', dn, dc', (s : Int), (P : Int), 1, (T : Int), (W : Int), 0, 0, false, 0, 0, false, false, 0, 0⟩) (ho : ∀ b off x, da' = some ⟨b, off, x⟩ → b < w4.heap.size) (hb : BytesAt w4 da' dn dc' xs) (hB : w1.heap.size ≤ B) (hbe : Below w1.heap.size w1 w4) (hP : 1 ≤ P) (hT : 1 ≤ T) :
    RunW w1 w1.heap.size B w4.heap.size w4.heap.size ky da' dn dc' s P T W xs 0 0 dstoN ⟨ky, da', dn, dc', (s : Int), (P : Int), 1, (T : Int), (W : Int), 0, 0, false, 0, 0, false, false, 0, 0⟩ (w4.alloc (.cells #[.slice none 0 0, .slice none 0 0, .int .i64 0, .int .i64 0, .int .i64 0] 50)) := by
  have hal : Below w4.heap.size w4 (w4.alloc (.cells #[.slice none 0 0, .slice none 0 0, .int .i64 0, .int .i64 0, .int .i64 0] 50)) := (Below.refl _ _).alloc (Nat.le_refl _) _
  refine ⟨hg.below hal, dstN_new (heap_alloc_new w4 _), runS_new _ _ _ _ rfl rfl rfl rfl, ⟨⟨rfl, rfl, rfl, rfl, rfl, rfl, rfl, rfl⟩, by simp, ⟨by show (1 : Int) ≤ 1; omega, by show (1 : Int) ≤ (P : Int) + 1; omega, fun _ => by show (1 : Int) ≤ (P : Int); omega⟩, ⟨Nat.zero_le _, fun _ => hT⟩, ?_, ?_, rfl, ⟨(fun h => by simp at h), fun _ => rfl⟩, (fun h => by simp at h), fun _ => rfl⟩, hb.kept hal, rfl, Nat.zero_le _, hbe.trans (hal.mono hbe.size), ⟨hB, hg.lt, Nat.le_refl _, Nat.le_refl _⟩, ho⟩
  · unfold callsOk
    refine ⟨fun _ => Nat.zero_le _, (fun h => by simp at h), (fun h => by simp at h), (fun h => by simp at h), (fun h => by simp at h), (fun h => by simp at h)⟩
  · exact Int.natCast_nonneg _
set_option maxRecDepth 100000 in
set_option maxHeartbeats 8000000 in
theorem upload_done (ky : ByteArray) (da : Option Addr) (dn dc : Nat) (xs : List Nat) (pc tr wt : Int) (fa : Option Addr) (fn fc : Nat) (fz : List Int) (w : World) (hk : ky.size ≤ 140737488355328) (hby : BytesAt w da dn dc xs) (hfz : IsRow .i64 8 w fa fn fc fz) :
    Calls Try.prog 4 #[.agg #[.string ky, .slice da dn dc, .int .i64 pc, .int .i64 tr, .int .i64 wt], .slice fa fn fc] w fun e w' => e = .returned (.bool true) ∧ Below w.heap.size w w' := by
  have HFZ := Lib.hid hfz
  clear hfz
  obtain ⟨w1, hw1⟩ : ∃ w1, w1 = w.alloc (.cells #[.string ky, .slice da dn dc, .int .i64 pc, .int .i64 tr, .int .i64 wt] 41) := ⟨_, rfl⟩
  have hb1 : Below w.heap.size w w1 := by rw [hw1]; exact (Below.refl _ _).alloc (Nat.le_refl _) _
  have hbox : ∀ (wr : World), Below w1.heap.size w1 wr → wr.cell? ⟨w.heap.size, 0, none⟩ = some (.string ky) ∧ wr.cell? ⟨w.heap.size, 1, none⟩ = some (.slice da dn dc) ∧ wr.cell? ⟨w.heap.size, 2, none⟩ = some (.int .i64 pc) ∧ wr.cell? ⟨w.heap.size, 3, none⟩ = some (.int .i64 tr) ∧ wr.cell? ⟨w.heap.size, 4, none⟩ = some (.int .i64 wt) := by
    intro wr hb
    rw [hw1] at hb
    exact ⟨box_cell hb rfl, box_cell hb rfl, box_cell hb rfl, box_cell hb rfl, box_cell hb rfl⟩
  have hdm : dn ≤ 140737488355328 := by have := hby.reach; omega
  have HBY := Lib.hid (hby.kept hb1)
  have HBOX := Lib.hid hbox
  have HB1 := Lib.hid hb1
  have HW1 := Lib.hid hw1
  clear hby hb1 hbox hw1
  cases hfw : fewB dn ky with
  | false =>
    have HFW := Lib.hid hfw
    clear hfw
    go_enter Try.func4, Try.ntmps4
    go_wp2_with fail
    rw [← HW1.out]
    refine (lives17_any w1).mono ?_
    rintro e w2 ⟨rfl, hb2⟩
    obtain ⟨b0, b1, b2, b3, b4⟩ := HBOX.out w2 hb2
    have HB2 := Lib.hid hb2
    clear hb2
    go_wp2_with fail
    refine (few17_any hk hdm).mono ?_
    rw [HFW.out]
    rintro e w3 ⟨rfl, hb3⟩
    have hb3' := HB2.out.trans (hb3.mono HB2.out.size)
    clear b0 b1 b2 b3 b4
    obtain ⟨b0, b1, b2, b3, b4⟩ := HBOX.out w3 hb3'
    have HB3 := Lib.hid hb3'
    have HBY3 := Lib.hid (HBY.out.kept hb3')
    clear hb3 hb3'
    go_wp2_with fail
    refine (lives17_any w3).mono ?_
    rintro e w4 ⟨rfl, hb4⟩
    have HB4 := Lib.hid ((HB1.out.trans (HB3.out.mono HB1.out.size)).trans (hb4.mono (Nat.le_trans HB1.out.size HB3.out.size)))
    clear hb4
    go_wp2_with fail
    go_ret
    exact ⟨rfl, HB4.out⟩
  | true =>
    have HFW := Lib.hid hfw
    have hdn : dn ≤ 3000 := by unfold fewB at hfw; rw [Bool.and_eq_true, decide_eq_true_eq] at hfw; exact hfw.1
    clear hfw
    by_cases hfn : 300 < fn
    · have zfn : (300 : Int) < (fn : Int) := by omega
      go_enter Try.func4, Try.ntmps4
      go_wp2_with fail
      rw [← HW1.out]
      refine (lives17_any w1).mono ?_
      rintro e w2 ⟨rfl, hb2⟩
      obtain ⟨b0, b1, b2, b3, b4⟩ := HBOX.out w2 hb2
      have HB2 := Lib.hid hb2
      clear hb2
      go_wp2_with fail
      refine (few17_any hk hdm).mono ?_
      rw [HFW.out]
      rintro e w3 ⟨rfl, hb3⟩
      have hb3' := HB2.out.trans (hb3.mono HB2.out.size)
      clear b0 b1 b2 b3 b4
      obtain ⟨b0, b1, b2, b3, b4⟩ := HBOX.out w3 hb3'
      have HB3 := Lib.hid hb3'
      have HBY3 := Lib.hid (HBY.out.kept hb3')
      clear hb3 hb3'
      go_wp2_with fail
      refine (lives17_any w3).mono ?_
      rintro e w4 ⟨rfl, hb4⟩
      have HB4 := Lib.hid ((HB1.out.trans (HB3.out.mono HB1.out.size)).trans (hb4.mono (Nat.le_trans HB1.out.size HB3.out.size)))
      clear hb4
      go_wp2_with fail
      go_ret
      exact ⟨rfl, HB4.out⟩
    have zfn : ¬ (300 : Int) < (fn : Int) := by omega
    by_cases hw20 : 3 < wt
    · skip
      go_enter Try.func4, Try.ntmps4
      go_wp2_with fail
      rw [← HW1.out]
      refine (lives17_any w1).mono ?_
      rintro e w2 ⟨rfl, hb2⟩
      obtain ⟨b0, b1, b2, b3, b4⟩ := HBOX.out w2 hb2
      have HB2 := Lib.hid hb2
      clear hb2
      go_wp2_with fail
      refine (few17_any hk hdm).mono ?_
      rw [HFW.out]
      rintro e w3 ⟨rfl, hb3⟩
      have hb3' := HB2.out.trans (hb3.mono HB2.out.size)
      clear b0 b1 b2 b3 b4
      obtain ⟨b0, b1, b2, b3, b4⟩ := HBOX.out w3 hb3'
      have HB3 := Lib.hid hb3'
      have HBY3 := Lib.hid (HBY.out.kept hb3')
      clear hb3 hb3'
      go_wp2_with fail
      refine (lives17_any w3).mono ?_
      rintro e w4 ⟨rfl, hb4⟩
      have HB4 := Lib.hid ((HB1.out.trans (HB3.out.mono HB1.out.size)).trans (hb4.mono (Nat.le_trans HB1.out.size HB3.out.size)))
      clear hb4
      go_wp2_with fail
      go_ret
      exact ⟨rfl, HB4.out⟩
    have hw20i : wt ≤ 3 := by omega
    clear hw20
    by_cases hmk : 1 ≤ pc ∧ pc ≤ 262144 ∧ fitsB tr wt = true
    case neg =>
      have HNO := Lib.hid (fun w' => new_no (w := w') (ky := ky) (da := da) (dc := dc) hdn hmk)
      clear hmk
      go_enter Try.func4, Try.ntmps4
      go_wp2_with fail
      rw [← HW1.out]
      refine (lives17_any w1).mono ?_
      rintro e w2 ⟨rfl, hb2⟩
      obtain ⟨b0, b1, b2, b3, b4⟩ := HBOX.out w2 hb2
      have HB2 := Lib.hid hb2
      clear hb2
      go_wp2_with fail
      refine (few17_any hk hdm).mono ?_
      rw [HFW.out]
      rintro e w3 ⟨rfl, hb3⟩
      have hb3' := HB2.out.trans (hb3.mono HB2.out.size)
      clear b0 b1 b2 b3 b4
      obtain ⟨b0, b1, b2, b3, b4⟩ := HBOX.out w3 hb3'
      have HB3 := Lib.hid hb3'
      have HBY3 := Lib.hid (HBY.out.kept hb3')
      clear hb3 hb3'
      go_wp2_with fail
      refine (HNO.out w3).mono ?_
      rintro e w4 ⟨rfl, rfl⟩
      have HB4 := Lib.hid (HB1.out.trans (HB3.out.mono HB1.out.size))
      go_wp2_with fail
      go_ret
      exact ⟨rfl, HB4.out⟩
    case pos =>
      obtain ⟨hp1, hp2, hfit⟩ := hmk
      obtain ⟨ht1, ht8, hw0, _⟩ : 1 ≤ tr ∧ tr ≤ 8 ∧ 0 ≤ wt ∧ wt ≤ 1099511627776 := by unfold fitsB at hfit; exact of_decide_eq_true hfit
      have HFIT := Lib.hid hfit
      clear hfit
      obtain ⟨p9, rfl⟩ : ∃ p9 : Nat, pc = (p9 : Int) := ⟨pc.toNat, by omega⟩
      obtain ⟨T, rfl⟩ : ∃ T : Nat, tr = (T : Int) := ⟨tr.toNat, by omega⟩
      obtain ⟨W, rfl⟩ : ∃ W : Nat, wt = (W : Int) := ⟨wt.toNat, by omega⟩
      go_enter Try.func4, Try.ntmps4
      go_wp2_with fail
      rw [← HW1.out]
      refine (lives17_any w1).mono ?_
      rintro e w2 ⟨rfl, hb2⟩
      obtain ⟨b0, b1, b2, b3, b4⟩ := HBOX.out w2 hb2
      have HB2 := Lib.hid hb2
      clear hb2
      go_wp2_with fail
      refine (few17_any hk hdm).mono ?_
      rw [HFW.out]
      rintro e w3 ⟨rfl, hb3⟩
      have hb3' := HB2.out.trans (hb3.mono HB2.out.size)
      clear b0 b1 b2 b3 b4
      obtain ⟨b0, b1, b2, b3, b4⟩ := HBOX.out w3 hb3'
      have HB3 := Lib.hid hb3'
      have HBY3 := Lib.hid (HBY.out.kept hb3')
      clear hb3 hb3'
      go_wp2_with fail
      refine (unew_any HBY3.out hdn (by omega) (by omega) HFIT.out).mono ?_
      rintro e w4 ⟨B, da', dc', rfl, hg, how, hb9, hB, hbn, hb4⟩
      have hB1 : w1.heap.size ≤ B := Nat.le_trans HB3.out.size hB
      have hb4' := HB3.out.trans (hb4.mono HB3.out.size)
      have hup := upPt_le (pc := p9) (dn := dn) (by omega) (by omega) hdn
      have hus := upSz_le (pc := p9) (dn := dn) (by omega) (by omega) hdn
      obtain ⟨P, hP9⟩ : ∃ P, P = upPt p9 dn := ⟨_, rfl⟩
      obtain ⟨s, hs9⟩ : ∃ s, s = upSz p9 dn := ⟨_, rfl⟩
      rw [← hP9, ← hs9] at hup
      rw [← hs9] at hus
      rw [← hP9, ← hs9] at hg
      have HRW := Lib.hid (runW_new (w1 := w1) hg (fun b off x e => by
        rcases how.2 with ⟨g0, _⟩ | ⟨g, cap, cur, g1, _, g3, _⟩
        · cases g0; cases e
        · cases g1; cases e; exact (Array.getElem?_eq_some_iff.1 g3).1) hb9 hB1 hb4' hup.1 (by omega))
      have HRUN := Lib.hid (run_walk (fa := fa) (fn := fn) (fc := fc) HRW.out ⟨hup.1, hup.2.1⟩ (by omega) (by omega) hus.2.1 hup.2.2.1 hup.2.2.2 (by omega) (fun w' hb => fates_at HFZ.out (HB1.out.trans (hb.mono HB1.out.size))))
      have HUP := Lib.hid hup
      have hT1 : 1 ≤ T := by omega
      have hT8 : T ≤ 8 := by omega
      have hW3 : W ≤ 3 := by omega
      obtain ⟨S, hS⟩ : ∃ S, S = w4.heap.size := ⟨_, rfl⟩
      obtain ⟨w5, hw5⟩ : ∃ w5, w5 = w4.alloc (.cells #[.slice none 0 0, .slice none 0 0, .int .i64 0, .int .i64 0, .int .i64 0] 50) := ⟨_, rfl⟩
      rw [← hS, ← hw5] at HRUN
      have HW5 := Lib.hid hw5
      have HS := Lib.hid hS
      clear b0 b1 b2 b3 b4 hg how hb9 hB hbn hb4 hB1 hb4' hup hus hP9 hs9 hw5 hS HRW ht1 ht8 hw0 hw20i
      go_upto_region 7 with fail
      rw [← HW5.out, ← HS.out]
      go_wp2_with fail
      refine HRUN.out.mono ?_
      rintro e w6 ⟨n, now, σ, u, rfl, hst, hrw⟩
      have HR := Lib.hid hrw
      have hn37 := run_calls hrw.ru ⟨HUP.out.1, HUP.out.2.1⟩ hT1
      have hov := hrw.ru.over.1 hst
      have HFL := Lib.hid hrw.ru.fail
      have HDN := Lib.hid hrw.ru.done
      have HSA := Lib.hid (fun y (h : Below w6.heap.size w6 y) => ustate_any (hrw.up.below h))
      have HBO := Lib.hid (fun y (h : Below w6.heap.size w6 y) => uborn_any (hrw.up.below h))
      have HAT := Lib.hid (fun y (h : Below w6.heap.size w6 y) => dat_any (hrw.st.below h) ky)
      obtain ⟨b0, b1, b2, b3, b4⟩ := HBOX.out w6 hrw.old
      have HBN := Lib.hid (HB1.out.trans (hrw.old.mono HB1.out.size))
      have w37 : IntKind.i64.wrap (37 * (T : Int)) = 37 * (T : Int) := IntWalk.i64_in _ (by omega)
      have zn : (n : Int) ≤ 37 * (T : Int) := by omega
      have HBYN := Lib.hid (HBY.out.kept hrw.old)
      clear hrw hst hn37 HRUN HUP
      rcases hov with h1 | h2
      · obtain ⟨o, ho, hok, hod, hob⟩ := HDN.out h1
        have HA0 := Lib.hid (atK_one ho hok)
        have hvv := HR.out.st.objs
        rw [ho] at hvv
        obtain ⟨gb, off, hga, hgl, hoo, hgc⟩ := hvv.get (i := 0) (by simp)
        have c0 := cell_blkD HR.out.st.blk (i := 0) (u := .slice σ.oa σ.objs.length σ.oc) rfl
        rw [ho, hga] at c0
        have c1 : w6.cell? ⟨gb, off + 1, none⟩ = some (.slice o.da o.dn o.dc) := hgc 1 _ rfl
        have c3 : w6.cell? ⟨gb, off + 3, none⟩ = some (.int .i64 u.born) := by rw [← hob]; exact hgc 3 _ rfl
        have hob9 := ObjOk.bytes (HR.out.st.obj o (by rw [ho]; exact List.mem_singleton.2 rfl))
        rw [hod] at hob9
        have HSM := Lib.hid (fun m : Nat => (same_any (hob9.kept (below_drewN (Below.refl _ w6) m)) (HBYN.out.kept (below_drewN (Below.refl _ w6) m))).mono fun e y h => (show e = .returned (.bool true) ∧ y = w6.drewN m from ⟨by rw [h.1, beq_self_eq_true], h.2.symm⟩))
        have HBQ := Lib.hid (fun m : Nat => (HBO.out (w6.drewN m) (below_drewN (Below.refl _ w6) m)).mono fun e y h => (show e = .returned (.int .i64 u.born) ∧ y = w6.drewN m from ⟨h.1, h.2.symm⟩))
        rw [h1] at HSA
        rw [HA0.out] at HAT
        obtain ⟨oa9, hoa9⟩ : ∃ oa9, oa9 = σ.oa := ⟨_, rfl⟩
        obtain ⟨oc9, hoc9⟩ : ∃ oc9, oc9 = σ.oc := ⟨_, rfl⟩
        obtain ⟨bn, hbn⟩ : ∃ bn, bn = u.born := ⟨_, rfl⟩
        obtain ⟨o1, ho1⟩ : ∃ o1, o1 = o.da := ⟨_, rfl⟩
        obtain ⟨o2, ho2⟩ : ∃ o2, o2 = o.dn := ⟨_, rfl⟩
        obtain ⟨o3, ho3⟩ : ∃ o3, o3 = o.dc := ⟨_, rfl⟩
        rw [← hoc9] at c0
        rw [← hbn] at c3 HBQ
        rw [← ho1, ← ho2, ← ho3] at c1 HSM
        simp only [List.length_cons, List.length_nil, Nat.zero_add] at c0
        clear hoa9 hoc9 hbn ho1 ho2 ho3 hvv hga hgl hoo hgc hob9 ho hok hod hob h1 HR HBO HDN HFL HA0
        go_wp2_with fail
        refine (HAT.out _ (Below.refl _ _)).mono ?_
        rintro e w7 ⟨rfl, rfl⟩
        go_wp2_with fail
        refine (HSA.out _ (Below.refl _ _)).mono ?_
        rintro e w8 ⟨rfl, rfl⟩
        go_upto_region 11 with fail
        go_quiet ((first | (go_at_call 19; exact Calls.quiet_of_same (HSM.out _)) | (go_at_call 20; exact Calls.quiet_of_same (HBQ.out _))))
        go_wp2_with fail
        go_ret
        exact ⟨rfl, below_drewN HBN.out _⟩
      · have hb0 := HFL.out (by omega)
        have HU2 := Lib.hid h2
        have HB0 := Lib.hid hb0
        rw [h2] at HSA
        rw [hb0] at HBO
        clear h2 hb0
        go_wp2_with fail
        refine (HAT.out _ (Below.refl _ _)).mono ?_
        rintro e w7 ⟨rfl, rfl⟩
        go_wp2_with fail
        refine (HSA.out _ (Below.refl _ _)).mono ?_
        rintro e w8 ⟨rfl, rfl⟩
        go_wp2_with fail
        refine (HBO.out _ (Below.refl _ _)).mono ?_
        rintro e w9 ⟨rfl, rfl⟩
        go_wp2_with fail
        go_ret
        exact ⟨rfl, HBN.out⟩
end Go.Proofs.Ytodoklnohedolaa
end PkUD4_9
section PkUD4_10
/- A setting that came in, opened. Written by genupopen.py. -/
namespace Go.Proofs.Ytodoklnohedolaa
open Go.ChangeShapes Go.WideShapes Go.Deep Go.RowKit
set_option linter.unusedVariables false

set_option maxRecDepth 100000 in
/-- a setting that came in -/
theorem open_setting {H : Type} {enc : TypeId × Value → H} {W : World} {fuel : Nat} {cs : Array Value} {x : DataW H × List MemPlace}
    (h : DataW.trod enc Try.prog W 0 (fun _ => true) true fuel 41 cs.toList = some x) (hw : ∀ n, n ∈ DataW.weights Try.prog 41 x.1 → n ≤ reachBytes) :
    ∃ (ky : ByteArray) (a : Option Addr) (len cap : Nat) (xs : List Nat) (pc tr wt : Int), cs = #[.string ky, .slice a len cap, .int .i64 pc, .int .i64 tr, .int .i64 wt] ∧ ky.size ≤ 140737488355328 ∧ BytesAt W a len cap xs := by
  obtain ⟨xs, n, _, hy, hcl, hxl, hfld⟩ := DataW.trod_struct Try.underlying41 h
  rw [show Try.prog.cellsOf 41 = 5 from by kernel_rfl] at hcl
  have hxl2 : xs.length = 5 := hxl
  obtain ⟨ls, hls⟩ : ∃ ls, ls = cs.toList := ⟨_, rfl⟩
  have hcs : cs = ls.toArray := by rw [hls]
  rw [← hls] at hcl hfld
  subst hcs
  clear h hls
  match ls, xs, hcl, hxl2 with
  | [v0, v1, v2, v3, v4], [p0, p1, p2, p3, p4], _, _ =>
    have t0 : DataW.trod enc Try.prog W 0 (fun _ => true) true n 9 (List.take (Try.prog.cellsOf 9) (List.drop 0 [v0, v1, v2, v3, v4])) = [p0, p1, p2, p3, p4][0]? := hfld 0 _ rfl
    rw [show Try.prog.cellsOf 9 = 1 from by kernel_rfl] at t0
    have u0 : DataW.trod enc Try.prog W 0 (fun _ => true) true n 9 [v0] = some p0 := by simpa using t0
    have t1 : DataW.trod enc Try.prog W 0 (fun _ => true) true n 28 (List.take (Try.prog.cellsOf 28) (List.drop 1 [v0, v1, v2, v3, v4])) = [p0, p1, p2, p3, p4][1]? := hfld 1 _ rfl
    rw [show Try.prog.cellsOf 28 = 1 from by kernel_rfl] at t1
    have u1 : DataW.trod enc Try.prog W 0 (fun _ => true) true n 28 [v1] = some p1 := by simpa using t1
    have t2 : DataW.trod enc Try.prog W 0 (fun _ => true) true n 3 (List.take (Try.prog.cellsOf 3) (List.drop 2 [v0, v1, v2, v3, v4])) = [p0, p1, p2, p3, p4][2]? := hfld 2 _ rfl
    rw [show Try.prog.cellsOf 3 = 1 from by kernel_rfl] at t2
    have u2 : DataW.trod enc Try.prog W 0 (fun _ => true) true n 3 [v2] = some p2 := by simpa using t2
    have t3 : DataW.trod enc Try.prog W 0 (fun _ => true) true n 3 (List.take (Try.prog.cellsOf 3) (List.drop 3 [v0, v1, v2, v3, v4])) = [p0, p1, p2, p3, p4][3]? := hfld 3 _ rfl
    rw [show Try.prog.cellsOf 3 = 1 from by kernel_rfl] at t3
    have u3 : DataW.trod enc Try.prog W 0 (fun _ => true) true n 3 [v3] = some p3 := by simpa using t3
    have t4 : DataW.trod enc Try.prog W 0 (fun _ => true) true n 3 (List.take (Try.prog.cellsOf 3) (List.drop 4 [v0, v1, v2, v3, v4])) = [p0, p1, p2, p3, p4][4]? := hfld 4 _ rfl
    rw [show Try.prog.cellsOf 3 = 1 from by kernel_rfl] at t4
    have u4 : DataW.trod enc Try.prog W 0 (fun _ => true) true n 3 [v4] = some p4 := by simpa using t4
    obtain ⟨s0, hs0, hx0, _⟩ := DataW.trod_string Try.underlying9 u0
    obtain ⟨s2, hs2, hx2, _⟩ := DataW.trod_int Try.underlying3 u2
    obtain ⟨s3, hs3, hx3, _⟩ := DataW.trod_int Try.underlying3 u3
    obtain ⟨s4, hs4, hx4, _⟩ := DataW.trod_int Try.underlying3 u4
    have e0 : v0 = .string s0 := by simpa using hs0
    have e2 : v2 = .int .i64 s2 := by simpa using hs2
    have e3 : v3 = .int .i64 s3 := by simpa using hs3
    have e4 : v4 = .int .i64 s4 := by simpa using hs4
    subst e0 e2 e3 e4
    have hy1 : x.1 = .agg [p0.1, p1.1, p2.1, p3.1, p4.1] := by rw [hy]; rfl
    have w0 := hw s0.data.toList.length (by rw [hy1, hx0]; simp [DataW.weights, DataW.weightsEach, Try.underlying41])
    have hr := reachBytes_lt
    have w1 : ∀ m, m ∈ DataW.weights Try.prog 28 p1.1 → m ≤ reachBytes := fun m hm => hw m (by rw [hy1]; simp [DataW.weights, DataW.weightsEach, Try.underlying41, hm])
    obtain ⟨a, len, cap, zs, he, hrow⟩ : ∃ (a : Option Addr) (len cap : Nat) (zs : List Int), v1 = .slice a len cap ∧ IsRow .u8 1 W a len cap zs := by
      rcases open_ints Try.underlying28 Try.underlying5 (by kernel_rfl) u1 with ⟨hcs, _⟩ | ⟨y, l, c, zs, hcs, _, hl, hm, hz, hd, hcell, hwz⟩
      · simp at hcs
        exact ⟨none, 0, 0, [], hcs, .inl ⟨rfl, rfl, rfl, rfl⟩⟩
      · simp at hcs
        have hz2 : zs.length = c := by simpa using hz
        have hs := w1 (((lits IntKind.u8 (zs.take l) : List (DataW H)).length + (lits IntKind.u8 (zs.drop l) : List (DataW H)).length) * Try.prog.bytesOf 5) (by
          rw [hd]
          simp only [DataW.weights, Try.underlying28]
          exact List.mem_cons_self)
        rw [show Try.prog.bytesOf 5 = 1 from by kernel_rfl] at hs
        simp only [lits, List.length_map, List.length_take, List.length_drop, reachBytes] at hs
        exact ⟨some y, l, c, zs, hcs, .inr ⟨_, rfl, hl, hm, hz2, hcell, hwz, by omega⟩⟩
    subst he
    obtain ⟨bs, hbs⟩ := hrow.bytes
    exact ⟨s0, a, len, cap, bs, s2, s3, s4, rfl, by show s0.size ≤ _; simp at w0; omega, hbs⟩
end Go.Proofs.Ytodoklnohedolaa
end PkUD4_10
