/- The walk of CrcSums, given what the table holds: it returns true for all parts. -/
import Derived.Test.YtjamnjnoiieocaaDoorCrcBackWalk
import Derived.Test.YtjamnjnoiieocaaDoorCrcRef
import Derived.Test.YtjamnjnoiieocaaDoorParts
namespace Go.Proofs.YtjamnjnoiieocaaDoor
open Go.RowKit CrcPlain
set_option linter.unusedVariables false

set_option maxHeartbeats 400000 in
theorem write_nil {w : World} {a : Option Addr} {n c : Nat} :
    Calls Tryd.prog 8 #[.pointer none, .slice a n c] w fun e w' => e = .returned (.tuple #[]) ∧ w = w' := by
  go_enter Tryd.func8, Tryd.ntmps8
  go_wp2_with fail
  refine bodyPost_ret (results_none rfl _ _ _) rfl ?_
  exact ⟨rfl, rfl⟩
set_option maxHeartbeats 400000 in
theorem dsum_nil {w : World} :
    Calls Tryd.prog 9 #[.pointer none] w fun e w' => e = .returned (.int .u32 0) ∧ w = w' := by
  go_enter Tryd.func9, Tryd.ntmps9
  go_wp2_with fail
  go_ret
  exact ⟨rfl, rfl⟩

theorem RowsAt.parts {w : World} {a : Option Addr} {n c : Nat} {A : Nat → Option Addr} {L C : Nat → Nat} {X : Nat → List Nat} (h : RowsAt w a n c A L C X) (hs : ∀ i, i < n → L i ≤ 4096) : Parts w a n c X :=
  ⟨h.cap, h.capm, fun hp => by
    obtain ⟨b, off, ha, hlt, hc⟩ := h.cells hp
    exact ⟨b, off, ha, hlt, fun i hi => ⟨A i, L i, C i, (hc i hi).1, (hc i hi).2.2.2 (by have := hs i hi; omega)⟩⟩⟩
theorem RowsAt.kept {w w' : World} {a : Option Addr} {n c : Nat} {A : Nat → Option Addr} {L C : Nat → Nat} {X : Nat → List Nat} (h : RowsAt w a n c A L C X) (hb : Below w.heap.size w w') : RowsAt w' a n c A L C X :=
  ⟨h.cap, h.capm, h.nl, fun hp => by
    obtain ⟨b, off, ha, hlt, hc⟩ := h.cells hp
    exact ⟨b, off, ha, Nat.lt_of_lt_of_le hlt hb.size, fun i hi => ⟨(hb.cell (p := ⟨b, off + i, none⟩) hlt).trans (hc i hi).1, (hc i hi).2.1, (hc i hi).2.2.1, fun hr => ((hc i hi).2.2.2 hr).kept hb⟩⟩⟩
theorem RowsAt.bytes {w : World} {a : Option Addr} {n c : Nat} {A : Nat → Option Addr} {L C : Nat → Nat} {X : Nat → List Nat} (h : RowsAt w a n c A L C X) (k : Nat) (hk : k ≤ n) (hs : ∀ i, i < k → L i ≤ 4096) : ∀ x ∈ flat X k, x < 256 := by
  intro x hx
  simp only [flat, List.mem_flatMap, List.mem_range] at hx
  obtain ⟨i, hi, hx⟩ := hx
  obtain ⟨b, off, ha, hlt, hc⟩ := h.cells (by omega)
  exact ((hc i (by omega)).2.2.2 (by have := hs i hi; omega)).byte x hx

/-- all rows so far are short -/
def Short (L : Nat → Nat) (k : Nat) : Prop := ∀ i, i < k → L i ≤ 4096
theorem Short.succ {L : Nat → Nat} {k : Nat} (h : Short L k) (hk : L k ≤ 4096) : Short L (k + 1) := fun i hi => by
  rcases Nat.lt_or_ge i k with g | g
  · exact h i g
  · have : i = k := by omega
    subst this; exact hk

set_option maxRecDepth 100000 in
set_option maxHeartbeats 4000000 in
theorem crcSums_walk (a0 : Option Addr) (len0 cap0 : Nat) (z0 : (Nat → Option Addr) × (Nat → Nat) × (Nat → Nat) × (Nat → List Nat)) (w : World) (hT : Table w) (w0 : RowsAt w a0 len0 cap0 z0.1 z0.2.1 z0.2.2.1 z0.2.2.2) :
    Calls Tryd.prog 3 #[.slice a0 len0 cap0] w fun e w' => e = .returned (.bool true) ∧ Below w.heap.size w w' := by
  obtain ⟨A, L, C, X⟩ := z0
  replace w0 : RowsAt w a0 len0 cap0 A L C X := w0
  have HL := Lib.hid (lives_any hT)
  have HH := Lib.hid w0
  have HT := Lib.hid hT
  have hcap := w0.cap
  have hcm := w0.capm
  clear w0 hT
  by_cases hbig : (100 : Int) < (len0 : Int)
  · go_enter Tryd.func3, Tryd.ntmps3
    go_wp2_with fail
    refine HL.out.mono ?_
    rintro e w1 ⟨rfl, hb1⟩
    have HB1 := Lib.hid hb1
    have HL1 := Lib.hid (lives_any (HT.out.below hb1))
    clear hb1
    go_wp2_with fail
    refine HL1.out.mono ?_
    rintro e w2 ⟨rfl, hb2⟩
    have HB2 := Lib.hid (HB1.out.trans (hb2.mono HB1.out.size))
    clear hb2
    go_wp2_with fail
    go_ret
    exact ⟨rfl, HB2.out⟩
  · have hbig2 : (len0 : Int) ≤ 100 := by omega
    have hbig3 : len0 ≤ 100 := by omega
    clear hbig
    go_enter Tryd.func3, Tryd.ntmps3
    go_wp2_with fail
    refine HL.out.mono ?_
    rintro e w1 ⟨rfl, hb1⟩
    have HB1 := Lib.hid hb1
    clear hb1
    obtain ⟨D, hD⟩ : ∃ D, D = w1.heap.size := ⟨_, rfl⟩
    obtain ⟨wd, hwd⟩ : ∃ wd, wd = w1.alloc (.cells #[.int .u32 0] 27) := ⟨_, rfl⟩
    have HBD := Lib.hid (show Below w.heap.size w wd by rw [hwd]; exact HB1.out.alloc HB1.out.size _)
    have HK0 := Lib.hid (show wd.heap[D]? = some (.cells #[.int .u32 ((crcN (flat X 0) : Nat) : Int)] 27 (0, 0)) by
      rw [hwd, hD, show flat X 0 = [] from rfl, crcN_nil]; exact heap_alloc_new w1 _)
    have hwD : w.heap.size ≤ D := by rw [hD]; exact HB1.out.size
    have HD := Lib.hid hD
    have HWD := Lib.hid hwd
    clear hD hwd
    go_wp2_with fail
    rw [← HWD.out, ← HD.out]
    clear HWD HD
    go_loopw [3, 18] (fun s3 s18 wr => ∃ (k n3 c3 : Nat) (a3 : Option Addr), k ≤ len0 ∧ n3 ≤ 8192 ∧ s18 = .int .i64 k ∧ s3 = .slice a3 n3 c3 ∧ Short L k ∧ Hid (wr.ownsRow w.heap.size 5 1 (.slice a3 n3 c3) n3 (bv (flat X k))) ∧
      Hid (wr.heap[D]? = some (.cells #[.int .u32 ((crcN (flat X k) : Nat) : Int)] 27 (0, 0))) ∧ Hid (Below w.heap.size w wr)) (fun _ s18 _ => len0 - (intOf s18).toNat)
    case atStart => exact ⟨0, 0, 0, none, by omega, by omega, rfl, rfl, fun i hi => absurd hi (Nat.not_lt_zero _), Lib.hid (own_nil_bytes _ _), HK0, HBD⟩
    case round =>
      obtain ⟨k, n3, c3, a3, hk, hn3, rfl, rfl, hsh, HO, HK, HB⟩ := hrel
      rename World => wr
      by_cases hkm : k < len0
      · obtain ⟨b, off, rfl, hlt, hc⟩ := HH.out.cells (by omega)
        obtain ⟨q1, q2, q3, q4⟩ := hc k hkm
        have hck := (HB.out.cell (p := ⟨b, off + k, none⟩) hlt).trans q1
        obtain ⟨pa, hpa⟩ : ∃ pa, pa = A k := ⟨_, rfl⟩
        obtain ⟨pl, hpl⟩ : ∃ pl, pl = L k := ⟨_, rfl⟩
        obtain ⟨pc, hpc⟩ : ∃ pc, pc = C k := ⟨_, rfl⟩
        rw [← hpa, ← hpl, ← hpc] at hck
        have HLK := Lib.hid hpl
        rw [← hpa, ← hpl, ← hpc] at q4
        rw [← hpl, ← hpc] at q2
        rw [← hpc] at q3
        have HQ4 := Lib.hid q4
        clear hc q1 q4 hpa hpl hpc
        by_cases h3 : (4096 : Int) < (n3 : Int)
        · go_wp2_with fail
          go_ret
          exact ⟨rfl, HB.out⟩
        have h3' : (n3 : Int) ≤ 4096 := by omega
        clear h3
        by_cases h4 : (4096 : Int) < (pl : Int)
        · go_wp2_with fail
          go_ret
          exact ⟨rfl, HB.out⟩
        have h4' : (pl : Int) ≤ 4096 := by omega
        clear h4
        have HP := Lib.hid ((HQ4.out (by omega)).kept HB.out)
        have hgo := HO.out
        have hbs := HB.out.size
        go_wp2_with (at_builtin; refine wpList_append_bytes rfl (.tmp 30) (.tmp 31) rfl w.heap.size _ _ _ rfl hgo _ _ _ _ rfl HP.out (by omega) hbs ?_)
        intro v4 w4 hown4 hg4
        have hfl : flat X k ++ X k = flat X (k + 1) := (flat_succ X k).symm
        rw [hfl] at hown4
        have hsh4 : Short L (k + 1) := hsh.succ (by rw [← HLK.out]; omega)
        have HB4 := Lib.hid (HB.out.grown hg4 hbs (fun j hj => (hgo.lt j hj).1))
        have hdl : D < wr.heap.size := (Array.getElem?_eq_some_iff.1 HK.out).1
        have HK4 := Lib.hid ((hg4.block D hdl (fun e => own_ne hgo HK.out (by decide) e.symm)).trans HK.out)
        have HP4 := Lib.hid ((HQ4.out (by omega)).kept HB4.out)
        have HO4 := Lib.hid hown4
        have HBY := Lib.hid (HH.out.bytes k hk hsh)
        have HBY1 := Lib.hid (HH.out.bytes (k + 1) hkm hsh4)
        have HW := Lib.hid (write_any (crcN_lt _ HBY.out) HK4.out (HT.out.below HB4.out) HP4.out)
        clear hown4 hg4 hgo hbs hfl
        obtain ⟨a5, c5, rfl, _, _⟩ := BytesAt.ofOwn HO4.out HBY1.out (by omega)
        go_wp2_with fail
        refine HW.out.mono ?_
        rintro e w5 ⟨rfl, hw5⟩
        have hg : w4.grownBy w5 (some D) := by
          rw [hw5]
          exact ⟨rfl, rfl, rfl, by simp, fun j _ hj => heap_setCell_other w4 ⟨D, 0, none⟩ j _ (fun e => hj (by simp [e]))⟩
        have HB5 := Lib.hid (HB4.out.grown hg HB4.out.size (fun j hj => by cases hj; exact hwD))
        have HK5 := Lib.hid (show w5.heap[D]? = some (.cells #[.int .u32 ((crcN (flat X (k + 1)) : Nat) : Int)] 27 (0, 0)) by
          rw [hw5, heap_setCell_same w4 D 0 _ _ _ HK4.out, crcN_app, ← flat_succ]; rfl)
        have HO5 := Lib.hid (HO4.out.kept hg (.inr (own_ne HO4.out HK4.out (by decide))))
        clear hg hw5
        have HS := Lib.hid (dsum_any HK5.out)
        obtain ⟨_, _, he, hy5, _⟩ := BytesAt.ofOwn HO5.out HBY1.out (by omega)
        simp only [Value.slice.injEq, true_and] at he
        obtain ⟨rfl, rfl⟩ := he
        have HR := Lib.hid (rsum_any hy5)
        clear hy5
        have hne : ∀ n : Nat, ((n : Int) != (n : Int)) = false := fun n => by simp
        go_wp2_with fail
        refine HS.out.mono ?_
        rintro e w6 ⟨rfl, rfl⟩
        go_wp2_with fail
        refine HR.out.mono ?_
        rintro e w6 ⟨rfl, rfl⟩
        go_wp2_with fail
        go_roundw
        case rel => exact ⟨k + 1, n3 + pl, c5, a5, by omega, by omega, by go_num, rfl, hsh4, HO5, HK5, HB5⟩
        case measure => simp [intOf]; omega
      · obtain rfl : k = len0 := by omega
        have HBY := Lib.hid (HH.out.bytes k hk hsh)
        obtain ⟨_, _, he, hy5, _⟩ := BytesAt.ofOwn HO.out HBY.out (by omega)
        simp only [Value.slice.injEq, true_and] at he
        obtain ⟨rfl, rfl⟩ := he
        have HY := Lib.hid hy5
        have HP := Lib.hid ((HH.out.kept HB.out).parts hsh)
        have HS := Lib.hid (sum_any (HT.out.below HB.out) HP.out (fun j hj x hx => HH.out.bytes j hj (fun i hi => hsh i (by omega)) x hx))
        clear hy5
        go_wp2_with fail
        refine write_nil.mono ?_
        rintro e w6 ⟨rfl, rfl⟩
        go_wp2_with fail
        refine HS.out.mono ?_
        rintro e w7 ⟨rfl, hb7⟩
        have HB7 := Lib.hid (HB.out.trans (hb7.mono HB.out.size))
        have HY7 := Lib.hid (HY.out.kept hb7)
        have hdl : D < wr.heap.size := (Array.getElem?_eq_some_iff.1 HK.out).1
        have HK7 := Lib.hid ((hb7.block D hdl).trans HK.out)
        have HR := Lib.hid (rsum_any HY7.out)
        have HS7 := Lib.hid (dsum_any HK7.out)
        obtain ⟨s, hs⟩ : ∃ s, s = crcN (flat X k) := ⟨_, rfl⟩
        obtain ⟨w8, hw8⟩ : ∃ w8, w8 = w7.alloc (.cells #[.slice a3 n3 c3] 24) := ⟨_, rfl⟩
        have hb8 : Below w7.heap.size w7 w8 := by rw [hw8]; exact (Below.refl _ _).alloc (Nat.le_refl _) _
        have HB8 := Lib.hid (HB7.out.trans (hb8.mono HB7.out.size))
        have hpt : Parts w8 (some ⟨w7.heap.size, 0, none⟩) 1 1 (fun _ => flat X k) := ⟨Nat.le_refl _, by omega, fun _ => ⟨w7.heap.size, 0, rfl, by rw [hw8]; simp, fun i hi => ⟨a3, n3, c3, by
          obtain rfl : i = 0 := by omega
          rw [hw8]; simp, HY7.out.kept hb8⟩⟩⟩
        have hsum := sum_any (HT.out.below HB8.out) hpt (fun j hj x hx => by
          simp only [flat, List.mem_flatMap] at hx
          obtain ⟨_, _, hx⟩ := hx
          exact HBY.out x (by simp only [flat, List.mem_flatMap]; exact hx))
        have hf1 : flat (fun _ => flat X k) 1 = flat X k := by simp [flat]
        rw [hf1, ← hs] at hsum
        rw [← hs] at HS7 HR ⊢
        have HSUM := Lib.hid hsum
        have HW8 := Lib.hid hw8
        have heq : ∀ n : Nat, ((n : Int) == (n : Int)) = true := fun n => by simp
        clear hb7 hb8 hpt hsum hf1 hs hw8
        go_wp2_with fail
        refine HR.out.mono ?_
        rintro e w9 ⟨rfl, rfl⟩
        go_wp2_with fail
        refine HS7.out.mono ?_
        rintro e w9 ⟨rfl, rfl⟩
        go_wp2_with fail
        rw [← HW8.out]
        refine HSUM.out.mono ?_
        rintro e w9 ⟨rfl, hb9⟩
        have HB9 := Lib.hid (HB8.out.trans (hb9.mono HB8.out.size))
        clear hb9
        go_wp2_with fail
        refine dsum_nil.mono ?_
        rintro e w10 ⟨rfl, rfl⟩
        go_wp2_with fail
        go_ret
        exact ⟨rfl, HB9.out⟩
end Go.Proofs.YtjamnjnoiieocaaDoor
