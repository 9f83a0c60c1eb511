/- Package prefix's Word, walked; the chapter's example. -/
import Derived.Test.YtachikilcfdngaaPrefMk
import Derived.Test.YtachikilcfdngaaPrefPl
namespace Go.Proofs.Ytachikilcfdngaa
open Go.RowKit PrefPlain
set_option linter.unusedVariables false

set_option maxHeartbeats 1000000 in
theorem word_nil (x : Int) (w : World) :
    Calls Try.prog 27 #[.pointer none, .int .i64 x] w fun e w' => e = .returned (.tuple #[.int .u32 0, .int .i64 0, .int .i64 1]) ∧ w = w' := by
  go_enter Try.func27, Try.ntmps27
  go_wp2_with fail
  go_ret3
  exact ⟨rfl, rfl⟩

set_option maxRecDepth 100000 in
set_option maxHeartbeats 2000000 in
theorem word_no {w : World} {B : Nat} {L : List Int} (h : TabAt w B L) (x : Int) (hx : ¬ hasW L x) :
    Calls Try.prog 27 #[.pointer (some ⟨B, 0, none⟩), .int .i64 x] w fun e w' => e = .returned (.tuple #[.int .u32 0, .int .i64 0, .int .i64 7]) ∧ w = w' := by
  obtain ⟨a, n, c, V, hT, hI, hS⟩ := h.tab
  have hlen := hI.len
  have c0 := hT.c0
  have hcap := hI.cap
  have hcm := hI.capm
  by_cases h0 : x < 0
  · clear hx hlen hT hI hS h
    go_enter Try.func27, Try.ntmps27
    go_wp2_with fail
    go_ret3
    exact ⟨rfl, rfl⟩
  · by_cases hn : (n : Int) ≤ x
    · have h0' : 0 ≤ x := by omega
      clear hx hlen hT hI hS h h0
      go_enter Try.func27, Try.ntmps27
      go_wp2_with fail
      go_ret3
      exact ⟨rfl, rfl⟩
    · obtain ⟨s, rfl⟩ := Int.eq_ofNat_of_zero_le (show 0 ≤ x by omega)
      have hz : L.getD s 0 = 0 := by
        by_cases hne : L.getD s 0 = 0
        · exact hne
        · exact absurd ⟨by omega, by omega, by rw [Int.toNat_natCast]; exact hne⟩ hx
      obtain ⟨b, off, rfl, hlt, hcell⟩ := hI.cells (by omega)
      have hck := hcell s (by omega)
      rw [hz] at hck
      have hsn : (s : Int) < (n : Int) := by omega
      clear hx hlen hT hI hS h h0 hz hcell hn
      go_enter Try.func27, Try.ntmps27
      go_wp2_with fail
      go_ret3
      exact ⟨rfl, rfl⟩

set_option maxRecDepth 100000 in
set_option maxHeartbeats 2000000 in
theorem word_yes {w : World} {B : Nat} {L : List Int} (h : TabAt w B L) (s n : Nat) (hs : s < L.length) (hn : 0 < n) (hLs : L.getD s 0 = (n : Int)) :
    Calls Try.prog 27 #[.pointer (some ⟨B, 0, none⟩), .int .i64 (s : Int)] w fun e w' => e = .returned (.tuple #[.int .u32 ((fw (cn L) n + pl L s : Nat) : Int), .int .i64 (n : Int), .int .i64 0]) ∧ w = w' := by
  obtain ⟨a, m, c, V, hT, hI, hS⟩ := h.tab
  have hlen := hI.len
  have c0 := hT.c0
  have hcap := hI.cap
  have hcm := hI.capm
  have hok := h.ok s hs
  have hn15 : n ≤ 15 := by omega
  have hp := pl_ok hn hs hLs
  obtain ⟨p, hpe⟩ : ∃ p, p = pl L s := ⟨_, rfl⟩
  rw [← hpe] at hp ⊢
  obtain ⟨hp1, hp2⟩ := hp
  have hq := sy_len L L.length n
  have hsh := h.short
  obtain ⟨av, cv, hVn, hiv, _⟩ := IntsAt.ofOwn (hS.own n (by omega)) (fun z hz => wf_int (by have := sy_bound z hz; omega))
  have c1' := hT.cF n (by omega)
  have c2' := hT.cV n (by omega)
  rw [hVn] at c2'
  have h26 := fw_26 (cn L) (cn_le L hsh) hn15
  have hsr := search_any hiv (by omega) (fun i j hij hj => sy_lt hij hj) hp1 (s : Int) hp2
  obtain ⟨b, off, rfl, hlt, hcell⟩ := hI.cells (by omega)
  have hck := hcell s (by omega)
  rw [hLs] at hck
  have hsn : (s : Int) < (m : Int) := by omega
  have hnz : ((n : Int) == 0) = false := by rw [beq_eq_false_iff_ne]; omega
  obtain ⟨f, hf⟩ : ∃ f, f = fw (cn L) n := ⟨_, rfl⟩
  obtain ⟨q, hq'⟩ : ∃ q, q = (sy L L.length n).length := ⟨_, rfl⟩
  rw [← hf] at h26 c1' ⊢
  rw [← hq'] at hq hsr c2' hp1
  have HSR := Lib.hid hsr
  have hnb : (n : Int) < 16 := by omega
  have hp320 : p ≤ 320 := by omega
  clear hT hI hS h hlen hok hp2 hpe hiv hVn hcell hLs hf hq' hsr hs hn15
  go_enter Try.func27, Try.ntmps27
  go_wp2_with fail
  refine HSR.out.mono ?_
  rintro e w1 ⟨rfl, rfl⟩
  go_wp2_with fail
  go_ret3
  exact ⟨rfl, rfl⟩

set_option maxRecDepth 100000 in
set_option maxHeartbeats 2000000 in
theorem lives5_any (w : World) :
    Calls Try.prog 24 #[] w fun e w' => e = .returned (.bool true) ∧ Below w.heap.size w w' := by
  have hrow : IsRow .i64 8 (w.alloc (.cells #[.int .i64 2, .int .i64 1, .int .i64 3, .int .i64 3] 3)) (some ⟨w.heap.size, 0, none⟩) 4 4 [2, 1, 3, 3] := .inr ⟨_, rfl, Nat.le_refl _, by unfold maxLen; omega, rfl, fun i hi => by
    have h4 : i = 0 ∨ i = 1 ∨ i = 2 ∨ i = 3 := by simp at hi; omega
    rcases h4 with rfl | rfl | rfl | rfl <;> simp [Addr.add], by decide, by omega⟩
  have hM := make_any hrow.ints
  rw [show mk ([2, 1, 3, 3].take 4) = 0 from by decide +kernel] at hM
  have HM := Lib.hid hM
  have hb0 : Below w.heap.size w (w.alloc (.cells #[.int .i64 2, .int .i64 1, .int .i64 3, .int .i64 3] 3)) := (Below.refl _ _).alloc (Nat.le_refl _) _
  have HB0 := Lib.hid hb0
  clear hrow hM hb0
  go_enter Try.func24, Try.ntmps24
  go_wp2_with fail
  refine HM.out.mono ?_
  rintro e w1 ⟨p, rfl, hb1, _, hp⟩
  obtain ⟨B, rfl, _, hT⟩ := hp trivial
  have HB1 := Lib.hid (HB0.out.trans (hb1.mono (by simp)))
  have hW := word_yes hT 2 3 (by decide) (by decide) (by decide)
  rw [show fw (cn ([2, 1, 3, 3].take 4)) 3 + pl ([2, 1, 3, 3].take 4) 2 = 6 from by decide +kernel] at hW
  have HW := Lib.hid hW
  clear hW hb1 hp hT
  go_wp2_with fail
  refine HW.out.mono ?_
  rintro e w2 ⟨rfl, rfl⟩
  go_wp2_with fail
  go_ret
  exact ⟨rfl, HB1.out⟩
end Go.Proofs.Ytachikilcfdngaa
