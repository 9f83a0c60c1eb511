/- Texts put together by packtpl2.py: ColTexts, ColErr. -/
import Derived.Test.YtpbijdoemdoijaaGreatDoorPkCa36
import Derived.Test.YtpbijdoemdoijaaGreatDoorPkCa41
section PkCa42_0
/- A column of texts read back, walked. -/
namespace Go.Proofs.YtpbijdoemdoijaaGreatDoor
open Go.RowKit BitsPlain NumsPlain CrcPlain InfPlain
set_option linter.unusedVariables false

theorem tx_ok {l : List ByteArray} (h : txErr l = false) : l.length ≤ 2048 ∧ (∀ s ∈ l, s.size ≤ 1024) ∧ (textsC l).length ≤ 65536 ∧ ∀ x ∈ textsC l, x < 256 := by
  unfold txErr at h
  simp only [Bool.or_eq_false_iff, decide_eq_false_iff_not, Bool.not_eq_false'] at h
  obtain ⟨⟨h1, h2⟩, h3⟩ := h
  have hF := fit_all h2
  exact ⟨by omega, hF, by omega, txP_byte (k := l.length) hF (by omega)⟩
set_option maxRecDepth 100000 in
set_option maxHeartbeats 4000000 in
theorem texts_any {w : World} (hT : Table w) (hO : Ordr w) {a : Option Addr} {n c : Nat} {l : List ByteArray} (h : BytesAt w a n c (chunk 3 (textsC l))) (hn : n ≤ 100000) (hl : txErr l = false) :
    Calls Tryz.prog 28 #[.slice a n c] w fun e w' => ∃ a' n' c', e = .returned (.tuple #[.slice a' n' c', .int .i64 0]) ∧ VecAt StrS w' a' n' c' l ∧ Below w.heap.size w w' := by
  obtain ⟨hl1, hl2, hl3, hl4⟩ := tx_ok hl
  have HT := Lib.hid (show ∀ w', Below w.heap.size w w' → Table w' from fun w' h => hT.below h)
  have HO := Lib.hid (show ∀ w', Below w.heap.size w w' → Ordr w' from fun w' h => hO.below h)
  have HOP := open_any hT h hn
  rw [op_chunk] at HOP
  simp only at HOP
  have HOP := Lib.hid HOP
  have HX := Lib.hid h
  have HTE := Lib.hid hl
  have HL1 := Lib.hid hl1
  have HL2 := Lib.hid hl2
  have HL3 := Lib.hid hl3
  have HL4 := Lib.hid hl4
  clear hl1 hl2 hl3 hl4 hl
  have HRR : Calls Tryz.prog 53 #[.slice a n c, .func (.func 58) #[] #[], .func (.func 15) #[] #[]] w fun e w' => ∃ a' n' c', e = .returned (.tuple #[.slice a' n' c', .int .i64 0]) ∧ VecAt StrS w' a' n' c' l ∧ Below w.heap.size w w' := by
    clear hT hO h
    go_enter Tryz.func53, Tryz.ntmps53
    go_wp2_with fail
    refine HOP.out.mono ?_
    rintro e w1 ⟨a1, m1, c1, rfl, h1, hb1, _⟩
    have HB1 := Lib.hid hb1
    have HCO := Lib.hid (content_any (HO.out w1 hb1) h1 (by omega) HL3.out HL4.out)
    clear h1 hb1
    go_wp2_with fail
    refine HCO.out.mono ?_
    rintro e w2 ⟨a2, c2, rfl, h2, hb2⟩
    have HB2 := Lib.hid (HB1.out.trans (hb2.mono HB1.out.size))
    have HCF := contentTexts_any h2 (by have := HL3.out; omega)
    rw [rdT_of HL1.out HL2.out] at HCF
    have HCF := Lib.hid HCF
    clear h2 hb2
    go_wp2_with fail
    refine HCF.out.mono ?_
    rintro e w3 ⟨a3, n3, c3, rfl, h3, hb3⟩
    have HB3 := Lib.hid (HB2.out.trans (hb3.mono HB2.out.size))
    have H3 := Lib.hid h3
    have HPF := Lib.hid (puttexts_any (HT.out w3 HB3.out) h3)
    clear h3 hb3
    go_wp2_with fail
    refine HPF.out.mono ?_
    rintro e w4 ⟨he, hb4⟩
    rw [if_neg (by rw [HTE.out]; simp)] at he
    obtain ⟨a4, m4, c4, rfl, _, h4⟩ := he
    have HB4 := Lib.hid (HB3.out.trans (hb4.mono HB3.out.size))
    have H34 := Lib.hid (H3.out.kept hb4)
    have heq := equal_any h4 (HX.out.kept HB4.out)
    rw [beq_self_eq_true] at heq
    have HEQ := Lib.hid heq
    clear h4 hb4 heq
    go_wp2_with fail
    refine HEQ.out.mono ?_
    rintro e w5 ⟨rfl, rfl⟩
    go_wp2_with fail
    first | go_ret2 | go_ret
    exact ⟨a3, n3, c3, rfl, H34.out, HB4.out⟩
  have HR := Lib.hid HRR
  clear hT hO h HRR
  go_enter Tryz.func28, Tryz.ntmps28
  go_wp2_with fail
  refine HR.out.mono ?_
  rintro e w1 ⟨a1, n1, c1, rfl, h1, hb1⟩
  have H1 := Lib.hid h1
  have HB1 := Lib.hid hb1
  clear h1 hb1
  go_wp2_with fail
  first | go_ret2 | go_ret
  exact ⟨a1, n1, c1, rfl, H1.out, HB1.out⟩
end Go.Proofs.YtpbijdoemdoijaaGreatDoor
end PkCa42_0
section PkCa42_1
/- Chunks that are refused; texts and flags held against the same. (Written by gencolerr.py.) -/
namespace Go.Proofs.YtpbijdoemdoijaaGreatDoor
open Go.RowKit BitsPlain NumsPlain CrcPlain InfPlain
set_option linter.unusedVariables false

theorem op_nil : op [] = ([], 3) := rfl
theorem chunk_ne {j k : Nat} (h : j ≠ k) (C D : List Nat) : chunk j C ≠ chunk k D := fun e => by
  have h1 := op_chunk j C
  rw [e, op_chunk k D] at h1
  have h2 : (inner k D).head? = (inner j C).head? := by rw [(Prod.mk.inj h1).1]
  have h3 : ∀ (m : Nat) (E : List Nat), (inner m E).head? = some m := fun m E => by unfold inner; split <;> simp
  rw [h3, h3] at h2
  exact h (Option.some.inj h2).symm

set_option maxRecDepth 100000 in
set_option maxHeartbeats 2000000 in
theorem ints_err3 {w : World} (hT : Table w) {a : Option Addr} {n c : Nat} {xs Y : List Nat} (h : BytesAt w a n c xs) (hn : n ≤ 100000) (ho : op xs = (Y, 3)) :
    Calls Tryz.prog 23 #[.slice a n c] w fun e w' => e = .returned (.tuple #[.slice none 0 0, .int .i64 3]) ∧ Below w.heap.size w w' := by
  have HO := open_any hT h hn
  rw [ho] at HO
  have HO := Lib.hid HO
  have HRR : Calls Tryz.prog 49 #[.slice a n c, .func (.func 50) #[] #[], .func (.func 9) #[] #[]] w fun e w' => e = .returned (.tuple #[.slice none 0 0, .int .i64 3]) ∧ Below w.heap.size w w' := by
    clear hT h ho
    go_enter Tryz.func49, Tryz.ntmps49
    go_wp2_with fail
    refine HO.out.mono ?_
    rintro e w1 ⟨a1, m1, c1, rfl, _, hb1, _⟩
    have HB1 := Lib.hid hb1
    clear hb1
    go_wp2_with fail
    first | go_ret2 | go_ret
    exact ⟨rfl, HB1.out⟩
  have HR := Lib.hid HRR
  clear hT h ho HRR
  go_enter Tryz.func23, Tryz.ntmps23
  go_wp2_with fail
  refine HR.out.mono ?_
  rintro e w1 ⟨rfl, hb1⟩
  have HB1 := Lib.hid hb1
  clear hb1
  go_wp2_with fail
  first | go_ret2 | go_ret
  exact ⟨rfl, HB1.out⟩

set_option maxRecDepth 100000 in
set_option maxHeartbeats 2000000 in
theorem ints_err6 {w : World} (hT : Table w) {a : Option Addr} {n c : Nat} {xs Y : List Nat} (h : BytesAt w a n c xs) (hn : n ≤ 100000) (ho : op xs = (Y, 6)) :
    Calls Tryz.prog 23 #[.slice a n c] w fun e w' => e = .returned (.tuple #[.slice none 0 0, .int .i64 6]) ∧ Below w.heap.size w w' := by
  have HO := open_any hT h hn
  rw [ho] at HO
  have HO := Lib.hid HO
  have HRR : Calls Tryz.prog 49 #[.slice a n c, .func (.func 50) #[] #[], .func (.func 9) #[] #[]] w fun e w' => e = .returned (.tuple #[.slice none 0 0, .int .i64 6]) ∧ Below w.heap.size w w' := by
    clear hT h ho
    go_enter Tryz.func49, Tryz.ntmps49
    go_wp2_with fail
    refine HO.out.mono ?_
    rintro e w1 ⟨a1, m1, c1, rfl, _, hb1, _⟩
    have HB1 := Lib.hid hb1
    clear hb1
    go_wp2_with fail
    first | go_ret2 | go_ret
    exact ⟨rfl, HB1.out⟩
  have HR := Lib.hid HRR
  clear hT h ho HRR
  go_enter Tryz.func23, Tryz.ntmps23
  go_wp2_with fail
  refine HR.out.mono ?_
  rintro e w1 ⟨rfl, hb1⟩
  have HB1 := Lib.hid hb1
  clear hb1
  go_wp2_with fail
  first | go_ret2 | go_ret
  exact ⟨rfl, HB1.out⟩

set_option maxRecDepth 100000 in
set_option maxHeartbeats 2000000 in
theorem words_err3 {w : World} (hT : Table w) {a : Option Addr} {n c : Nat} {xs Y : List Nat} (h : BytesAt w a n c xs) (hn : n ≤ 100000) (ho : op xs = (Y, 3)) :
    Calls Tryz.prog 26 #[.slice a n c] w fun e w' => e = .returned (.tuple #[.slice none 0 0, .int .i64 3]) ∧ Below w.heap.size w w' := by
  have HO := open_any hT h hn
  rw [ho] at HO
  have HO := Lib.hid HO
  have HRR : Calls Tryz.prog 53 #[.slice a n c, .func (.func 54) #[] #[], .func (.func 14) #[] #[]] w fun e w' => e = .returned (.tuple #[.slice none 0 0, .int .i64 3]) ∧ Below w.heap.size w w' := by
    clear hT h ho
    go_enter Tryz.func53, Tryz.ntmps53
    go_wp2_with fail
    refine HO.out.mono ?_
    rintro e w1 ⟨a1, m1, c1, rfl, _, hb1, _⟩
    have HB1 := Lib.hid hb1
    clear hb1
    go_wp2_with fail
    first | go_ret2 | go_ret
    exact ⟨rfl, HB1.out⟩
  have HR := Lib.hid HRR
  clear hT h ho HRR
  go_enter Tryz.func26, Tryz.ntmps26
  go_wp2_with fail
  refine HR.out.mono ?_
  rintro e w1 ⟨rfl, hb1⟩
  have HB1 := Lib.hid hb1
  clear hb1
  go_wp2_with fail
  first | go_ret2 | go_ret
  exact ⟨rfl, HB1.out⟩

set_option maxRecDepth 100000 in
set_option maxHeartbeats 2000000 in
theorem words_err6 {w : World} (hT : Table w) {a : Option Addr} {n c : Nat} {xs Y : List Nat} (h : BytesAt w a n c xs) (hn : n ≤ 100000) (ho : op xs = (Y, 6)) :
    Calls Tryz.prog 26 #[.slice a n c] w fun e w' => e = .returned (.tuple #[.slice none 0 0, .int .i64 6]) ∧ Below w.heap.size w w' := by
  have HO := open_any hT h hn
  rw [ho] at HO
  have HO := Lib.hid HO
  have HRR : Calls Tryz.prog 53 #[.slice a n c, .func (.func 54) #[] #[], .func (.func 14) #[] #[]] w fun e w' => e = .returned (.tuple #[.slice none 0 0, .int .i64 6]) ∧ Below w.heap.size w w' := by
    clear hT h ho
    go_enter Tryz.func53, Tryz.ntmps53
    go_wp2_with fail
    refine HO.out.mono ?_
    rintro e w1 ⟨a1, m1, c1, rfl, _, hb1, _⟩
    have HB1 := Lib.hid hb1
    clear hb1
    go_wp2_with fail
    first | go_ret2 | go_ret
    exact ⟨rfl, HB1.out⟩
  have HR := Lib.hid HRR
  clear hT h ho HRR
  go_enter Tryz.func26, Tryz.ntmps26
  go_wp2_with fail
  refine HR.out.mono ?_
  rintro e w1 ⟨rfl, hb1⟩
  have HB1 := Lib.hid hb1
  clear hb1
  go_wp2_with fail
  first | go_ret2 | go_ret
  exact ⟨rfl, HB1.out⟩

set_option maxRecDepth 100000 in
set_option maxHeartbeats 2000000 in
theorem texts_err3 {w : World} (hT : Table w) {a : Option Addr} {n c : Nat} {xs Y : List Nat} (h : BytesAt w a n c xs) (hn : n ≤ 100000) (ho : op xs = (Y, 3)) :
    Calls Tryz.prog 28 #[.slice a n c] w fun e w' => e = .returned (.tuple #[.slice none 0 0, .int .i64 3]) ∧ Below w.heap.size w w' := by
  have HO := open_any hT h hn
  rw [ho] at HO
  have HO := Lib.hid HO
  have HRR : Calls Tryz.prog 53 #[.slice a n c, .func (.func 58) #[] #[], .func (.func 15) #[] #[]] w fun e w' => e = .returned (.tuple #[.slice none 0 0, .int .i64 3]) ∧ Below w.heap.size w w' := by
    clear hT h ho
    go_enter Tryz.func53, Tryz.ntmps53
    go_wp2_with fail
    refine HO.out.mono ?_
    rintro e w1 ⟨a1, m1, c1, rfl, _, hb1, _⟩
    have HB1 := Lib.hid hb1
    clear hb1
    go_wp2_with fail
    first | go_ret2 | go_ret
    exact ⟨rfl, HB1.out⟩
  have HR := Lib.hid HRR
  clear hT h ho HRR
  go_enter Tryz.func28, Tryz.ntmps28
  go_wp2_with fail
  refine HR.out.mono ?_
  rintro e w1 ⟨rfl, hb1⟩
  have HB1 := Lib.hid hb1
  clear hb1
  go_wp2_with fail
  first | go_ret2 | go_ret
  exact ⟨rfl, HB1.out⟩

set_option maxRecDepth 100000 in
set_option maxHeartbeats 2000000 in
theorem texts_err6 {w : World} (hT : Table w) {a : Option Addr} {n c : Nat} {xs Y : List Nat} (h : BytesAt w a n c xs) (hn : n ≤ 100000) (ho : op xs = (Y, 6)) :
    Calls Tryz.prog 28 #[.slice a n c] w fun e w' => e = .returned (.tuple #[.slice none 0 0, .int .i64 6]) ∧ Below w.heap.size w w' := by
  have HO := open_any hT h hn
  rw [ho] at HO
  have HO := Lib.hid HO
  have HRR : Calls Tryz.prog 53 #[.slice a n c, .func (.func 58) #[] #[], .func (.func 15) #[] #[]] w fun e w' => e = .returned (.tuple #[.slice none 0 0, .int .i64 6]) ∧ Below w.heap.size w w' := by
    clear hT h ho
    go_enter Tryz.func53, Tryz.ntmps53
    go_wp2_with fail
    refine HO.out.mono ?_
    rintro e w1 ⟨a1, m1, c1, rfl, _, hb1, _⟩
    have HB1 := Lib.hid hb1
    clear hb1
    go_wp2_with fail
    first | go_ret2 | go_ret
    exact ⟨rfl, HB1.out⟩
  have HR := Lib.hid HRR
  clear hT h ho HRR
  go_enter Tryz.func28, Tryz.ntmps28
  go_wp2_with fail
  refine HR.out.mono ?_
  rintro e w1 ⟨rfl, hb1⟩
  have HB1 := Lib.hid hb1
  clear hb1
  go_wp2_with fail
  first | go_ret2 | go_ret
  exact ⟨rfl, HB1.out⟩

set_option maxRecDepth 100000 in
set_option maxHeartbeats 2000000 in
theorem flags_err3 {w : World} (hT : Table w) {a : Option Addr} {n c : Nat} {xs Y : List Nat} (h : BytesAt w a n c xs) (hn : n ≤ 100000) (ho : op xs = (Y, 3)) :
    Calls Tryz.prog 30 #[.slice a n c] w fun e w' => e = .returned (.tuple #[.slice none 0 0, .int .i64 3]) ∧ Below w.heap.size w w' := by
  have HO := open_any hT h hn
  rw [ho] at HO
  have HO := Lib.hid HO
  have HRR : Calls Tryz.prog 60 #[.slice a n c, .func (.func 61) #[] #[], .func (.func 17) #[] #[]] w fun e w' => e = .returned (.tuple #[.slice none 0 0, .int .i64 3]) ∧ Below w.heap.size w w' := by
    clear hT h ho
    go_enter Tryz.func60, Tryz.ntmps60
    go_wp2_with fail
    refine HO.out.mono ?_
    rintro e w1 ⟨a1, m1, c1, rfl, _, hb1, _⟩
    have HB1 := Lib.hid hb1
    clear hb1
    go_wp2_with fail
    first | go_ret2 | go_ret
    exact ⟨rfl, HB1.out⟩
  have HR := Lib.hid HRR
  clear hT h ho HRR
  go_enter Tryz.func30, Tryz.ntmps30
  go_wp2_with fail
  refine HR.out.mono ?_
  rintro e w1 ⟨rfl, hb1⟩
  have HB1 := Lib.hid hb1
  clear hb1
  go_wp2_with fail
  first | go_ret2 | go_ret
  exact ⟨rfl, HB1.out⟩

set_option maxRecDepth 100000 in
set_option maxHeartbeats 2000000 in
theorem flags_err6 {w : World} (hT : Table w) {a : Option Addr} {n c : Nat} {xs Y : List Nat} (h : BytesAt w a n c xs) (hn : n ≤ 100000) (ho : op xs = (Y, 6)) :
    Calls Tryz.prog 30 #[.slice a n c] w fun e w' => e = .returned (.tuple #[.slice none 0 0, .int .i64 6]) ∧ Below w.heap.size w w' := by
  have HO := open_any hT h hn
  rw [ho] at HO
  have HO := Lib.hid HO
  have HRR : Calls Tryz.prog 60 #[.slice a n c, .func (.func 61) #[] #[], .func (.func 17) #[] #[]] w fun e w' => e = .returned (.tuple #[.slice none 0 0, .int .i64 6]) ∧ Below w.heap.size w w' := by
    clear hT h ho
    go_enter Tryz.func60, Tryz.ntmps60
    go_wp2_with fail
    refine HO.out.mono ?_
    rintro e w1 ⟨a1, m1, c1, rfl, _, hb1, _⟩
    have HB1 := Lib.hid hb1
    clear hb1
    go_wp2_with fail
    first | go_ret2 | go_ret
    exact ⟨rfl, HB1.out⟩
  have HR := Lib.hid HRR
  clear hT h ho HRR
  go_enter Tryz.func30, Tryz.ntmps30
  go_wp2_with fail
  refine HR.out.mono ?_
  rintro e w1 ⟨rfl, hb1⟩
  have HB1 := Lib.hid hb1
  clear hb1
  go_wp2_with fail
  first | go_ret2 | go_ret
  exact ⟨rfl, HB1.out⟩

set_option maxRecDepth 100000 in
set_option maxHeartbeats 4000000 in
theorem words_other {w : World} (hT : Table w) (hO : Ordr w) {a : Option Addr} {n c k : Nat} {C : List Nat} (h : BytesAt w a n c (chunk k C)) (hn : n ≤ 100000) (hk : k ≤ 4) (hk2 : 2 ≠ k) (hC : C.length ≤ 65536) (hCb : ∀ x ∈ C, x < 256) :
    Calls Tryz.prog 26 #[.slice a n c] w fun e w' => e = .returned (.tuple #[.slice none 0 0, .int .i64 4]) ∧ Below w.heap.size w w' := by
  have HT := Lib.hid (show ∀ w', Below w.heap.size w w' → Table w' from fun w' h => hT.below h)
  have HO := Lib.hid (show ∀ w', Below w.heap.size w w' → Ordr w' from fun w' h => hO.below h)
  have HOP := open_any hT h hn
  rw [op_chunk] at HOP
  simp only at HOP
  have HOP := Lib.hid HOP
  have HX := Lib.hid h
  have HCB := Lib.hid hCb
  have HNE := Lib.hid (show ∀ D, chunk 2 D ≠ chunk k C from fun D => chunk_ne hk2 D C)
  have HRR : Calls Tryz.prog 53 #[.slice a n c, .func (.func 54) #[] #[], .func (.func 14) #[] #[]] w fun e w' => e = .returned (.tuple #[.slice none 0 0, .int .i64 4]) ∧ Below w.heap.size w w' := by
    clear hT hO h hCb hk2
    go_enter Tryz.func53, Tryz.ntmps53
    go_wp2_with fail
    refine HOP.out.mono ?_
    rintro e w1 ⟨a1, m1, c1, rfl, h1, hb1, _⟩
    have HB1 := Lib.hid hb1
    have HCO := Lib.hid (content_any (HO.out w1 hb1) h1 hk hC HCB.out)
    clear h1 hb1
    go_wp2_with fail
    refine HCO.out.mono ?_
    rintro e w2 ⟨a2, c2, rfl, h2, hb2⟩
    have HB2 := Lib.hid (HB1.out.trans (hb2.mono HB1.out.size))
    have HCF := Lib.hid (contentWords_any h2 (by omega))
    clear h2 hb2
    go_wp2_with fail
    refine HCF.out.mono ?_
    rintro e w3 ⟨a3, n3, c3, rfl, h3, hb3⟩
    have HB3 := Lib.hid (HB2.out.trans (hb3.mono HB2.out.size))
    have HPF := Lib.hid (putwords_any (HT.out w3 HB3.out) h3)
    clear h3 hb3
    go_wp2_with fail
    refine HPF.out.mono ?_
    rintro e w4 ⟨he, hb4⟩
    have HB4 := Lib.hid (HB3.out.trans (hb4.mono HB3.out.size))
    by_cases hte : wdErr (rdW C) = true
    · rw [if_pos hte] at he
      subst he
      clear hb4 hte
      go_wp2_with fail
      first | go_ret2 | go_ret
      exact ⟨rfl, HB4.out⟩
    · rw [if_neg hte] at he
      obtain ⟨a4, m4, c4, rfl, _, h4⟩ := he
      have heq := equal_any h4 (HX.out.kept HB4.out)
      rw [show (chunk 2 (wordsC (rdW C)) == chunk k C) = false from by rw [beq_eq_false_iff_ne]; exact HNE.out _] at heq
      have HEQ := Lib.hid heq
      clear h4 hb4 heq hte
      go_wp2_with fail
      refine HEQ.out.mono ?_
      rintro e w5 ⟨rfl, rfl⟩
      go_wp2_with fail
      first | go_ret2 | go_ret
      exact ⟨rfl, HB4.out⟩
  have HR := Lib.hid HRR
  clear hT hO h hCb HRR
  go_enter Tryz.func26, Tryz.ntmps26
  go_wp2_with fail
  refine HR.out.mono ?_
  rintro e w1 ⟨rfl, hb1⟩
  have HB1 := Lib.hid hb1
  clear hb1
  go_wp2_with fail
  first | go_ret2 | go_ret
  exact ⟨rfl, HB1.out⟩

set_option maxRecDepth 100000 in
set_option maxHeartbeats 4000000 in
theorem texts_other {w : World} (hT : Table w) (hO : Ordr w) {a : Option Addr} {n c k : Nat} {C : List Nat} (h : BytesAt w a n c (chunk k C)) (hn : n ≤ 100000) (hk : k ≤ 4) (hk2 : 3 ≠ k) (hC : C.length ≤ 65536) (hCb : ∀ x ∈ C, x < 256) :
    Calls Tryz.prog 28 #[.slice a n c] w fun e w' => e = .returned (.tuple #[.slice none 0 0, .int .i64 4]) ∧ Below w.heap.size w w' := by
  have HT := Lib.hid (show ∀ w', Below w.heap.size w w' → Table w' from fun w' h => hT.below h)
  have HO := Lib.hid (show ∀ w', Below w.heap.size w w' → Ordr w' from fun w' h => hO.below h)
  have HOP := open_any hT h hn
  rw [op_chunk] at HOP
  simp only at HOP
  have HOP := Lib.hid HOP
  have HX := Lib.hid h
  have HCB := Lib.hid hCb
  have HNE := Lib.hid (show ∀ D, chunk 3 D ≠ chunk k C from fun D => chunk_ne hk2 D C)
  have HRR : Calls Tryz.prog 53 #[.slice a n c, .func (.func 58) #[] #[], .func (.func 15) #[] #[]] w fun e w' => e = .returned (.tuple #[.slice none 0 0, .int .i64 4]) ∧ Below w.heap.size w w' := by
    clear hT hO h hCb hk2
    go_enter Tryz.func53, Tryz.ntmps53
    go_wp2_with fail
    refine HOP.out.mono ?_
    rintro e w1 ⟨a1, m1, c1, rfl, h1, hb1, _⟩
    have HB1 := Lib.hid hb1
    have HCO := Lib.hid (content_any (HO.out w1 hb1) h1 hk hC HCB.out)
    clear h1 hb1
    go_wp2_with fail
    refine HCO.out.mono ?_
    rintro e w2 ⟨a2, c2, rfl, h2, hb2⟩
    have HB2 := Lib.hid (HB1.out.trans (hb2.mono HB1.out.size))
    have HCF := Lib.hid (contentTexts_any h2 (by omega))
    clear h2 hb2
    go_wp2_with fail
    refine HCF.out.mono ?_
    rintro e w3 ⟨a3, n3, c3, rfl, h3, hb3⟩
    have HB3 := Lib.hid (HB2.out.trans (hb3.mono HB2.out.size))
    have HPF := Lib.hid (puttexts_any (HT.out w3 HB3.out) h3)
    clear h3 hb3
    go_wp2_with fail
    refine HPF.out.mono ?_
    rintro e w4 ⟨he, hb4⟩
    have HB4 := Lib.hid (HB3.out.trans (hb4.mono HB3.out.size))
    by_cases hte : txErr (rdT C) = true
    · rw [if_pos hte] at he
      subst he
      clear hb4 hte
      go_wp2_with fail
      first | go_ret2 | go_ret
      exact ⟨rfl, HB4.out⟩
    · rw [if_neg hte] at he
      obtain ⟨a4, m4, c4, rfl, _, h4⟩ := he
      have heq := equal_any h4 (HX.out.kept HB4.out)
      rw [show (chunk 3 (textsC (rdT C)) == chunk k C) = false from by rw [beq_eq_false_iff_ne]; exact HNE.out _] at heq
      have HEQ := Lib.hid heq
      clear h4 hb4 heq hte
      go_wp2_with fail
      refine HEQ.out.mono ?_
      rintro e w5 ⟨rfl, rfl⟩
      go_wp2_with fail
      first | go_ret2 | go_ret
      exact ⟨rfl, HB4.out⟩
  have HR := Lib.hid HRR
  clear hT hO h hCb HRR
  go_enter Tryz.func28, Tryz.ntmps28
  go_wp2_with fail
  refine HR.out.mono ?_
  rintro e w1 ⟨rfl, hb1⟩
  have HB1 := Lib.hid hb1
  clear hb1
  go_wp2_with fail
  first | go_ret2 | go_ret
  exact ⟨rfl, HB1.out⟩

end Go.Proofs.YtpbijdoemdoijaaGreatDoor
end PkCa42_1
