/- Texts put together by packtpl2.py: ColPutW. -/
import Derived.Test.YtpbijdoemdoijaaGreatDoorPkCa18
section PkCa19_0
/- put of a column of words, walked: XColPutS's text with the words' content. -/
namespace Go.Proofs.YtpbijdoemdoijaaGreatDoor
open Go.RowKit BitsPlain NumsPlain CrcPlain
set_option linter.unusedVariables false

set_option maxRecDepth 100000 in
set_option maxHeartbeats 4000000 in
theorem putWd_any {w : World} (hT : Table w) {a : Option Addr} {n c k : Nat} {C : List Nat} (hn : n ≤ 2048) (hk : k < 256)
    (hC : Calls Tryz.prog 42 #[.slice a n c] w fun e w' => ∃ v, e = .returned (.tuple #[v, .int .i64 0]) ∧ w'.ownsRow w.heap.size 5 1 v C.length (bv C) ∧ Below w.heap.size w w') (hCb : ∀ x ∈ C, x < 256) (hCl : C.length ≤ 65536) :
    Calls Tryz.prog 41 #[.int .u8 (k : Int), .slice a n c, .func (.func 42) #[] #[]] w fun e w' => ∃ a' m' c', e = .returned (.tuple #[.slice a' m' c', .int .i64 0]) ∧ w'.ownsRow w.heap.size 5 1 (.slice a' m' c') m' (bv (chunk k C)) ∧ BytesAt w' a' m' c' (chunk k C) ∧ Below w.heap.size w w' := by
  have hni : ¬ ((2048 : Int) < (n : Int)) := by omega
  have HT := Lib.hid (show ∀ w', Below w.heap.size w w' → Table w' from fun w' h => hT.below h)
  have HC := Lib.hid hC
  have HCB := Lib.hid hCb
  have h10 := pu_ten (n := C.length) (by omega)
  clear hC hT hCb
  go_enter Tryz.func41, Tryz.ntmps41
  go_wp2_with fail
  refine HC.out.mono ?_
  rintro e w2 ⟨v2, rfl, ho2, hb2⟩
  obtain ⟨ac, cc, rfl, hbc, _⟩ := BytesAt.ofOwn ho2 HCB.out (by omega)
  have HB2 := Lib.hid hb2
  have HC2 := Lib.hid hbc
  have HDE := Lib.hid (deflate_any hbc hCl)
  obtain ⟨lc, hlc⟩ : ∃ lc, lc = C.length := ⟨_, rfl⟩
  have hcl : ¬ ((65536 : Int) < (C.length : Int)) := by omega
  clear ho2 hb2 hbc
  go_wp2_with fail
  refine HDE.out.mono ?_
  rintro e w3 ⟨ad, cd, rfl, hd3, hb3⟩
  have HB3 := Lib.hid (HB2.out.trans (hb3.mono HB2.out.size))
  have HC3 := Lib.hid (HC2.out.kept hb3)
  obtain ⟨D, hD⟩ : ∃ D, D = dfl C := ⟨_, rfl⟩
  rw [← hD] at hd3 ⊢
  have HD3 := Lib.hid hd3
  have hCK : chunk k C = if D.length < C.length then sealed ([k, 1] ++ pu C.length ++ D) else sealed ([k, 0] ++ pu C.length ++ C) := by unfold chunk; rw [hD]
  clear hd3 hb3 hD
  by_cases hlt : D.length < C.length
  · rw [if_pos hlt] at hCK
    have HCK := Lib.hid hCK
    have hlti : (D.length : Int) < (C.length : Int) := by omega
    obtain ⟨w4, hw4⟩ : ∃ w4, w4 = w3.alloc (.cells #[.int .u8 (k : Int), .int .u8 1] 5) := ⟨_, rfl⟩
    have o4 := World.ownsRow_lit (base := w3.heap.size) (e := 5) (size := 1) w3 #[.int .u8 (k : Int), .int .u8 1] 2 (Nat.le_refl _) (by unfold maxLen; omega) rfl
    rw [← hw4] at o4
    have HO4 := Lib.hid (show w4.ownsRow w3.heap.size 5 1 (.slice (some ⟨w3.heap.size, 0, none⟩) 2 2) 2 (bv [k, 1]) from o4)
    have HB4 := Lib.hid (show Below w3.heap.size w3 w4 from by rw [hw4]; exact (Below.refl _ _).alloc (Nat.le_refl _) _)
    have HPU := Lib.hid (putu C.length (by omega) w4)
    have HW4 := Lib.hid hw4
    clear o4 hw4 hCK
    go_wp2_with fail
    rw [← HW4.out]
    refine HPU.out.mono ?_
    rintro e w5 ⟨g5, c5, rfl, hg5, hb5, hbl5⟩
    have HB5 := Lib.hid (HB4.out.trans (hbl5.mono HB4.out.size))
    have HO5 := Lib.hid (own_below HO4.out hbl5)
    have H5 := Lib.hid hb5
    have HS5 := Lib.hid HB5.out.size
    clear hg5 hb5 hbl5
    go_wp2_with (at_builtin; refine wpList_append_bytes rfl (.tmp 48) (.tmp 52) rfl w3.heap.size _ 2 [k, 1] rfl HO5.out _ _ _ (pu C.length) rfl H5.out (by omega) HS5.out ?_)
    intro v6 w6 ho6 hg6
    have HB6 := Lib.hid (below_own HB5.out HO5.out hg6 (Nat.le_refl _) HS5.out)
    have HO6 := Lib.hid ho6
    have HBD6 := Lib.hid (HD3.out.keep HB6.out (Nat.le_refl _))
    have HS6 := Lib.hid HB6.out.size
    clear ho6 hg6
    go_wp2_with (at_builtin; refine wpList_append_bytes rfl (.tmp 54) (.tmp 55) rfl w3.heap.size v6 (2 + (pu C.length).length) ([k, 1] ++ pu C.length) rfl HO6.out _ _ _ D rfl HBD6.out (by omega) HS6.out ?_)
    intro v7 w7 ho7 hg7
    have HB7 := Lib.hid (below_own HB6.out HO6.out hg7 (Nat.le_refl _) HS6.out)
    have HBY := Lib.hid (show ∀ x ∈ ([k, 1] ++ pu C.length) ++ D, x < 256 from by
      intro x hx
      rcases List.mem_append.1 hx with e | e
      · rcases List.mem_append.1 e with e | e
        · simp only [List.mem_cons, List.not_mem_nil, or_false] at e
          omega
        · exact pu_bytes (by omega) x e
      · exact HBD6.out.byte x e)
    obtain ⟨a7, c7, rfl, h7, _⟩ := BytesAt.ofOwn ho7 HBY.out (by omega)
    have HCH := Lib.hid (show chunk k C = sealed (([k, 1] ++ pu C.length) ++ D) from HCK.out)
    have HSE := Lib.hid (seal_any (HT.out w7 (HB3.out.trans (HB7.out.mono HB3.out.size))) h7 (by omega))
    clear ho7 hg7 h7
    go_wp2_with fail
    refine HSE.out.mono ?_
    rintro e w8 ⟨a8, c8, rfl, h8, hb8, _, ho8⟩
    have HB8 := Lib.hid (HB3.out.trans ((HB7.out.trans (hb8.mono HB7.out.size)).mono HB3.out.size))
    have HO8 := Lib.hid (own_lower ho8 (show w.heap.size ≤ w7.heap.size from Nat.le_trans HB3.out.size HB7.out.size))
    have H8 := Lib.hid h8
    clear h8 hb8 ho8
    go_wp2_with fail
    first | go_ret2 | go_ret
    rw [HCH.out]
    exact ⟨a8, _, c8, rfl, HO8.out, H8.out, HB8.out⟩
  · rw [if_neg hlt] at hCK
    have HCK := Lib.hid hCK
    have hlti : ¬ (D.length : Int) < (C.length : Int) := by omega
    obtain ⟨w4, hw4⟩ : ∃ w4, w4 = w3.alloc (.cells #[.int .u8 (k : Int), .int .u8 0] 5) := ⟨_, rfl⟩
    have o4 := World.ownsRow_lit (base := w3.heap.size) (e := 5) (size := 1) w3 #[.int .u8 (k : Int), .int .u8 0] 2 (Nat.le_refl _) (by unfold maxLen; omega) rfl
    rw [← hw4] at o4
    have HO4 := Lib.hid (show w4.ownsRow w3.heap.size 5 1 (.slice (some ⟨w3.heap.size, 0, none⟩) 2 2) 2 (bv [k, 0]) from o4)
    have HB4 := Lib.hid (show Below w3.heap.size w3 w4 from by rw [hw4]; exact (Below.refl _ _).alloc (Nat.le_refl _) _)
    have HPU := Lib.hid (putu C.length (by omega) w4)
    have HW4 := Lib.hid hw4
    clear o4 hw4 hCK
    go_wp2_with fail
    rw [← HW4.out]
    refine HPU.out.mono ?_
    rintro e w5 ⟨g5, c5, rfl, hg5, hb5, hbl5⟩
    have HB5 := Lib.hid (HB4.out.trans (hbl5.mono HB4.out.size))
    have HO5 := Lib.hid (own_below HO4.out hbl5)
    have H5 := Lib.hid hb5
    have HS5 := Lib.hid HB5.out.size
    clear hg5 hb5 hbl5
    go_wp2_with (at_builtin; refine wpList_append_bytes rfl (.tmp 48) (.tmp 52) rfl w3.heap.size _ 2 [k, 0] rfl HO5.out _ _ _ (pu C.length) rfl H5.out (by omega) HS5.out ?_)
    intro v6 w6 ho6 hg6
    have HB6 := Lib.hid (below_own HB5.out HO5.out hg6 (Nat.le_refl _) HS5.out)
    have HO6 := Lib.hid ho6
    have HBD6 := Lib.hid (HC3.out.keep HB6.out (Nat.le_refl _))
    have HS6 := Lib.hid HB6.out.size
    clear ho6 hg6
    go_wp2_with (at_builtin; refine wpList_append_bytes rfl (.tmp 54) (.tmp 55) rfl w3.heap.size v6 (2 + (pu C.length).length) ([k, 0] ++ pu C.length) rfl HO6.out _ _ _ C rfl HBD6.out (by omega) HS6.out ?_)
    intro v7 w7 ho7 hg7
    have HB7 := Lib.hid (below_own HB6.out HO6.out hg7 (Nat.le_refl _) HS6.out)
    have HBY := Lib.hid (show ∀ x ∈ ([k, 0] ++ pu C.length) ++ C, x < 256 from by
      intro x hx
      rcases List.mem_append.1 hx with e | e
      · rcases List.mem_append.1 e with e | e
        · simp only [List.mem_cons, List.not_mem_nil, or_false] at e
          omega
        · exact pu_bytes (by omega) x e
      · exact HBD6.out.byte x e)
    obtain ⟨a7, c7, rfl, h7, _⟩ := BytesAt.ofOwn ho7 HBY.out (by omega)
    have HCH := Lib.hid (show chunk k C = sealed (([k, 0] ++ pu C.length) ++ C) from HCK.out)
    have HSE := Lib.hid (seal_any (HT.out w7 (HB3.out.trans (HB7.out.mono HB3.out.size))) h7 (by omega))
    clear ho7 hg7 h7
    go_wp2_with fail
    refine HSE.out.mono ?_
    rintro e w8 ⟨a8, c8, rfl, h8, hb8, _, ho8⟩
    have HB8 := Lib.hid (HB3.out.trans ((HB7.out.trans (hb8.mono HB7.out.size)).mono HB3.out.size))
    have HO8 := Lib.hid (own_lower ho8 (show w.heap.size ≤ w7.heap.size from Nat.le_trans HB3.out.size HB7.out.size))
    have H8 := Lib.hid h8
    clear h8 hb8 ho8
    go_wp2_with fail
    first | go_ret2 | go_ret
    rw [HCH.out]
    exact ⟨a8, _, c8, rfl, HO8.out, H8.out, HB8.out⟩


set_option maxRecDepth 100000 in
theorem pw_long {w : World} {a : Option Addr} {n c k : Nat} (hn : 2048 < n) :
    Calls Tryz.prog 41 #[.int .u8 (k : Int), .slice a n c, .func (.func 42) #[] #[]] w fun e w' => e = .returned (.tuple #[.slice none 0 0, .int .i64 5]) ∧ Below w.heap.size w w' := by
  have hni : (2048 : Int) < (n : Int) := by omega
  go_enter Tryz.func41, Tryz.ntmps41
  go_wp2_with fail
  go_ret2
  exact ⟨rfl, Below.refl _ _⟩
set_option maxRecDepth 100000 in
theorem pw_err {w : World} {a : Option Addr} {n c k : Nat} (hn : n ≤ 2048) (hC : Calls Tryz.prog 42 #[.slice a n c] w fun e w' => e = .returned (.tuple #[.slice none 0 0, .int .i64 5]) ∧ Below w.heap.size w w') :
    Calls Tryz.prog 41 #[.int .u8 (k : Int), .slice a n c, .func (.func 42) #[] #[]] w fun e w' => e = .returned (.tuple #[.slice none 0 0, .int .i64 5]) ∧ Below w.heap.size w w' := by
  have hni : ¬ ((2048 : Int) < (n : Int)) := by omega
  have HC := Lib.hid hC
  clear hC
  go_enter Tryz.func41, Tryz.ntmps41
  go_wp2_with fail
  refine HC.out.mono ?_
  rintro e w2 ⟨rfl, hb2⟩
  have HB2 := Lib.hid hb2
  clear hb2
  go_wp2_with fail
  go_ret2
  exact ⟨rfl, HB2.out⟩
set_option maxRecDepth 100000 in
theorem pw_big {w : World} {a : Option Addr} {n c k m : Nat} (hn : n ≤ 2048) (hm : 65536 < m) (hC : Calls Tryz.prog 42 #[.slice a n c] w fun e w' => ∃ ac cc, e = .returned (.tuple #[.slice ac m cc, .int .i64 0]) ∧ Below w.heap.size w w') :
    Calls Tryz.prog 41 #[.int .u8 (k : Int), .slice a n c, .func (.func 42) #[] #[]] w fun e w' => e = .returned (.tuple #[.slice none 0 0, .int .i64 5]) ∧ Below w.heap.size w w' := by
  have hni : ¬ ((2048 : Int) < (n : Int)) := by omega
  have hmi : (65536 : Int) < (m : Int) := by omega
  have HC := Lib.hid hC
  clear hC
  go_enter Tryz.func41, Tryz.ntmps41
  go_wp2_with fail
  refine HC.out.mono ?_
  rintro e w2 ⟨ac, cc, rfl, hb2⟩
  have HB2 := Lib.hid hb2
  clear hb2
  go_wp2_with fail
  go_ret2
  exact ⟨rfl, HB2.out⟩

def wdErr (l : List ByteArray) : Bool := decide (2048 < l.length) || !fitTo l l.length || decide (65536 < (wordsC l).length)
/-- what PutWords answers -/
def PwSays (w : World) (l : List ByteArray) (e : Ending) (w' : World) : Prop :=
  (if wdErr l = true then e = .returned (.tuple #[.slice none 0 0, .int .i64 5]) else ∃ a' m' c', e = .returned (.tuple #[.slice a' m' c', .int .i64 0]) ∧ w'.ownsRow w.heap.size 5 1 (.slice a' m' c') m' (bv (chunk 2 (wordsC l))) ∧ BytesAt w' a' m' c' (chunk 2 (wordsC l))) ∧ Below w.heap.size w w'
set_option maxRecDepth 100000 in
theorem putwords_any {w : World} (hT : Table w) {a : Option Addr} {n c : Nat} {l : List ByteArray} (h : VecAt StrS w a n c l) :
    Calls Tryz.prog 14 #[.slice a n c] w fun e w' => PwSays w l e w' := by
  have hl := h.len
  have HP : Calls Tryz.prog 41 #[.int .u8 (((2 : Nat) : Int)), .slice a n c, .func (.func 42) #[] #[]] w fun e w' => PwSays w l e w' := by
    by_cases h1 : 2048 < n
    · refine (pw_long h1).mono ?_
      rintro e w' ⟨rfl, hb⟩
      refine ⟨?_, hb⟩
      rw [if_pos (by unfold wdErr; rw [decide_eq_true (by omega : 2048 < l.length)]; rfl)]
    · cases hf : fitTo l l.length with
      | false =>
        refine (pw_err (by omega) ((wordsContent_any h (by omega)).mono ?_)).mono ?_
        · rintro e w' ⟨he, hb⟩
          rw [if_neg (by rw [hf]; simp)] at he
          exact ⟨he, hb⟩
        · rintro e w' ⟨rfl, hb⟩
          refine ⟨?_, hb⟩
          rw [if_pos (by unfold wdErr; rw [hf]; simp)]
      | true =>
        have hF : ∀ s ∈ l, s.size ≤ 1024 := fit_all hf
        have hbyte : ∀ x ∈ wordsC l, x < 256 := wordsC_byte (by omega) hF
        have hlen : (wordsC l).length ≤ 10000000 := wordsC_len (by omega) hF
        by_cases h2 : 65536 < (wordsC l).length
        · refine (pw_big (by omega) h2 ((wordsContent_any h (by omega)).mono ?_)).mono ?_
          · rintro e w' ⟨he, hb⟩
            rw [if_pos hf] at he
            obtain ⟨v, rfl, ho⟩ := he
            obtain ⟨ac, cc, rfl, _, _⟩ := BytesAt.ofOwn ho hbyte (by omega)
            exact ⟨ac, cc, rfl, hb⟩
          · rintro e w' ⟨rfl, hb⟩
            refine ⟨?_, hb⟩
            rw [if_pos (by unfold wdErr; rw [decide_eq_true h2]; simp)]
        · refine (putWd_any (k := 2) hT (by omega) (by omega) ((wordsContent_any h (by omega)).mono ?_) hbyte (by omega)).mono ?_
          · rintro e w' ⟨he, hb⟩
            rw [if_pos hf] at he
            obtain ⟨v, rfl, ho⟩ := he
            exact ⟨v, rfl, ho, hb⟩
          · rintro e w' ⟨a', m', c', rfl, ho, hb, hbl⟩
            refine ⟨?_, hbl⟩
            rw [if_neg (by unfold wdErr; rw [hf, decide_eq_false h2, decide_eq_false (by omega : ¬ 2048 < l.length)]; simp)]
            exact ⟨a', m', c', rfl, ho, hb⟩
  have HP := Lib.hid HP
  clear h hT
  go_enter Tryz.func14, Tryz.ntmps14
  go_wp2_with fail
  refine HP.out.mono ?_
  intro e w' hs
  have HS := Lib.hid hs
  by_cases he : wdErr l = true
  · have h1 := hs.1
    rw [if_pos he] at h1
    subst h1
    clear hs
    go_wp2_with fail
    go_ret2
    exact HS.out
  · have h1 := hs.1
    rw [if_neg he] at h1
    obtain ⟨a', m', c', rfl, _, _⟩ := h1
    clear hs
    go_wp2_with fail
    go_ret2
    exact HS.out
end Go.Proofs.YtpbijdoemdoijaaGreatDoor
end PkCa19_0
