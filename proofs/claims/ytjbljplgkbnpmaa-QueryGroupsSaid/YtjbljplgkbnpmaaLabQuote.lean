/- Package label's quoted, walked: a value as it stands in a text. -/
import Derived.Test.YtjbljplgkbnpmaaLabRight
import Derived.Test.YtjbljplgkbnpmaaApnd
import Derived.Deep.RegionLaw
import Derived.BigRegion
import Derived.Maps.AppendAt
import Derived.Laws.BitsAllLaws
namespace Go.Proofs.Ytjbljplgkbnpmaa
open Go.RowKit LabPlain
set_option linter.unusedVariables false

/-- a digit of a byte; a byte, as it is written -/
def dg (n : Nat) : Nat := if n < 10 then 48 + n else 87 + n
def plainC (c : Nat) : Bool := decide (32 ≤ c) && decide (c ≤ 126) && decide (c ≠ 34) && decide (c ≠ 92)
def qb (c : Nat) : List Nat := if plainC c then [c] else [92, dg (c / 16), dg (c % 16)]
/-- the first k bytes of a value, as they are written -/
def qs (s : ByteArray) : Nat → List Nat
  | 0 => []
  | k + 1 => qs s k ++ qb (at_ s k)
theorem dg_lt (n : Nat) (h : n < 16) : dg n < 256 := by unfold dg; split <;> omega
theorem qb_byte {c : Nat} (h : c < 256) : ∀ x ∈ qb c, x < 256 := by
  intro x hx
  unfold qb at hx
  split at hx
  · simp at hx; omega
  · have h1 := dg_lt (c / 16) (by omega)
    have h2 := dg_lt (c % 16) (by omega)
    simp at hx
    omega
theorem qs_byte (s : ByteArray) : ∀ k, ∀ x ∈ qs s k, x < 256
  | 0, x, hx => by cases hx
  | k + 1, x, hx => by
    rcases List.mem_append.1 hx with h | h
    · exact qs_byte s k x h
    · exact qb_byte (at_lt s k) x h
theorem qs_len (s : ByteArray) : ∀ k, (qs s k).length ≤ 3 * k
  | 0 => by simp [qs]
  | k + 1 => by
    have := qs_len s k
    have h2 : (qb (at_ s k)).length ≤ 3 := by unfold qb; split <;> simp
    rw [qs, List.length_append]; omega
theorem dig_at : ∀ n, n < 16 → ((({ data := #[48, 49, 50, 51, 52, 53, 54, 55, 56, 57, 97, 98, 99, 100, 101, 102] } : ByteArray)[n]?).map UInt8.toNat) = some (dg n) := by decide

set_option maxRecDepth 100000 in
set_option maxHeartbeats 1000000 in
theorem quoted_any (s : ByteArray) (hs : s.size ≤ 1000) (w : World) :
    Calls Try.prog 64 #[.string s] w fun e w' => e = .returned (.string (bs (qs s s.size))) ∧ Below w.heap.size w w' := by
  obtain ⟨i0, hi, hz0, hz1, hz2⟩ := info_parts info_u8
  have HO0 := Lib.hid (own_nil_bytes w w.heap.size)
  go_enter Try.func64, Try.ntmps64
  go_wp2_with fail
  go_loopw [3, 8] (fun s3 s8 wr => ∃ (k m c : Nat) (a : Option Addr), k ≤ s.size ∧ s8 = .int .i64 (k : Int) ∧ s3 = .slice a m c ∧ Hid (m = (qs s k).length) ∧ Hid (wr.ownsRow w.heap.size 5 1 (.slice a m c) m (bv (qs s k))) ∧ Hid (Below w.heap.size w wr)) (fun _ s8 _ => s.size - (intOf s8).toNat)
  case atStart => exact ⟨0, 0, 0, none, by omega, rfl, rfl, Lib.hid rfl, HO0, Lib.hid (Below.refl _ _)⟩
  case round =>
    clear HO0
    obtain ⟨k, m, cp, a, hk, rfl, rfl, HM, HO, HB⟩ := hrel
    rename World => wr
    by_cases hks : k < s.size
    · obtain ⟨c, hc⟩ : ∃ c, c = at_ s k := ⟨_, rfl⟩
      have hsk : (s[k]'hks).toNat = c := by rw [hc, at_get s k hks]
      have hcl : c < 256 := by rw [hc]; exact at_lt s k
      have HCK := Lib.hid hc
      have hm3 : m ≤ 3000 := by have := qs_len s k; have := HM.out; omega
      have hbs := HB.out.size
      clear hc
      by_cases hp : plainC c = true
      · have hpp : 32 ≤ c ∧ c ≤ 126 ∧ c ≠ 34 ∧ c ≠ 92 := by simpa [plainC, and_assoc] using hp
        obtain ⟨p1, p2, p3, p4⟩ := hpp
        have HQ := Lib.hid (show qs s (k + 1) = qs s k ++ [c] by rw [qs, ← HCK.out]; unfold qb; rw [if_pos hp])
        have i1 : (32 : Int) ≤ (c : Int) := by omega
        have i2 : (c : Int) ≤ 126 := by omega
        have i3 : ((c : Int) == 34) = false := by rw [beq_eq_false_iff_ne]; omega
        have i4 : ((c : Int) == 92) = false := by rw [beq_eq_false_iff_ne]; omega
        clear p1 p2 p3 p4 hp
        have HOA := Lib.hid (HO.out.alloc (.cells #[.int .u8 (c : Int)] 5))
        go_wp2_with (at_builtin; refine wpList_append_own_at _ rfl (.tmp 37) (.tmp 39) 109 rfl w.heap.size 5 i0 (.int .u8 0) 1 1 Try.underlying109 hi hz0 hz1 hz2 rfl (by decide) _ _ _ rfl HOA.out ⟨wr.heap.size, 0, none⟩ 1 1 [.int .u8 (c : Int)] rfl rfl (one_src _ _ _) (one_oneCell rfl) (by unfold maxLen; omega) (by omega) (by simp; omega) ?_)
        intro v2 w2 ho2 hg2 _ _
        obtain ⟨g2, c2, rfl⟩ := own_some2 ho2 (by omega)
        have HB2 := Lib.hid (below_own (HB.out.alloc hbs (.cells #[.int .u8 (c : Int)] 5)) HOA.out hg2 (Nat.le_refl _) (by simp; omega))
        have HO2 := Lib.hid ho2
        clear ho2 hg2
        go_wp2_with fail
        go_roundw
        case rel => exact ⟨k + 1, m + 1, c2, _, by omega, by go_num, rfl, Lib.hid (by rw [HQ.out, List.length_append, ← HM.out]; rfl), Lib.hid (by rw [HQ.out, bv_append]; exact HO2.out), HB2⟩
        case measure => simp [intOf]; omega
      · have hp2 : plainC c = false := by simpa using hp
        have HQ := Lib.hid (show qs s (k + 1) = qs s k ++ [92, dg (c / 16), dg (c % 16)] by rw [qs, ← HCK.out]; unfold qb; rw [if_neg hp])
        have hpp : ((c : Int) < 32) ∨ ((32 : Int) ≤ (c : Int) ∧ (126 : Int) < (c : Int)) ∨ ((32 : Int) ≤ (c : Int) ∧ (c : Int) ≤ 126 ∧ ((c : Int) == 34) = true) ∨ ((32 : Int) ≤ (c : Int) ∧ (c : Int) ≤ 126 ∧ ((c : Int) == 34) = false ∧ ((c : Int) == 92) = true) := by
          simp [plainC] at hp2
          simp only [beq_iff_eq, beq_eq_false_iff_ne]
          omega
        have hand : bits .and .u8 (c : Int) 15 = ((c % 16 : Nat) : Int) := by
          have := u8_and_nat c 15 hcl (by omega)
          rw [nat_mask4] at this
          exact this
        obtain ⟨h, hh⟩ : ∃ h, h = c / 16 := ⟨_, rfl⟩
        obtain ⟨l, hl⟩ : ∃ l, l = c % 16 := ⟨_, rfl⟩
        have hdiv : (c : Int) / 16 = (h : Int) := by omega
        have hh16 : h < 16 := by omega
        have hl16 : l < 16 := by omega
        have hhi : (h : Int) < 16 := by omega
        have hli : (l : Int) < 16 := by omega
        rw [← hl] at hand HQ
        rw [← hh] at HQ
        obtain ⟨d1, hd1⟩ : ∃ d, d = dg h := ⟨_, rfl⟩
        obtain ⟨d2, hd2⟩ : ∃ d, d = dg l := ⟨_, rfl⟩
        have hx1 : ((({ data := #[48, 49, 50, 51, 52, 53, 54, 55, 56, 57, 97, 98, 99, 100, 101, 102] } : ByteArray)[h]'hh16).toNat : Nat) = d1 := by
          have := dig_at h hh16
          rw [ByteArray.getElem?_lt' _ _ hh16] at this
          rw [hd1]
          exact Option.some.inj this
        have hx2 : ((({ data := #[48, 49, 50, 51, 52, 53, 54, 55, 56, 57, 97, 98, 99, 100, 101, 102] } : ByteArray)[l]'hl16).toNat : Nat) = d2 := by
          have := dig_at l hl16
          rw [ByteArray.getElem?_lt' _ _ hl16] at this
          rw [hd2]
          exact Option.some.inj this
        have hd1l : d1 < 256 := by rw [hd1]; exact dg_lt _ hh16
        have hd2l : d2 < 256 := by rw [hd2]; exact dg_lt _ hl16
        rw [← hd1, ← hd2] at HQ
        have HLIT := Lib.hid (BytesAt.lit wr #[.int .u8 92, .int .u8 (d1 : Int), .int .u8 (d2 : Int)] [92, d1, d2] rfl (by intro x hx; simp at hx; omega) (by simp) (by simp)).drew
        have HOA := Lib.hid ((HO.out.alloc (.cells #[.int .u8 92, .int .u8 (d1 : Int), .int .u8 (d2 : Int)] 5)).drew)
        have HBA := Lib.hid ((HB.out.alloc hbs (.cells #[.int .u8 92, .int .u8 (d1 : Int), .int .u8 (d2 : Int)] 5)).drew)
        clear hp hp2 hh hl hd1 hd2
        rcases hpp with i1 | ⟨i1, i2⟩ | ⟨i1, i2, i3⟩ | ⟨i1, i2, i3, i4⟩
        all_goals
          go_wp2_with fail
          go_region_law (first | (refine step_append_own_at2 rfl (.tmp 28) (.tmp 35) 109 rfl w.heap.size 5 i0 (.int .u8 0) 1 1 Try.underlying109 hi hz0 hz1 hz2 rfl (by decide) _ _ _ rfl HOA.out ⟨wr.heap.size, 0, none⟩ 3 3 (bv [92, d1, d2]) rfl rfl HLIT.out.src (bv_oneCell _) (by unfold maxLen; omega) (by omega) (by simp; omega) ?_; intro v2 w2 ho2 hg2 hat2))
          all_goals
            obtain ⟨g2, c2, rfl⟩ := own_some2 ho2 (by omega)
            have HB2 := Lib.hid (below_own HBA.out HOA.out hg2 (Nat.le_refl _) (by simp; omega))
            have HO2 := Lib.hid ho2
            clear ho2 hg2 hat2
            go_wp2_with fail
            go_roundw
            case rel => exact ⟨k + 1, m + 3, c2, _, by omega, by go_num, rfl, Lib.hid (by rw [HQ.out, List.length_append, ← HM.out]; rfl), Lib.hid (by rw [HQ.out, bv_append]; exact HO2.out), HB2⟩
            case measure => simp [intOf]; omega
    · obtain rfl : k = s.size := by omega
      obtain ⟨a9, c9, he9, hba, _⟩ := BytesAt.ofOwn HO.out (qs_byte s _) (by have := qs_len s s.size; have := HM.out; omega)
      simp only [Value.slice.injEq, true_and] at he9
      obtain ⟨rfl, rfl⟩ := he9
      have hcv := hba.conv
      have HB9 := HB
      clear hks hba
      go_wp2_with fail
      go_ret
      exact ⟨rfl, HB9.out⟩
end Go.Proofs.Ytjbljplgkbnpmaa
