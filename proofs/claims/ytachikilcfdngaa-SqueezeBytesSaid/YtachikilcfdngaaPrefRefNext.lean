/- The document's answer for prefix codes, walked: next, a word that is one more. -/
import Derived.Test.YtachikilcfdngaaPrefRef
import Derived.Laws.IdiomStrings
namespace Go.Proofs.Ytachikilcfdngaa
open Go.RowKit PrefPlain BitsPlain
set_option linter.unusedVariables false

/-- bytes of a text, in a block of their own -/
structure NB (w0 w : World) (g : Nat) (xs : List Nat) : Prop where
  cell : ∀ i, i < xs.length → w.cell? ⟨g, i, none⟩ = some (.int .u8 ((xs.getD i 0 : Nat) : Int))
  fr : ∀ i, i < xs.length → w.frozen? ⟨g, i, none⟩ = false
  below : Below w0.heap.size w0 w
  new : w0.heap.size ≤ g
theorem NB.put {w0 w : World} {g : Nat} {xs : List Nat} (h : NB w0 w g xs) (i y : Nat) (hi : i < xs.length) : NB w0 (w.setCell ⟨g, i, none⟩ (.int .u8 (y : Int))) g (xs.set i y) := by
  refine ⟨fun k hk => ?_, fun k hk => ?_, h.below.setCell (p := ⟨g, i, none⟩) h.new _, h.new⟩
  · rw [List.length_set] at hk
    by_cases e : i = k
    · subst e
      rw [World.cell?_setCell_same _ _ _ (h.cell i hi)]
      simp [hi]
    · rw [World.cell?_setCell_other _ _ _ _ (by intro e2; cases e2; exact e rfl), h.cell k hk]
      simp [e, hk]
  · rw [List.length_set] at hk
    rw [World.frozen?_setCell, h.fr k hk]
theorem NB.conv {w0 w : World} {g : Nat} {xs : List Nat} (h : NB w0 w g xs) (c : Nat) : (convert 22 9 (.slice (some ⟨g, 0, none⟩) xs.length c)).run Try.prog w = .ok (.string (bs xs)) w :=
  run_convert_bytes_arg (P := Try.prog) w 22 5 Try.underlying22 Try.underlying5 g 0 xs.length c (xs.map fun (x : Nat) => (x : Int)) (by simp) (fun i hi => by
    rw [Nat.zero_add, h.cell i hi]
    simp [hi]) 9 Try.underlying9
theorem NB.start (w : World) (xs : List Nat) (hx : ∀ x ∈ xs, x < 256) (s : ByteArray) (hs : s = bs xs) :
    ∃ w1 c, (convert 9 22 (.string s)).run Try.prog w = .ok (.slice (some ⟨w.heap.size, 0, none⟩) xs.length c) w1 ∧ NB w w1 w.heap.size xs := by
  have hr := run_bytes_of_string (P := Try.prog) w 9 22 5 s Try.underlying9 Try.underlying22 Try.underlying5
  have hsz : s.size = xs.length := by rw [hs, bs_size]
  have hsz2 : s.data.size = xs.length := hsz
  refine ⟨_, _, by rw [hr, hsz], ?_, ?_, ?_, Nat.le_refl _⟩
  · intro i hi
    have h1 := World.cell?_alloc_mark w.drew (bytesRow s (grownCap w s.size 0 5)) 5 ((bytesRow s (grownCap w s.size 0 5)).size, (bytesRow s (grownCap w s.size 0 5)).size + 1) i
    rw [bytesRow_at s _ i (by omega)] at h1
    have h2 := bs_at hx (i := i) (by rw [← hs, hsz]; exact hi)
    have h3 : s.data[i]'(by omega) = (bs xs)[i]'(by rw [← hs, hsz]; exact hi) := by subst hs; rfl
    rw [h3, h2] at h1
    rw [← hsz]
    exact h1
  · intro i hi
    have h1 := World.frozen?_alloc_mark w.drew (bytesRow s (grownCap w s.size 0 5)) 5 (bytesRow s (grownCap w s.size 0 5)).size ((bytesRow s (grownCap w s.size 0 5)).size + 1) i
    have h4 : xs.length ≤ (bytesRow s (grownCap w s.size 0 5)).size := by unfold bytesRow; simp; omega
    rw [decide_eq_false (by omega), Bool.false_and] at h1
    rw [← hsz]
    exact h1
  · rw [← hsz]
    exact (Below.refl _ _).drew.alloc (Nat.le_refl _) _

set_option maxRecDepth 100000 in
set_option maxHeartbeats 2000000 in
theorem next1_any (w : World) (V m : Nat) (hm : m ≤ 15) (hV : V + 1 < 2 ^ m) :
    Calls Try.prog 40 #[.string (bs (txt V m))] w fun e w' => e = .returned (.string (bs (txt (V + 1) m))) ∧ Below w.heap.size w w' := by
  have hm0 : 0 < m := by
    rcases Nat.eq_zero_or_pos m with g | g
    · subst g; simp at hV
    · exact g
  obtain ⟨s, hs⟩ : ∃ s, s = bs (txt V m) := ⟨_, rfl⟩
  rw [← hs]
  obtain ⟨w1, c, hcv, hnb⟩ := NB.start w (txt V m) (txt_byte V m) s hs
  obtain ⟨T, hT⟩ : ∃ T, T = txt V m := ⟨_, rfl⟩
  have hTl : T.length = m := by rw [hT, txt_len]
  rw [← hT, hTl] at hcv
  have HNB := Lib.hid hnb
  have HV := Lib.hid hV
  have hg : w.heap.size ≤ w.heap.size := Nat.le_refl _
  obtain ⟨g, hge⟩ : ∃ g, g = w.heap.size := ⟨_, rfl⟩
  have HNB' : Hid (NB w w1 g (txt V m)) := by rw [hge]; exact HNB
  rw [← hge] at hcv
  have e1 : IntKind.i64.wrap ((m : Int) - 1) = ((m - 1 : Nat) : Int) := by rw [IntWalk.i64_in _ (by omega)]; omega
  clear hnb hV HNB hg hge hT hTl hs
  go_enter Try.func40, Try.ntmps40
  go_wp2_with fail
  go_loopw [4] (fun s4 wr => ∃ t q j : Nat, t + j + 1 = m ∧ s4 = .int .i64 (t : Int) ∧ Hid (V + 1 = q * 2 ^ j + 2 ^ j) ∧ Hid (NB w wr g (txt (q * 2 ^ j) m))) (fun s4 _ => (intOf s4).toNat)
  case atStart => exact ⟨m - 1, V, 0, by omega, by first | rfl | (congr 1; omega), Lib.hid (by simp), Lib.hid (by simpa using HNB'.out)⟩
  case round =>
    obtain ⟨t, q, j, ht, rfl, HQ, HN⟩ := hrel
    rename World => wr
    have htl : t < (txt (q * 2 ^ j) m).length := by rw [txt_len]; omega
    have hc := HN.out.cell t htl
    have hf := HN.out.fr t htl
    have hdig : (txt (q * 2 ^ j) m).getD t 0 = 48 + q % 2 := by
      rw [txt_getD (by omega), show m - 1 - t = j from by omega, Nat.mul_div_cancel _ (Nat.two_pow_pos _)]
    rw [hdig] at hc
    have htm : (t : Int) < (m : Int) := by omega
    have htn : t < m := by omega
    by_cases hq : q % 2 = 1
    · rw [hq] at hc
      have hp := HN.out.put t 48 htl
      have hset := txt_set (q := q) (j := j) (m := m) (d := 0) (by omega) (by omega)
      rw [show m - 1 - j = t from by omega] at hset
      rw [hset, Nat.add_zero, Nat.mul_assoc, show 2 * 2 ^ j = 2 ^ (j + 1) from by rw [Nat.pow_succ, Nat.mul_comm]] at hp
      have hQ2 : V + 1 = q / 2 * 2 ^ (j + 1) + 2 ^ (j + 1) := by
        rw [HQ.out, Nat.pow_succ, ← Nat.add_one_mul, ← Nat.add_one_mul]
        rw [show q + 1 = (q / 2 + 1) * 2 from by omega, Nat.mul_assoc, Nat.mul_comm 2]
      have ht1 : 1 ≤ t := by
        rcases Nat.eq_zero_or_pos t with g0 | g0
        · exfalso
          have h1 := HV.out
          rw [hQ2, show m = j + 1 from by omega] at h1
          have : 0 ≤ q / 2 * 2 ^ (j + 1) := Nat.zero_le _
          omega
        · exact g0
      have HP := Lib.hid hp
      have HQ2 := Lib.hid hQ2
      have et : IntKind.i64.wrap ((t : Int) - 1) = ((t - 1 : Nat) : Int) := by rw [IntWalk.i64_in _ (by omega)]; omega
      clear hdig hq hp hset hQ2
      go_wp2_with fail
      go_roundw
      case rel => exact ⟨t - 1, q / 2, j + 1, by omega, by first | rfl | (congr 1; omega), HQ2, HP⟩
      case measure => simp [intOf]; omega
    · have hq0 : q % 2 = 0 := by omega
      rw [hq0] at hc
      have hp := HN.out.put t 49 htl
      have hset := txt_set (q := q) (j := j) (m := m) (d := 1) (by omega) (by omega)
      rw [show m - 1 - j = t from by omega] at hset
      have hv1 : (q / 2 * 2 + 1) * 2 ^ j = V + 1 := by rw [HQ.out, show q / 2 * 2 + 1 = q + 1 from by omega, Nat.add_one_mul]
      rw [hset, hv1] at hp
      have hcv2 := hp.conv c
      rw [txt_len] at hcv2
      have HB := Lib.hid hp.below
      have hcv3 : (convert 22 9 (.slice (some ⟨g, 0, none⟩) m c)).run Try.prog (wr.setCell ⟨g, t, none⟩ (.int .u8 49)) = .ok (.string (bs (txt (V + 1) m))) (wr.setCell ⟨g, t, none⟩ (.int .u8 49)) := hcv2
      clear hdig hq hq0 hp hset hv1 hcv hcv2
      go_wp2_with fail
      go_ret
      exact ⟨rfl, HB.out⟩
end Go.Proofs.Ytachikilcfdngaa
