/- Texts put together by packtpl2.py: PrefRefNext, PrefRefWords, SqRCode. -/
import Derived.Test.YtpbijdoemdoijaaGreatDoorPkCa46
import Derived.Test.YtpbijdoemdoijaaGreatDoorPkCa47
import Derived.Laws.IdiomStrings
import Derived.Deep.OwnRows
import Derived.Maps.AppendAt
section PkCa48_0
/- The document's answer for prefix codes, walked: next, a word that is one more. -/
namespace Go.Proofs.YtpbijdoemdoijaaGreatDoor
open Go.RowKit PrefPlain BitsPlain
set_option linter.unusedVariables false

/-- bytes of a text, in a block of their own -/
structure NB (w0 w : World) (g : Nat) (xs : List Nat) : Prop where
  cell : ∀ i, i < xs.length → w.cell? ⟨g, i, none⟩ = some (.int .u8 ((xs.getD i 0 : Nat) : Int))
  fr : ∀ i, i < xs.length → w.frozen? ⟨g, i, none⟩ = false
  below : Below w0.heap.size w0 w
  new : w0.heap.size ≤ g
theorem NB.put {w0 w : World} {g : Nat} {xs : List Nat} (h : NB w0 w g xs) (i y : Nat) (hi : i < xs.length) : NB w0 (w.setCell ⟨g, i, none⟩ (.int .u8 (y : Int))) g (xs.set i y) := by
  refine ⟨fun k hk => ?_, fun k hk => ?_, h.below.setCell (p := ⟨g, i, none⟩) h.new _, h.new⟩
  · rw [List.length_set] at hk
    by_cases e : i = k
    · subst e
      rw [World.cell?_setCell_same _ _ _ (h.cell i hi)]
      simp [hi]
    · rw [World.cell?_setCell_other _ _ _ _ (by intro e2; cases e2; exact e rfl), h.cell k hk]
      simp [e, hk]
  · rw [List.length_set] at hk
    rw [World.frozen?_setCell, h.fr k hk]
theorem NB.conv {w0 w : World} {g : Nat} {xs : List Nat} (h : NB w0 w g xs) (c : Nat) : (convert 27 9 (.slice (some ⟨g, 0, none⟩) xs.length c)).run Tryz.prog w = .ok (.string (bs xs)) w :=
  run_convert_bytes_arg (P := Tryz.prog) w 27 5 Tryz.underlying27 Tryz.underlying5 g 0 xs.length c (xs.map fun (x : Nat) => (x : Int)) (by simp) (fun i hi => by
    rw [Nat.zero_add, h.cell i hi]
    simp [hi]) 9 Tryz.underlying9
theorem NB.start (w : World) (xs : List Nat) (hx : ∀ x ∈ xs, x < 256) (s : ByteArray) (hs : s = bs xs) :
    ∃ w1 c, (convert 9 27 (.string s)).run Tryz.prog w = .ok (.slice (some ⟨w.heap.size, 0, none⟩) xs.length c) w1 ∧ NB w w1 w.heap.size xs := by
  have hr := run_bytes_of_string (P := Tryz.prog) w 9 27 5 s Tryz.underlying9 Tryz.underlying27 Tryz.underlying5
  have hsz : s.size = xs.length := by rw [hs, bs_size]
  have hsz2 : s.data.size = xs.length := hsz
  refine ⟨_, _, by rw [hr, hsz], ?_, ?_, ?_, Nat.le_refl _⟩
  · intro i hi
    have h1 := World.cell?_alloc_mark w.drew (bytesRow s (grownCap w s.size 0 5)) 5 ((bytesRow s (grownCap w s.size 0 5)).size, (bytesRow s (grownCap w s.size 0 5)).size + 1) i
    rw [bytesRow_at s _ i (by omega)] at h1
    have h2 := bs_at hx (i := i) (by rw [← hs, hsz]; exact hi)
    have h3 : s.data[i]'(by omega) = (bs xs)[i]'(by rw [← hs, hsz]; exact hi) := by subst hs; rfl
    rw [h3, h2] at h1
    rw [← hsz]
    exact h1
  · intro i hi
    have h1 := World.frozen?_alloc_mark w.drew (bytesRow s (grownCap w s.size 0 5)) 5 (bytesRow s (grownCap w s.size 0 5)).size ((bytesRow s (grownCap w s.size 0 5)).size + 1) i
    have h4 : xs.length ≤ (bytesRow s (grownCap w s.size 0 5)).size := by unfold bytesRow; simp; omega
    rw [decide_eq_false (by omega), Bool.false_and] at h1
    rw [← hsz]
    exact h1
  · rw [← hsz]
    exact (Below.refl _ _).drew.alloc (Nat.le_refl _) _

set_option maxRecDepth 100000 in
set_option maxHeartbeats 2000000 in
theorem next1_any (w : World) (V m : Nat) (hm : m ≤ 15) (hV : V + 1 < 2 ^ m) :
    Calls Tryz.prog 153 #[.string (bs (txt V m))] w fun e w' => e = .returned (.string (bs (txt (V + 1) m))) ∧ Below w.heap.size w w' := by
  have hm0 : 0 < m := by
    rcases Nat.eq_zero_or_pos m with g | g
    · subst g; simp at hV
    · exact g
  obtain ⟨s, hs⟩ : ∃ s, s = bs (txt V m) := ⟨_, rfl⟩
  rw [← hs]
  obtain ⟨w1, c, hcv, hnb⟩ := NB.start w (txt V m) (txt_byte V m) s hs
  obtain ⟨T, hT⟩ : ∃ T, T = txt V m := ⟨_, rfl⟩
  have hTl : T.length = m := by rw [hT, txt_len]
  rw [← hT, hTl] at hcv
  have HNB := Lib.hid hnb
  have HV := Lib.hid hV
  have hg : w.heap.size ≤ w.heap.size := Nat.le_refl _
  obtain ⟨g, hge⟩ : ∃ g, g = w.heap.size := ⟨_, rfl⟩
  have HNB' : Hid (NB w w1 g (txt V m)) := by rw [hge]; exact HNB
  rw [← hge] at hcv
  have e1 : IntKind.i64.wrap ((m : Int) - 1) = ((m - 1 : Nat) : Int) := by rw [IntWalk.i64_in _ (by omega)]; omega
  clear hnb hV HNB hg hge hT hTl hs
  go_enter Tryz.func153, Tryz.ntmps153
  go_wp2_with fail
  go_loopw [4] (fun s4 wr => ∃ t q j : Nat, t + j + 1 = m ∧ s4 = .int .i64 (t : Int) ∧ Hid (V + 1 = q * 2 ^ j + 2 ^ j) ∧ Hid (NB w wr g (txt (q * 2 ^ j) m))) (fun s4 _ => (intOf s4).toNat)
  case atStart => exact ⟨m - 1, V, 0, by omega, by first | rfl | (congr 1; omega), Lib.hid (by simp), Lib.hid (by simpa using HNB'.out)⟩
  case round =>
    obtain ⟨t, q, j, ht, rfl, HQ, HN⟩ := hrel
    rename World => wr
    have htl : t < (txt (q * 2 ^ j) m).length := by rw [txt_len]; omega
    have hc := HN.out.cell t htl
    have hf := HN.out.fr t htl
    have hdig : (txt (q * 2 ^ j) m).getD t 0 = 48 + q % 2 := by
      rw [txt_getD (by omega), show m - 1 - t = j from by omega, Nat.mul_div_cancel _ (Nat.two_pow_pos _)]
    rw [hdig] at hc
    have htm : (t : Int) < (m : Int) := by omega
    have htn : t < m := by omega
    by_cases hq : q % 2 = 1
    · rw [hq] at hc
      have hp := HN.out.put t 48 htl
      have hset := txt_set (q := q) (j := j) (m := m) (d := 0) (by omega) (by omega)
      rw [show m - 1 - j = t from by omega] at hset
      rw [hset, Nat.add_zero, Nat.mul_assoc, show 2 * 2 ^ j = 2 ^ (j + 1) from by rw [Nat.pow_succ, Nat.mul_comm]] at hp
      have hQ2 : V + 1 = q / 2 * 2 ^ (j + 1) + 2 ^ (j + 1) := by
        rw [HQ.out, Nat.pow_succ, ← Nat.add_one_mul, ← Nat.add_one_mul]
        rw [show q + 1 = (q / 2 + 1) * 2 from by omega, Nat.mul_assoc, Nat.mul_comm 2]
      have ht1 : 1 ≤ t := by
        rcases Nat.eq_zero_or_pos t with g0 | g0
        · exfalso
          have h1 := HV.out
          rw [hQ2, show m = j + 1 from by omega] at h1
          have : 0 ≤ q / 2 * 2 ^ (j + 1) := Nat.zero_le _
          omega
        · exact g0
      have HP := Lib.hid hp
      have HQ2 := Lib.hid hQ2
      have et : IntKind.i64.wrap ((t : Int) - 1) = ((t - 1 : Nat) : Int) := by rw [IntWalk.i64_in _ (by omega)]; omega
      clear hdig hq hp hset hQ2
      go_wp2_with fail
      go_roundw
      case rel => exact ⟨t - 1, q / 2, j + 1, by omega, by first | rfl | (congr 1; omega), HQ2, HP⟩
      case measure => simp [intOf]; omega
    · have hq0 : q % 2 = 0 := by omega
      rw [hq0] at hc
      have hp := HN.out.put t 49 htl
      have hset := txt_set (q := q) (j := j) (m := m) (d := 1) (by omega) (by omega)
      rw [show m - 1 - j = t from by omega] at hset
      have hv1 : (q / 2 * 2 + 1) * 2 ^ j = V + 1 := by rw [HQ.out, show q / 2 * 2 + 1 = q + 1 from by omega, Nat.add_one_mul]
      rw [hset, hv1] at hp
      have hcv2 := hp.conv c
      rw [txt_len] at hcv2
      have HB := Lib.hid hp.below
      have hcv3 : (convert 27 9 (.slice (some ⟨g, 0, none⟩) m c)).run Tryz.prog (wr.setCell ⟨g, t, none⟩ (.int .u8 49)) = .ok (.string (bs (txt (V + 1) m))) (wr.setCell ⟨g, t, none⟩ (.int .u8 49)) := hcv2
      clear hdig hq hq0 hp hset hv1 hcv hcv2
      go_wp2_with fail
      go_ret
      exact ⟨rfl, HB.out⟩
end Go.Proofs.YtpbijdoemdoijaaGreatDoor
end PkCa48_0
section PkCa48_1
/- The document's answer for prefix codes, walked: Words. (Written by genwords.py.) -/
namespace Go.Proofs.YtpbijdoemdoijaaGreatDoor
open Go.RowKit PrefPlain BitsPlain
set_option linter.unusedVariables false

theorem bs_nil : bs [] = { data := #[] } := by rfl
theorem bs_app (xs ys : List Nat) : bs xs ++ bs ys = bs (xs ++ ys) := by
  apply ByteArray.ext
  apply Array.ext'
  rw [ByteArray.toList_data_append, bs, bs, bs, strOfNums_data, strOfNums_data, strOfNums_data, List.map_append, List.map_append]
theorem bs_48 : ({ data := #[48] } : ByteArray) = bs [48] := by rfl

/-- a symbol's word -/
def wof (L : List Int) (t : Nat) : List Nat := txt (fw (cn L) (L.getD t 0).toNat + pl L t) (L.getD t 0).toNat
/-- what the row of words holds, before symbol s of length n -/
def wt (L : List Int) (n s t : Nat) : List Nat := if 0 < L.getD t 0 ∧ (L.getD t 0 < (n : Int) ∨ (L.getD t 0 = (n : Int) ∧ t < s)) then wof L t else []
theorem wt_miss {L : List Int} {n s : Nat} (h : L.getD s 0 ≠ (n : Int)) (t : Nat) : wt L n (s + 1) t = wt L n s t := by
  unfold wt
  by_cases e : t = s
  · subst e
    have : (0 < L.getD t 0 ∧ (L.getD t 0 < (n : Int) ∨ (L.getD t 0 = (n : Int) ∧ t < t + 1))) ↔ (0 < L.getD t 0 ∧ (L.getD t 0 < (n : Int) ∨ (L.getD t 0 = (n : Int) ∧ t < t))) := by omega
    simp only [this]
  · have : (0 < L.getD t 0 ∧ (L.getD t 0 < (n : Int) ∨ (L.getD t 0 = (n : Int) ∧ t < s + 1))) ↔ (0 < L.getD t 0 ∧ (L.getD t 0 < (n : Int) ∨ (L.getD t 0 = (n : Int) ∧ t < s))) := by omega
    simp only [this]
theorem wt_hit {L : List Int} {n s : Nat} (h : L.getD s 0 = (n : Int)) (hn : 0 < n) (t : Nat) : wt L n (s + 1) t = if t = s then txt (fw (cn L) n + pl L s) n else wt L n s t := by
  by_cases e : t = s
  · subst e
    rw [if_pos rfl, wt, if_pos (by omega), wof, h, Int.toNat_natCast]
  · rw [if_neg e]
    unfold wt
    have : (0 < L.getD t 0 ∧ (L.getD t 0 < (n : Int) ∨ (L.getD t 0 = (n : Int) ∧ t < s + 1))) ↔ (0 < L.getD t 0 ∧ (L.getD t 0 < (n : Int) ∨ (L.getD t 0 = (n : Int) ∧ t < s))) := by omega
    simp only [this]
theorem wt_next {L : List Int} {n : Nat} (t : Nat) (ht : t < L.length) : wt L (n + 1) 0 t = wt L n L.length t := by
  unfold wt
  have : (0 < L.getD t 0 ∧ (L.getD t 0 < ((n + 1 : Nat) : Int) ∨ (L.getD t 0 = ((n + 1 : Nat) : Int) ∧ t < 0))) ↔ (0 < L.getD t 0 ∧ (L.getD t 0 < (n : Int) ∨ (L.getD t 0 = (n : Int) ∧ t < L.length))) := by omega
  simp only [this]
theorem wt_end {L : List Int} (hok : okL L L.length) (t : Nat) (ht : t < L.length) : wt L 16 0 t = if 0 < L.getD t 0 then wof L t else [] := by
  unfold wt
  have := hok t ht
  have : (0 < L.getD t 0 ∧ (L.getD t 0 < ((16 : Nat) : Int) ∨ (L.getD t 0 = ((16 : Nat) : Int) ∧ t < 0))) ↔ 0 < L.getD t 0 := by omega
  simp only [this]

/-- the row of words -/
structure WR (w0 w : World) (g : Nat) (L : List Int) (n s : Nat) : Prop where
  cell : ∀ t, t < L.length → w.cell? ⟨g, t, none⟩ = some (.string (bs (wt L n s t)))
  fr : ∀ t, t < L.length → w.frozen? ⟨g, t, none⟩ = false
  below : Below w0.heap.size w0 w
  new : w0.heap.size ≤ g
  lt : g < w.heap.size
theorem WR.kept {w0 w w' : World} {g : Nat} {L : List Int} {n s : Nat} (h : WR w0 w g L n s) (hb : Below w.heap.size w w') : WR w0 w' g L n s :=
  ⟨fun t ht => (hb.cell (p := ⟨g, t, none⟩) h.lt).trans (h.cell t ht), fun t ht => (hb.frozen (p := ⟨g, t, none⟩) h.lt).trans (h.fr t ht), h.below.trans (hb.mono h.below.size), h.new, Nat.lt_of_lt_of_le h.lt hb.size⟩
theorem WR.miss {w0 w : World} {g : Nat} {L : List Int} {n s : Nat} (h : WR w0 w g L n s) (hs : L.getD s 0 ≠ (n : Int)) : WR w0 w g L n (s + 1) :=
  ⟨fun t ht => by rw [wt_miss hs]; exact h.cell t ht, h.fr, h.below, h.new, h.lt⟩
theorem WR.next {w0 w : World} {g : Nat} {L : List Int} {n : Nat} (h : WR w0 w g L n L.length) : WR w0 w g L (n + 1) 0 :=
  ⟨fun t ht => by rw [wt_next t ht]; exact h.cell t ht, h.fr, h.below, h.new, h.lt⟩
theorem WR.put {w0 w : World} {g : Nat} {L : List Int} {n s : Nat} (h : WR w0 w g L n s) (hs : s < L.length) (hn : 0 < n) (hL : L.getD s 0 = (n : Int)) :
    WR w0 (w.setCell ⟨g, s, none⟩ (.string (bs (txt (fw (cn L) n + pl L s) n)))) g L n (s + 1) := by
  refine ⟨fun t ht => ?_, fun t ht => ?_, h.below.setCell (p := ⟨g, s, none⟩) h.new _, h.new, by have := h.lt; simp; exact this⟩
  · rw [wt_hit hL hn]
    by_cases e : t = s
    · subst e
      rw [if_pos rfl, World.cell?_setCell_same _ _ _ (h.cell t ht)]
    · rw [if_neg e, World.cell?_setCell_other _ _ _ _ (by intro e2; cases e2; exact e rfl), h.cell t ht]
  · rw [World.frozen?_setCell, h.fr t ht]

/-- the word that was made last -/
structure Wd (L : List Int) (n s V m : Nat) (b : Bool) : Prop where
  le : m ≤ n
  fst : b = true → m = 0 ∧ V = 0 ∧ fw (cn L) n + cnk L s n = 0
  snd : b = false → V < 2 ^ m ∧ (V + 1) * 2 ^ (n - m) = fw (cn L) n + cnk L s n
theorem Wd.start (L : List Int) : Wd L 1 0 0 0 true := ⟨by omega, fun _ => ⟨rfl, rfl, by simp [fw, cnk, sy_start]⟩, (fun e => by cases e)⟩
theorem Wd.next {L : List Int} {n V m : Nat} {b : Bool} (h : Wd L n L.length V m b) (hn : 1 ≤ n) : Wd L (n + 1) 0 V m b := by
  have h0 : cnk L 0 (n + 1) = 0 := by simp [cnk, sy_start]
  have h1 : cnk L L.length n = cn L n := rfl
  have h2 := fw_next (cn L) hn
  have hle := h.le
  refine ⟨by omega, fun e => ?_, fun e => ?_⟩
  · obtain ⟨a1, a2, a3⟩ := h.fst e
    rw [h1] at a3
    exact ⟨a1, a2, by rw [h0, h2]; omega⟩
  · obtain ⟨a1, a2⟩ := h.snd e
    rw [h1] at a2
    refine ⟨a1, ?_⟩
    rw [show n + 1 - m = (n - m) + 1 from by omega, Nat.pow_succ, ← Nat.mul_assoc, a2, h0, h2]
    omega
theorem Wd.miss {L : List Int} {n s V m : Nat} {b : Bool} (h : Wd L n s V m b) (hs : L.getD s 0 ≠ (n : Int)) : Wd L n (s + 1) V m b := by
  have e : cnk L (s + 1) n = cnk L s n := by rw [cnk_next, if_neg (fun g => hs g.2)]; rfl
  exact ⟨h.le, fun x => by rw [e]; exact h.fst x, fun x => by rw [e]; exact h.snd x⟩
theorem Wd.hit {L : List Int} {n s : Nat} (hf : fitsB (cn L) (mo L L.length) = true) (hn : 0 < n) (hn15 : n ≤ 15) (hs : s < L.length) (hL : L.getD s 0 = (n : Int)) : Wd L n (s + 1) (fw (cn L) n + pl L s) n false := by
  have e : cnk L (s + 1) n = cnk L s n + 1 := by rw [cnk_next, if_pos ⟨hn, hL⟩]
  have e2 := pl_is hn hs hL
  refine ⟨Nat.le_refl _, (fun x => by cases x), fun _ => ⟨word_fits hf hn hn15 hs hL, ?_⟩⟩
  rw [Nat.sub_self, Nat.pow_zero, e, e2]
  omega
theorem Wd.more {L : List Int} {n s V m : Nat} (h : Wd L n s V m false) (hf : fitsB (cn L) (mo L L.length) = true) (hn : 0 < n) (hn15 : n ≤ 15) (hs : s < L.length) (hL : L.getD s 0 = (n : Int)) : V + 1 < 2 ^ m ∧ (V + 1) * 2 ^ (n - m) = fw (cn L) n + pl L s := by
  have e2 := pl_is hn hs hL
  obtain ⟨a1, a2⟩ := h.snd rfl
  have h1 := word_fits hf hn hn15 hs hL
  rw [← e2] at a2
  refine ⟨?_, a2⟩
  have h2 : (2 : Nat) ^ n = 2 ^ m * 2 ^ (n - m) := by rw [← Nat.pow_add, Nat.add_sub_cancel' h.le]
  rw [← a2, h2] at h1
  exact Nat.lt_of_mul_lt_mul_right h1
theorem Wd.none {L : List Int} {n s V m : Nat} (h : Wd L n s V m true) (hn : 0 < n) (hs : s < L.length) (hL : L.getD s 0 = (n : Int)) : m = 0 ∧ V = 0 ∧ 0 * 2 ^ (n - 0) = fw (cn L) n + pl L s := by
  obtain ⟨a1, a2, a3⟩ := h.fst rfl
  have e2 := pl_is hn hs hL
  exact ⟨a1, a2, by rw [Nat.zero_mul, e2]; omega⟩

theorem info_str : (Tryz.prog.info? 9).map (fun i => (i.zero, i.size, i.bytes)) = some (some (.string { data := #[] }), 1, 16) := by kernel_rfl
theorem WR.start (w : World) (L : List Int) : WR w (w.alloc (.cells (madeCells #[.string { data := #[] }] L.length) 9)) w.heap.size L 1 0 := by
  have hb := heap_alloc_new w (.cells (madeCells #[.string { data := #[] }] L.length) 9)
  refine ⟨fun t ht => ?_, fun t ht => frozen_of_row _ _ _ _ _ hb, (Below.refl _ _).alloc (Nat.le_refl _) _, Nat.le_refl _, by simp⟩
  rw [cell_of_row _ _ t _ _ _ hb]
  have : wt L 1 0 t = [] := by unfold wt; rw [if_neg (by omega)]
  rw [this, bs_nil]
  simp [madeCells, ht, Nat.mod_one]

set_option maxRecDepth 100000 in
set_option maxHeartbeats 8000000 in
theorem words_any {w : World} {a : Option Addr} {n c : Nat} {L : List Int} (h : IntsAt .i64 w a n c L) (hok : okL L L.length) (hf : fitsB (cn L) (mo L L.length) = true) (hl : L.length ≤ 320) :
    Calls Tryz.prog 109 #[.slice a n c] w fun e w' => e = .returned (.slice (some ⟨w.heap.size, 0, none⟩) n n) ∧ WR w w' w.heap.size L 16 0 := by
  have hlen := h.len
  have hcap := h.cap
  have hcm := h.capm
  have hmk := run_make_row' (P := Tryz.prog) 23 9 (.string { data := #[] }) 16 Tryz.underlying23 info_str rfl .i64 .i64 n (by omega) (by omega)
  have hst := WR.start w L
  rw [hlen] at hst
  have HST := Lib.hid hst
  have HH := Lib.hid h
  have HL := Lib.hid hlen
  have HF := Lib.hid hf
  have HOK := Lib.hid hok
  obtain ⟨g, hg⟩ : ∃ g, g = w.heap.size := ⟨_, rfl⟩
  rw [← hg]
  have HST2 : Hid (WR w (w.alloc (.cells (madeCells #[.string { data := #[] }] n) 9)) g L 1 0) := by rw [hg]; exact HST
  have HW0 := Lib.hid (Wd.start L)
  have hn320 : n ≤ 320 := by omega
  have HLE := Lib.hid hl
  have HG := Lib.hid hg
  clear h hlen hst hok hf hl HST hg
  have hmk2 : ∀ w', w'.heap.size = g → (Instr.makeSlice 23 (.int .i64 (n : Int)) (.int .i64 (n : Int))).run Tryz.prog w' = .ok (.slice (some ⟨g, 0, none⟩) n n) (w'.alloc (.cells (madeCells #[.string { data := #[] }] n) 9)) := fun w' hw => by rw [hmk w', hw]
  have hmk3 := hmk2 w HG.out.symm
  clear hmk hmk2
  go_enter Tryz.func109, Tryz.ntmps109
  go_wp2_with fail
  go_loopw [4, 5, 6] (fun s4 s5 s6 wr => ∃ (l V m z : Nat), 1 ≤ l ∧ l ≤ 16 ∧ s6 = .int .i64 (l : Int) ∧ s5 = .bool (z == 0) ∧ s4 = .string (bs (txt V m)) ∧ Hid (Wd L l 0 V m (z == 0)) ∧ Hid (WR w wr g L l 0)) (fun _ _ s6 _ => 16 - (intOf s6).toNat)
  case atStart => exact ⟨1, 0, 0, 0, by omega, by omega, rfl, rfl, by rw [txt_nil, bs_nil], HW0, HST2⟩
  case round =>
    obtain ⟨l, V, m, z, hl1, hl16, rfl, rfl, rfl, HW, HR⟩ := hrel
    rename World => wr
    obtain ⟨b, hb⟩ : ∃ b, b = (z == 0) := ⟨_, rfl⟩
    rw [← hb] at HW ⊢
    have HB := Lib.hid hb
    clear hb
    by_cases hl15 : l ≤ 15
    · clear HW0 HST2 hmk3
      obtain ⟨tx, htx⟩ : ∃ tx, tx = bs (txt V m) := ⟨_, rfl⟩
      rw [← htx]
      have HTX := Lib.hid htx
      clear htx
      go_wp2_with fail
      go_loopw [4, 5, 18] (fun s4 s5 s18 wr => ∃ (s V m z : Nat) (tx : ByteArray), s ≤ n ∧ s18 = .int .i64 (s : Int) ∧ s5 = .bool (z == 0) ∧ s4 = .string tx ∧ Hid (tx = bs (txt V m)) ∧ Hid (Wd L l s V m (z == 0)) ∧ Hid (WR w wr g L l s)) (fun _ _ s18 _ => n - (intOf s18).toNat)
      case atStart => exact ⟨0, V, m, z, tx, by omega, rfl, by rw [HB.out], rfl, HTX, by rw [← HB.out]; exact HW, HR⟩
      case round =>
        clear HW HR HTX HB
        obtain ⟨s, V, m, z, tx, hs, rfl, rfl, rfl, HTX, HW, HR⟩ := hrel
        rename World => wq
        obtain ⟨b, hb⟩ : ∃ b, b = (z == 0) := ⟨_, rfl⟩
        rw [← hb] at HW ⊢
        have HB := Lib.hid hb
        clear hb
        by_cases hsn : s < n
        · obtain ⟨bk, off, rfl, hlt, hcell⟩ := (HH.out.keep HR.out.below (Nat.le_refl _)).cells (by omega)
          have hck := hcell s hsn
          obtain ⟨x, hx⟩ : ∃ x, x = L.getD s 0 := ⟨_, rfl⟩
          rw [← hx] at hck
          clear hcell
          by_cases hxl : x = (l : Int)
          · subst hxl
            have hsL : s < L.length := by rw [HL.out]; exact hsn
            have hfr := HR.out.fr s hsL
            clear HB
            cases b
            · -- a word stood there
              obtain ⟨hv1, hv2⟩ := HW.out.more HF.out (by omega) hl15 hsL hx.symm
              have hml := HW.out.le
              have HN := Lib.hid (next1_any wq V m (by omega) hv1)
              have HV2 := Lib.hid hv2
              rw [← HTX.out] at HN
              clear hv1 hv2
              go_wp2_with fail
              refine HN.out.mono ?_
              rintro e w5 ⟨rfl, hb5⟩
              have HR5 := Lib.hid (HR.out.kept hb5)
              clear hb5
              obtain ⟨ty, hty⟩ : ∃ ty, ty = bs (txt (V + 1) m) := ⟨_, rfl⟩
              rw [← hty]
              have HTY := Lib.hid hty
              obtain ⟨U, hU⟩ : ∃ U, U = V + 1 := ⟨_, rfl⟩
              rw [← hU] at HTY HV2
              obtain ⟨mm, hmm⟩ : ∃ mm, mm = m := ⟨_, rfl⟩
              rw [← hmm] at HTY HV2 hml
              have hfr5 := HR5.out.fr s hsL
              have hce5 := HR5.out.cell s hsL
              have HPUT := Lib.hid (HR5.out.put hsL (by omega) hx.symm)
              have HWD := Lib.hid (Wd.hit HF.out (by omega) hl15 hsL hx.symm)
              clear hty hU hmm hx
              go_wp2_with fail
              go_loop [4] (fun s4 => ∃ (k : Nat) (tz : ByteArray), mm ≤ k ∧ k ≤ l ∧ s4 = .string tz ∧ tz.size = k ∧ Hid (tz = bs (txt (U * 2 ^ (k - mm)) k))) (fun s4 => l - (match s4 with | .string t => t.size | _ => 0))
              case atStart => exact ⟨mm, ty, by omega, by omega, rfl, by rw [HTY.out, bs_size, txt_len], Lib.hid (by rw [HTY.out, Nat.sub_self, Nat.pow_zero, Nat.mul_one])⟩
              case round =>
                obtain ⟨k, tz, hk1, hk2, rfl, hz, HZ⟩ := hrel
                by_cases hkl : k < l
                · have hzz : (tz ++ { data := #[48] } : ByteArray) = bs (txt (U * 2 ^ (k + 1 - mm)) (k + 1)) := by
                    rw [HZ.out, bs_48, bs_app, txt_zero, show k + 1 - mm = (k - mm) + 1 from by omega, show 2 * (U * 2 ^ (k - mm)) = U * 2 ^ ((k - mm) + 1) from by rw [Nat.pow_succ, Nat.mul_comm 2, Nat.mul_assoc]]
                  have HZZ := Lib.hid hzz
                  have HZS := Lib.hid (show (tz ++ { data := #[48] } : ByteArray).size = k + 1 by rw [hzz, bs_size, txt_len])
                  have hd3 : (k : Int) < (l : Int) := by omega
                  have hd4 : ¬ (l : Int) ≤ (k : Int) := by omega
                  clear hzz
                  go_wp2_with fail
                  go_round
                  case rel => exact ⟨k + 1, _, by omega, by omega, rfl, HZS.out, HZZ⟩
                  case measure => simp only [HZS.out, hz]; omega
                · obtain rfl : k = l := by omega
                  have hzl : tz = bs (txt (fw (cn L) k + pl L s) k) := by rw [HZ.out, ← HV2.out]
                  have HZL := Lib.hid hzl
                  have HP2 : Hid (WR w (w5.setCell ⟨g, s, none⟩ (.string tz)) g L k (s + 1)) := by rw [hzl]; exact HPUT
                  clear hzl hkl
                  go_wp2_with fail
                  go_roundw
                  case rel =>
                    first
                    | exact ⟨s + 1, _, k, 1, tz, by omega, by go_num, rfl, rfl, HZL, HWD, HP2⟩
                    | exact ⟨_, _, _, _, _, ⟨s + 1, by omega, by go_num, _, k, 1, rfl, tz, rfl, HZL, HWD, HP2⟩, rfl, rfl, rfl, rfl, rfl⟩
                  case measure => simp [intOf]; omega
            · -- none yet
              obtain ⟨rfl, rfl, hv2⟩ := HW.out.none (by omega) hsL hx.symm
              have HV2 := Lib.hid hv2
              have hml : 0 ≤ l := Nat.zero_le _
              have HTY : Hid (tx = bs (txt 0 0)) := HTX
              obtain ⟨U, hU⟩ : ∃ U, U = 0 := ⟨_, rfl⟩
              obtain ⟨mm, hmm⟩ : ∃ mm, mm = 0 := ⟨_, rfl⟩
              have HTY' : Hid (tx = bs (txt U mm)) := by rw [hU, hmm]; exact HTY
              have HV2' : Hid (U * 2 ^ (l - mm) = fw (cn L) l + pl L s) := by rw [hU, hmm]; exact HV2
              have hml' : mm ≤ l := by omega
              have hfr5 := HR.out.fr s hsL
              have hce5 := HR.out.cell s hsL
              have HPUT := Lib.hid (HR.out.put hsL (by omega) hx.symm)
              have HWD := Lib.hid (Wd.hit HF.out (by omega) hl15 hsL hx.symm)
              clear hv2 hml HTY HV2 hU hmm hx
              go_wp2_with fail
              go_loop [4] (fun s4 => ∃ (k : Nat) (tz : ByteArray), mm ≤ k ∧ k ≤ l ∧ s4 = .string tz ∧ tz.size = k ∧ Hid (tz = bs (txt (U * 2 ^ (k - mm)) k))) (fun s4 => l - (match s4 with | .string t => t.size | _ => 0))
              case atStart => exact ⟨mm, tx, by omega, by omega, rfl, by rw [HTY'.out, bs_size, txt_len], Lib.hid (by rw [HTY'.out, Nat.sub_self, Nat.pow_zero, Nat.mul_one])⟩
              case round =>
                obtain ⟨k, tz, hk1, hk2, rfl, hz, HZ⟩ := hrel
                by_cases hkl : k < l
                · have hzz : (tz ++ { data := #[48] } : ByteArray) = bs (txt (U * 2 ^ (k + 1 - mm)) (k + 1)) := by
                    rw [HZ.out, bs_48, bs_app, txt_zero, show k + 1 - mm = (k - mm) + 1 from by omega, show 2 * (U * 2 ^ (k - mm)) = U * 2 ^ ((k - mm) + 1) from by rw [Nat.pow_succ, Nat.mul_comm 2, Nat.mul_assoc]]
                  have HZZ := Lib.hid hzz
                  have HZS := Lib.hid (show (tz ++ { data := #[48] } : ByteArray).size = k + 1 by rw [hzz, bs_size, txt_len])
                  have hd3 : (k : Int) < (l : Int) := by omega
                  have hd4 : ¬ (l : Int) ≤ (k : Int) := by omega
                  clear hzz
                  go_wp2_with fail
                  go_round
                  case rel => exact ⟨k + 1, _, by omega, by omega, rfl, HZS.out, HZZ⟩
                  case measure => simp only [HZS.out, hz]; omega
                · obtain rfl : k = l := by omega
                  have hzl : tz = bs (txt (fw (cn L) k + pl L s) k) := by rw [HZ.out, ← HV2'.out]
                  have HZL := Lib.hid hzl
                  have HP2 : Hid (WR w (wq.setCell ⟨g, s, none⟩ (.string tz)) g L k (s + 1)) := by rw [hzl]; exact HPUT
                  clear hzl hkl
                  go_wp2_with fail
                  go_roundw
                  case rel =>
                    first
                    | exact ⟨s + 1, _, k, 1, tz, by omega, by go_num, rfl, rfl, HZL, HWD, HP2⟩
                    | exact ⟨_, _, _, _, _, ⟨s + 1, by omega, by go_num, _, k, 1, rfl, tz, rfl, HZL, HWD, HP2⟩, rfl, rfl, rfl, rfl, rfl⟩
                  case measure => simp [intOf]; omega
          · have hne : (x != (l : Int)) = true := by rw [bne_iff_ne]; exact hxl
            have HW2 := Lib.hid (HW.out.miss (by rw [← hx]; exact hxl))
            have HR2 := Lib.hid (HR.out.miss (by rw [← hx]; exact hxl))
            clear hxl hx
            go_wp2_with fail
            go_roundw
            case rel => exact ⟨s + 1, V, m, z, tx, by omega, by go_num, by rw [HB.out], rfl, HTX, by rw [← HB.out]; exact HW2, HR2⟩
            case measure => simp [intOf]; omega
        · obtain rfl : s = n := by omega
          have HW2 := Lib.hid (Wd.next (by rw [HL.out]; exact HW.out) hl1)
          have HR2 := Lib.hid (WR.next (by rw [HL.out]; exact HR.out))
          go_wp2_with fail
          go_roundw
          case rel => exact ⟨l + 1, V, m, z, by omega, by omega, by go_num, by rw [HB.out], by rw [HTX.out], by rw [← HB.out]; exact HW2, HR2⟩
          case measure => simp [intOf]; omega
    · obtain rfl : l = 16 := by omega
      obtain ⟨tx, htx⟩ : ∃ tx, tx = bs (txt V m) := ⟨_, rfl⟩
      rw [← htx]
      clear HW0 HST2 hmk3 htx
      go_wp2_with fail
      go_ret
      exact ⟨rfl, HR.out⟩
end Go.Proofs.YtpbijdoemdoijaaGreatDoor
end PkCa48_1
section PkCa48_2
/- The document's Put (layer 2), walked once more: the row is the call's own; a word behind a row of its own (entrepotref07.code). (rput_own is written out of XBitsRPut.) -/
namespace Go.Proofs.YtpbijdoemdoijaaGreatDoor
open Go.RowKit BitsPlain
set_option linter.unusedVariables false

set_option maxRecDepth 100000 in
set_option maxHeartbeats 4000000 in
theorem rput_own {w : World} {a : Option Addr} {n c : Nat} {l : List Nat} (h : BoolsAt w a n c (rowOf l)) (hn : n ≤ 100000) (V : Nat) (hV : V < 4294967296) (k : Nat) (hk : k ≤ 32) (code : Bool) :
    Calls Tryz.prog 113 #[.slice a n c, .int .u32 (V : Int), .int .i64 (k : Int), .bool code] w fun e w' => ∃ v, e = .returned v ∧ w'.ownsRow w.heap.size 4 1 v (n + k) (bl (rowOf (l ++ putBits V k code k))) ∧ Below w.heap.size w w' := by
  obtain ⟨i0, hi, hz0, hz1, hz2⟩ := info_parts info_bool
  have hown0 := World.ownsRow_lit (base := w.heap.size) (e := 4) (size := 1) w #[] 0 (Nat.le_refl _) (by unfold maxLen; omega) rfl
  have HH := Lib.hid (h.kept ((Below.refl _ _).alloc (Nat.le_refl _) (.cells #[] 4)))
  have HV := Lib.hid hV
  have HO0 := Lib.hid hown0
  clear h hV hown0
  go_enter Tryz.func113, Tryz.ntmps113
  go_wp2_with (at_builtin; refine wpList_append_bools rfl (.tmp 14) (.tmp 15) rfl w.heap.size _ _ [] rfl HO0.out _ _ _ _ rfl HH.out (by omega) (by simp) ?_)
  intro v1 w1 hown1 hgrow1
  have hb1 : Below w.heap.size w w1 := ((Below.refl _ _).alloc (Nat.le_refl _) _).grown hgrow1 (by simp) (fun k hk => by simp [Value.ownBlock] at hk; omega)
  have hown2 : w1.ownsRow w.heap.size 4 1 v1 (n + 0) (bl (rowOf (l ++ putBits V k code 0))) := by
    have e : putBits V k code 0 = [] := List.eq_nil_of_length_eq_zero (putBits_len _ _ _ _)
    rw [e]
    simpa using hown1
  have HO2 := Lib.hid hown2
  have HB1 := Lib.hid hb1
  clear hown1 hgrow1 hb1 hown2
  go_wp2_with fail
  go_loopw [9, 10] (fun s9 s10 wr => ∃ i : Nat, i ≤ k ∧ s10 = .int .i64 i ∧ Hid (wr.ownsRow w.heap.size 4 1 s9 (n + i) (bl (rowOf (l ++ putBits V k code i)))) ∧ Hid (Below w.heap.size w wr)) (fun _ s10 _ => k - (intOf s10).toNat)
  case atStart => exact ⟨0, by omega, rfl, HO2, HB1⟩
  case round =>
    obtain ⟨i, hik, rfl, HO, HB⟩ := hrel
    rename World => wr
    by_cases hlt : i < k
    · obtain ⟨K, hK⟩ : ∃ K : Nat, K = if code then k - 1 - i else i := ⟨_, rfl⟩
      have hs := putBits_succ V k code i
      rw [← hK] at hs
      have HS := Lib.hid hs
      have hK31 : K ≤ 31 := by rw [hK]; split <;> omega
      have fin : ∀ (act : Act), True := fun _ => trivial
      clear fin hs
      cases code
      · have hKi : K = i := by rw [hK]; rfl
        clear hK
        subst hKi
        go_wp2_with fail
        go_loop [12, 13] (fun s12 s13 => ∃ j : Nat, j ≤ K ∧ s13 = .int .i64 j ∧ s12 = .int .u32 ((V / 2 ^ j : Nat) : Int)) (fun _ s13 => K - (intOf s13).toNat)
        case atStart => exact ⟨0, by omega, rfl, by simp⟩
        case round =>
          obtain ⟨j, hj, rfl, rfl⟩ := hrel
          by_cases hjK : j < K
          · obtain ⟨y, hy⟩ : ∃ y, y = V / 2 ^ j := ⟨_, rfl⟩
            have hy32 : y ≤ 4294967295 := by rw [hy]; have h1 := Nat.div_le_self V (2 ^ j); have h2 := HV.out; omega
            rw [← hy]
            have HY := Lib.hid hy
            clear hy
            go_wp2_with fail
            go_round
            case rel =>
              refine ⟨j + 1, by omega, by go_num, ?_⟩
              rw [show V / 2 ^ (j + 1) = y / 2 from by rw [HY.out, Nat.div_div_eq_div_mul, ← Nat.pow_succ]]
              go_num
            case measure => simp [intOf]; omega
          · have hjK2 : j = K := by omega
            subst hjK2
            obtain ⟨y, hy⟩ : ∃ y, y = V / 2 ^ j := ⟨_, rfl⟩
            have hy32 : y ≤ 4294967295 := by rw [hy]; have h1 := Nat.div_le_self V (2 ^ j); have h2 := HV.out; omega
            rw [← hy]
            have HY := Lib.hid hy
            have hown := HO.out
            have hbs := HB.out.size
            clear hy
            go_wp2_with (at_builtin; refine wpList_append_own _ rfl (.tmp 36) (.tmp 40) 24 rfl w.heap.size 4 i0 (.bool false) 1 1 Tryz.underlying24 hi hz0 hz1 hz2 rfl (by decide) _ _ _ rfl (hown.alloc _) ⟨wr.heap.size, 0, none⟩ 1 1 [.bool ((y : Int) % 2 == 1)] rfl rfl (one_src _ _ _) (one_oneCell rfl) (by unfold maxLen; omega) (by omega) (by simp; omega) ?_)
            intro v' w2 hown' hgrow _
            have HO3 := Lib.hid hown'
            have HB3 := Lib.hid ((HB.out.alloc HB.out.size _).grown hgrow (by simp; omega) (fun k hk => (hown.lt k hk).1))
            clear hown' hgrow hown
            go_wp2_with fail
            go_roundw
            case rel =>
              refine ⟨j + 1, by omega, by go_num, Lib.hid ?_, HB3⟩
              have e1 : ((y : Int) % 2 == 1) = (V / 2 ^ j % 2 == 1) := by
                rw [← HY.out, Bool.eq_iff_iff, beq_iff_eq, beq_iff_eq]; omega
              have := HO3.out
              rw [e1] at this
              rw [HS.out, ← List.append_assoc, rowOf_app, bl_app]
              exact this
            case measure => simp [intOf]; omega
      · have hKi : (k : Int) - 1 - (i : Int) = (K : Int) := by rw [hK]; simp; omega
        clear hK
        go_wp2_with fail
        go_loop [12, 13] (fun s12 s13 => ∃ j : Nat, j ≤ K ∧ s13 = .int .i64 j ∧ s12 = .int .u32 ((V / 2 ^ j : Nat) : Int)) (fun _ s13 => K - (intOf s13).toNat)
        case atStart => exact ⟨0, by omega, rfl, by simp⟩
        case round =>
          obtain ⟨j, hj, rfl, rfl⟩ := hrel
          by_cases hjK : j < K
          · obtain ⟨y, hy⟩ : ∃ y, y = V / 2 ^ j := ⟨_, rfl⟩
            have hy32 : y ≤ 4294967295 := by rw [hy]; have h1 := Nat.div_le_self V (2 ^ j); have h2 := HV.out; omega
            rw [← hy]
            have HY := Lib.hid hy
            clear hy
            go_wp2_with fail
            go_round
            case rel =>
              refine ⟨j + 1, by omega, by go_num, ?_⟩
              rw [show V / 2 ^ (j + 1) = y / 2 from by rw [HY.out, Nat.div_div_eq_div_mul, ← Nat.pow_succ]]
              go_num
            case measure => simp [intOf]; omega
          · have hjK2 : j = K := by omega
            subst hjK2
            obtain ⟨y, hy⟩ : ∃ y, y = V / 2 ^ j := ⟨_, rfl⟩
            have hy32 : y ≤ 4294967295 := by rw [hy]; have h1 := Nat.div_le_self V (2 ^ j); have h2 := HV.out; omega
            rw [← hy]
            have HY := Lib.hid hy
            have hown := HO.out
            have hbs := HB.out.size
            clear hy
            go_wp2_with (at_builtin; refine wpList_append_own _ rfl (.tmp 36) (.tmp 40) 24 rfl w.heap.size 4 i0 (.bool false) 1 1 Tryz.underlying24 hi hz0 hz1 hz2 rfl (by decide) _ _ _ rfl (hown.alloc _) ⟨wr.heap.size, 0, none⟩ 1 1 [.bool ((y : Int) % 2 == 1)] rfl rfl (one_src _ _ _) (one_oneCell rfl) (by unfold maxLen; omega) (by omega) (by simp; omega) ?_)
            intro v' w2 hown' hgrow _
            have HO3 := Lib.hid hown'
            have HB3 := Lib.hid ((HB.out.alloc HB.out.size _).grown hgrow (by simp; omega) (fun k hk => (hown.lt k hk).1))
            clear hown' hgrow hown
            go_wp2_with fail
            go_roundw
            case rel =>
              refine ⟨i + 1, by omega, by go_num, Lib.hid ?_, HB3⟩
              have e1 : ((y : Int) % 2 == 1) = (V / 2 ^ j % 2 == 1) := by
                rw [← HY.out, Bool.eq_iff_iff, beq_iff_eq, beq_iff_eq]; omega
              have := HO3.out
              rw [e1] at this
              rw [HS.out, ← List.append_assoc, rowOf_app, bl_app]
              exact this
            case measure => simp [intOf]; omega
    · have hik2 : i = k := by omega
      subst hik2
      obtain ⟨a', c', rfl, hba, hfa⟩ := BoolsAt.ofOwn HO.out (by omega)
      clear hba
      go_wp2_with fail
      go_ret
      exact ⟨_, rfl, HO.out, HB.out⟩

/-- since w0, only what r names and what is new has changed; v lies in one of these -/
structure Og (w0 : World) (r : Option Nat) (w : World) (v : Value) : Prop where
  g : w0.grownBy w r
  o : ∀ k, v.ownBlock = some k → r = some k ∨ w0.heap.size ≤ k
theorem Og.refl (w0 : World) (v : Value) : Og w0 v.ownBlock w0 v := ⟨World.grownBy.refl _ _, fun k hk => .inl hk⟩
theorem Og.grow {w0 w w' : World} {r : Option Nat} {v : Value} (h : Og w0 r w v) (hg : w.grownBy w' v.ownBlock) : w0.grownBy w' r :=
  ⟨hg.os.trans h.g.os, hg.tape.trans h.g.tape, hg.output.trans h.g.output, Nat.le_trans h.g.size hg.size, fun i hi hr => by
    refine (hg.block i (Nat.lt_of_lt_of_le hi h.g.size) (fun e => ?_)).trans (h.g.block i hi hr)
    rcases h.o i e.symm with q | q
    · exact hr q.symm
    · omega⟩
theorem Og.append {w0 w w' : World} {r : Option Nat} {v v' : Value} (h : Og w0 r w v) (hg : w.grownBy w' v.ownBlock) (hat : v'.ownBlock = v.ownBlock ∨ ∃ g, v'.ownBlock = some g ∧ w.heap.size ≤ g) : Og w0 r w' v' :=
  ⟨h.grow hg, fun k hk => by
    rcases hat with e | ⟨g, e, hle⟩
    · exact h.o k (e ▸ hk)
    · rw [e] at hk
      cases hk
      exact .inr (Nat.le_trans h.g.size hle)⟩
theorem Og.below {w0 w w' : World} {r : Option Nat} {v : Value} (h : Og w0 r w v) (hb : Below w.heap.size w w') : Og w0 r w' v :=
  ⟨⟨hb.os.trans h.g.os, hb.tape.trans h.g.tape, hb.output.trans h.g.output, Nat.le_trans h.g.size hb.size, fun i hi hr => (hb.block i (Nat.lt_of_lt_of_le hi h.g.size)).trans (h.g.block i hi hr)⟩, h.o⟩
theorem Og.fresh {w0 w w' : World} {r : Option Nat} {v v' : Value} (h : Og w0 r w v) (hb : Below w.heap.size w w') (hv : ∀ k, v'.ownBlock = some k → w.heap.size ≤ k) : Og w0 r w' v' :=
  ⟨(h.below hb).g, fun k hk => .inr (Nat.le_trans h.g.size (hv k hk))⟩
theorem Og.trans {w0 w w' : World} {r : Option Nat} {v v' : Value} (h : Og w0 r w v) (k : Og w v.ownBlock w' v') : Og w0 r w' v' :=
  ⟨h.grow k.g, fun j hj => by
    rcases k.o j hj with e | e
    · exact h.o j e
    · exact .inr (Nat.le_trans h.g.size e)⟩

set_option maxRecDepth 100000 in
set_option maxHeartbeats 4000000 in
theorem code_any {w : World} {base n : Nat} {v : Value} {l : List Nat} (h : w.ownsRow base 4 1 v n (bl (rowOf l))) (hb : base ≤ w.heap.size) (hn : n ≤ 100000) (V m : Nat) (hm : m ≤ 15) :
    Calls Tryz.prog 111 #[v, .string (bs (txt V m))] w fun e w' => ∃ v', e = .returned v' ∧ w'.ownsRow base 4 1 v' (n + m) (bl (rowOf (l ++ codeOf V m m))) ∧ Og w v.ownBlock w' v' := by
  obtain ⟨i0, hi, hz0, hz1, hz2⟩ := info_parts info_bool
  have hsz : (bs (txt V m)).size = m := by rw [bs_size, txt_len]
  have hat : ∀ i (hi : i < (bs (txt V m)).size), ((bs (txt V m))[i]'hi).toNat = 48 + V / 2 ^ (m - 1 - i) % 2 := fun i hi => by
    rw [bs_at (txt_byte V m), txt_getD (by omega)]
  obtain ⟨s, hs⟩ : ∃ s, s = bs (txt V m) := ⟨_, rfl⟩
  rw [← hs] at hsz ⊢
  have HAT : Hid (∀ i (hi : i < s.size), (s[i]'hi).toNat = 48 + V / 2 ^ (m - 1 - i) % 2) := by subst hs; exact Lib.hid hat
  have HO := Lib.hid h
  have HB := Lib.hid hb
  clear hat hs h hb
  go_enter Tryz.func111, Tryz.ntmps111
  go_wp2_with fail
  go_loopw [0, 5] (fun s0 s5 wr => ∃ k : Nat, k ≤ m ∧ s5 = .int .i64 k ∧ Hid (wr.ownsRow base 4 1 s0 (n + k) (bl (rowOf (l ++ codeOf V m k)))) ∧ Hid (Og w v.ownBlock wr s0)) (fun _ s5 _ => m - (intOf s5).toNat)
  case atStart => exact ⟨0, by omega, rfl, Lib.hid (by rw [show codeOf V m 0 = [] from rfl, List.append_nil]; exact HO.out), Lib.hid (Og.refl _ _)⟩
  case round =>
    obtain ⟨k, hk, rfl, HR, HBR⟩ := hrel
    rename World => wr
    by_cases hkm : k < m
    · have hks : k < s.size := by omega
      have ha := HAT.out k hks
      obtain ⟨d, hd⟩ : ∃ d, d = V / 2 ^ (m - 1 - k) % 2 := ⟨_, rfl⟩
      have hd2 : d = 0 ∨ d = 1 := by omega
      have hc := codeOf_succ V m k
      rw [← hd] at ha hc
      have HC := Lib.hid hc
      have hown := HR.out
      have hbs := Nat.le_trans HB.out HBR.out.g.size
      clear hd hc
      rcases hd2 with rfl | rfl
      · have ha' : ((s[k]'hks).toNat : Int) = 48 := by omega
        clear ha
        go_wp2_with (at_builtin; refine wpList_append_own_at _ rfl (.tmp 12) (.tmp 17) 24 rfl base 4 i0 (.bool false) 1 1 Tryz.underlying24 hi hz0 hz1 hz2 rfl (by decide) _ _ _ rfl (hown.alloc _) ⟨wr.heap.size, 0, none⟩ 1 1 [.bool false] rfl rfl (one_src _ _ _) (one_oneCell rfl) (by unfold maxLen; omega) (by omega) (by simp; omega) ?_)
        intro v' w2 hown' hgrow _ hat
        have HO3 := Lib.hid (show w2.ownsRow base 4 1 v' (n + (k + 1)) (bl (rowOf (l ++ codeOf V m (k + 1)))) from by rw [HC.out, ← List.append_assoc, rowOf_app, bl_app]; exact hown')
        have HB3 := Lib.hid ((HBR.out.below ((Below.refl _ _).alloc (Nat.le_refl _) _)).append hgrow (hat.imp id (fun e => ⟨_, e, by simp⟩)))
        clear hown' hgrow hat hown
        go_wp2_with fail
        go_roundw
        case rel => exact ⟨k + 1, by omega, by go_num, HO3, HB3⟩
        case measure => simp [intOf]; omega
      · have ha' : ((s[k]'hks).toNat : Int) = 49 := by omega
        clear ha
        go_wp2_with (at_builtin; refine wpList_append_own_at _ rfl (.tmp 12) (.tmp 17) 24 rfl base 4 i0 (.bool false) 1 1 Tryz.underlying24 hi hz0 hz1 hz2 rfl (by decide) _ _ _ rfl (hown.alloc _) ⟨wr.heap.size, 0, none⟩ 1 1 [.bool true] rfl rfl (one_src _ _ _) (one_oneCell rfl) (by unfold maxLen; omega) (by omega) (by simp; omega) ?_)
        intro v' w2 hown' hgrow _ hat
        have HO3 := Lib.hid (show w2.ownsRow base 4 1 v' (n + (k + 1)) (bl (rowOf (l ++ codeOf V m (k + 1)))) from by rw [HC.out, ← List.append_assoc, rowOf_app, bl_app]; exact hown')
        have HB3 := Lib.hid ((HBR.out.below ((Below.refl _ _).alloc (Nat.le_refl _) _)).append hgrow (hat.imp id (fun e => ⟨_, e, by simp⟩)))
        clear hown' hgrow hat hown
        go_wp2_with fail
        go_roundw
        case rel => exact ⟨k + 1, by omega, by go_num, HO3, HB3⟩
        case measure => simp [intOf]; omega
    · obtain rfl : k = m := by omega
      have hnk : ¬ ((k : Int) < (k : Int)) := by omega
      go_wp2_with fail
      go_ret
      exact ⟨_, rfl, HR.out, HBR.out⟩
end Go.Proofs.YtpbijdoemdoijaaGreatDoor
end PkCa48_2
