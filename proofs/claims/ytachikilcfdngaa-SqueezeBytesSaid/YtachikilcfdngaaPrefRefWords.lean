/- The document's answer for prefix codes, walked: Words. (Written by genwords.py.) -/
import Derived.Test.YtachikilcfdngaaPrefRefNext
import Derived.Deep.OwnRows
namespace Go.Proofs.Ytachikilcfdngaa
open Go.RowKit PrefPlain BitsPlain
set_option linter.unusedVariables false

theorem bs_nil : bs [] = { data := #[] } := by rfl
theorem bs_app (xs ys : List Nat) : bs xs ++ bs ys = bs (xs ++ ys) := by
  apply ByteArray.ext
  apply Array.ext'
  rw [ByteArray.toList_data_append, bs, bs, bs, strOfNums_data, strOfNums_data, strOfNums_data, List.map_append, List.map_append]
theorem bs_48 : ({ data := #[48] } : ByteArray) = bs [48] := by rfl

/-- a symbol's word -/
def wof (L : List Int) (t : Nat) : List Nat := txt (fw (cn L) (L.getD t 0).toNat + pl L t) (L.getD t 0).toNat
/-- what the row of words holds, before symbol s of length n -/
def wt (L : List Int) (n s t : Nat) : List Nat := if 0 < L.getD t 0 ∧ (L.getD t 0 < (n : Int) ∨ (L.getD t 0 = (n : Int) ∧ t < s)) then wof L t else []
theorem wt_miss {L : List Int} {n s : Nat} (h : L.getD s 0 ≠ (n : Int)) (t : Nat) : wt L n (s + 1) t = wt L n s t := by
  unfold wt
  by_cases e : t = s
  · subst e
    have : (0 < L.getD t 0 ∧ (L.getD t 0 < (n : Int) ∨ (L.getD t 0 = (n : Int) ∧ t < t + 1))) ↔ (0 < L.getD t 0 ∧ (L.getD t 0 < (n : Int) ∨ (L.getD t 0 = (n : Int) ∧ t < t))) := by omega
    simp only [this]
  · have : (0 < L.getD t 0 ∧ (L.getD t 0 < (n : Int) ∨ (L.getD t 0 = (n : Int) ∧ t < s + 1))) ↔ (0 < L.getD t 0 ∧ (L.getD t 0 < (n : Int) ∨ (L.getD t 0 = (n : Int) ∧ t < s))) := by omega
    simp only [this]
theorem wt_hit {L : List Int} {n s : Nat} (h : L.getD s 0 = (n : Int)) (hn : 0 < n) (t : Nat) : wt L n (s + 1) t = if t = s then txt (fw (cn L) n + pl L s) n else wt L n s t := by
  by_cases e : t = s
  · subst e
    rw [if_pos rfl, wt, if_pos (by omega), wof, h, Int.toNat_natCast]
  · rw [if_neg e]
    unfold wt
    have : (0 < L.getD t 0 ∧ (L.getD t 0 < (n : Int) ∨ (L.getD t 0 = (n : Int) ∧ t < s + 1))) ↔ (0 < L.getD t 0 ∧ (L.getD t 0 < (n : Int) ∨ (L.getD t 0 = (n : Int) ∧ t < s))) := by omega
    simp only [this]
theorem wt_next {L : List Int} {n : Nat} (t : Nat) (ht : t < L.length) : wt L (n + 1) 0 t = wt L n L.length t := by
  unfold wt
  have : (0 < L.getD t 0 ∧ (L.getD t 0 < ((n + 1 : Nat) : Int) ∨ (L.getD t 0 = ((n + 1 : Nat) : Int) ∧ t < 0))) ↔ (0 < L.getD t 0 ∧ (L.getD t 0 < (n : Int) ∨ (L.getD t 0 = (n : Int) ∧ t < L.length))) := by omega
  simp only [this]
theorem wt_end {L : List Int} (hok : okL L L.length) (t : Nat) (ht : t < L.length) : wt L 16 0 t = if 0 < L.getD t 0 then wof L t else [] := by
  unfold wt
  have := hok t ht
  have : (0 < L.getD t 0 ∧ (L.getD t 0 < ((16 : Nat) : Int) ∨ (L.getD t 0 = ((16 : Nat) : Int) ∧ t < 0))) ↔ 0 < L.getD t 0 := by omega
  simp only [this]

/-- the row of words -/
structure WR (w0 w : World) (g : Nat) (L : List Int) (n s : Nat) : Prop where
  cell : ∀ t, t < L.length → w.cell? ⟨g, t, none⟩ = some (.string (bs (wt L n s t)))
  fr : ∀ t, t < L.length → w.frozen? ⟨g, t, none⟩ = false
  below : Below w0.heap.size w0 w
  new : w0.heap.size ≤ g
  lt : g < w.heap.size
theorem WR.kept {w0 w w' : World} {g : Nat} {L : List Int} {n s : Nat} (h : WR w0 w g L n s) (hb : Below w.heap.size w w') : WR w0 w' g L n s :=
  ⟨fun t ht => (hb.cell (p := ⟨g, t, none⟩) h.lt).trans (h.cell t ht), fun t ht => (hb.frozen (p := ⟨g, t, none⟩) h.lt).trans (h.fr t ht), h.below.trans (hb.mono h.below.size), h.new, Nat.lt_of_lt_of_le h.lt hb.size⟩
theorem WR.miss {w0 w : World} {g : Nat} {L : List Int} {n s : Nat} (h : WR w0 w g L n s) (hs : L.getD s 0 ≠ (n : Int)) : WR w0 w g L n (s + 1) :=
  ⟨fun t ht => by rw [wt_miss hs]; exact h.cell t ht, h.fr, h.below, h.new, h.lt⟩
theorem WR.next {w0 w : World} {g : Nat} {L : List Int} {n : Nat} (h : WR w0 w g L n L.length) : WR w0 w g L (n + 1) 0 :=
  ⟨fun t ht => by rw [wt_next t ht]; exact h.cell t ht, h.fr, h.below, h.new, h.lt⟩
theorem WR.put {w0 w : World} {g : Nat} {L : List Int} {n s : Nat} (h : WR w0 w g L n s) (hs : s < L.length) (hn : 0 < n) (hL : L.getD s 0 = (n : Int)) :
    WR w0 (w.setCell ⟨g, s, none⟩ (.string (bs (txt (fw (cn L) n + pl L s) n)))) g L n (s + 1) := by
  refine ⟨fun t ht => ?_, fun t ht => ?_, h.below.setCell (p := ⟨g, s, none⟩) h.new _, h.new, by have := h.lt; simp; exact this⟩
  · rw [wt_hit hL hn]
    by_cases e : t = s
    · subst e
      rw [if_pos rfl, World.cell?_setCell_same _ _ _ (h.cell t ht)]
    · rw [if_neg e, World.cell?_setCell_other _ _ _ _ (by intro e2; cases e2; exact e rfl), h.cell t ht]
  · rw [World.frozen?_setCell, h.fr t ht]

/-- the word that was made last -/
structure Wd (L : List Int) (n s V m : Nat) (b : Bool) : Prop where
  le : m ≤ n
  fst : b = true → m = 0 ∧ V = 0 ∧ fw (cn L) n + cnk L s n = 0
  snd : b = false → V < 2 ^ m ∧ (V + 1) * 2 ^ (n - m) = fw (cn L) n + cnk L s n
theorem Wd.start (L : List Int) : Wd L 1 0 0 0 true := ⟨by omega, fun _ => ⟨rfl, rfl, by simp [fw, cnk, sy_start]⟩, (fun e => by cases e)⟩
theorem Wd.next {L : List Int} {n V m : Nat} {b : Bool} (h : Wd L n L.length V m b) (hn : 1 ≤ n) : Wd L (n + 1) 0 V m b := by
  have h0 : cnk L 0 (n + 1) = 0 := by simp [cnk, sy_start]
  have h1 : cnk L L.length n = cn L n := rfl
  have h2 := fw_next (cn L) hn
  have hle := h.le
  refine ⟨by omega, fun e => ?_, fun e => ?_⟩
  · obtain ⟨a1, a2, a3⟩ := h.fst e
    rw [h1] at a3
    exact ⟨a1, a2, by rw [h0, h2]; omega⟩
  · obtain ⟨a1, a2⟩ := h.snd e
    rw [h1] at a2
    refine ⟨a1, ?_⟩
    rw [show n + 1 - m = (n - m) + 1 from by omega, Nat.pow_succ, ← Nat.mul_assoc, a2, h0, h2]
    omega
theorem Wd.miss {L : List Int} {n s V m : Nat} {b : Bool} (h : Wd L n s V m b) (hs : L.getD s 0 ≠ (n : Int)) : Wd L n (s + 1) V m b := by
  have e : cnk L (s + 1) n = cnk L s n := by rw [cnk_next, if_neg (fun g => hs g.2)]; rfl
  exact ⟨h.le, fun x => by rw [e]; exact h.fst x, fun x => by rw [e]; exact h.snd x⟩
theorem Wd.hit {L : List Int} {n s : Nat} (hf : fitsB (cn L) (mo L L.length) = true) (hn : 0 < n) (hn15 : n ≤ 15) (hs : s < L.length) (hL : L.getD s 0 = (n : Int)) : Wd L n (s + 1) (fw (cn L) n + pl L s) n false := by
  have e : cnk L (s + 1) n = cnk L s n + 1 := by rw [cnk_next, if_pos ⟨hn, hL⟩]
  have e2 := pl_is hn hs hL
  refine ⟨Nat.le_refl _, (fun x => by cases x), fun _ => ⟨word_fits hf hn hn15 hs hL, ?_⟩⟩
  rw [Nat.sub_self, Nat.pow_zero, e, e2]
  omega
theorem Wd.more {L : List Int} {n s V m : Nat} (h : Wd L n s V m false) (hf : fitsB (cn L) (mo L L.length) = true) (hn : 0 < n) (hn15 : n ≤ 15) (hs : s < L.length) (hL : L.getD s 0 = (n : Int)) : V + 1 < 2 ^ m ∧ (V + 1) * 2 ^ (n - m) = fw (cn L) n + pl L s := by
  have e2 := pl_is hn hs hL
  obtain ⟨a1, a2⟩ := h.snd rfl
  have h1 := word_fits hf hn hn15 hs hL
  rw [← e2] at a2
  refine ⟨?_, a2⟩
  have h2 : (2 : Nat) ^ n = 2 ^ m * 2 ^ (n - m) := by rw [← Nat.pow_add, Nat.add_sub_cancel' h.le]
  rw [← a2, h2] at h1
  exact Nat.lt_of_mul_lt_mul_right h1
theorem Wd.none {L : List Int} {n s V m : Nat} (h : Wd L n s V m true) (hn : 0 < n) (hs : s < L.length) (hL : L.getD s 0 = (n : Int)) : m = 0 ∧ V = 0 ∧ 0 * 2 ^ (n - 0) = fw (cn L) n + pl L s := by
  obtain ⟨a1, a2, a3⟩ := h.fst rfl
  have e2 := pl_is hn hs hL
  exact ⟨a1, a2, by rw [Nat.zero_mul, e2]; omega⟩

theorem info_str : (Try.prog.info? 9).map (fun i => (i.zero, i.size, i.bytes)) = some (some (.string { data := #[] }), 1, 16) := by kernel_rfl
theorem WR.start (w : World) (L : List Int) : WR w (w.alloc (.cells (madeCells #[.string { data := #[] }] L.length) 9)) w.heap.size L 1 0 := by
  have hb := heap_alloc_new w (.cells (madeCells #[.string { data := #[] }] L.length) 9)
  refine ⟨fun t ht => ?_, fun t ht => frozen_of_row _ _ _ _ _ hb, (Below.refl _ _).alloc (Nat.le_refl _) _, Nat.le_refl _, by simp⟩
  rw [cell_of_row _ _ t _ _ _ hb]
  have : wt L 1 0 t = [] := by unfold wt; rw [if_neg (by omega)]
  rw [this, bs_nil]
  simp [madeCells, ht, Nat.mod_one]

set_option maxRecDepth 100000 in
set_option maxHeartbeats 8000000 in
theorem words_any {w : World} {a : Option Addr} {n c : Nat} {L : List Int} (h : IntsAt .i64 w a n c L) (hok : okL L L.length) (hf : fitsB (cn L) (mo L L.length) = true) (hl : L.length ≤ 320) :
    Calls Try.prog 29 #[.slice a n c] w fun e w' => e = .returned (.slice (some ⟨w.heap.size, 0, none⟩) n n) ∧ WR w w' w.heap.size L 16 0 := by
  have hlen := h.len
  have hcap := h.cap
  have hcm := h.capm
  have hmk := run_make_row' (P := Try.prog) 60 9 (.string { data := #[] }) 16 Try.underlying60 info_str rfl .i64 .i64 n (by omega) (by omega)
  have hst := WR.start w L
  rw [hlen] at hst
  have HST := Lib.hid hst
  have HH := Lib.hid h
  have HL := Lib.hid hlen
  have HF := Lib.hid hf
  have HOK := Lib.hid hok
  obtain ⟨g, hg⟩ : ∃ g, g = w.heap.size := ⟨_, rfl⟩
  rw [← hg]
  have HST2 : Hid (WR w (w.alloc (.cells (madeCells #[.string { data := #[] }] n) 9)) g L 1 0) := by rw [hg]; exact HST
  have HW0 := Lib.hid (Wd.start L)
  have hn320 : n ≤ 320 := by omega
  have HLE := Lib.hid hl
  have HG := Lib.hid hg
  clear h hlen hst hok hf hl HST hg
  have hmk2 : ∀ w', w'.heap.size = g → (Instr.makeSlice 60 (.int .i64 (n : Int)) (.int .i64 (n : Int))).run Try.prog w' = .ok (.slice (some ⟨g, 0, none⟩) n n) (w'.alloc (.cells (madeCells #[.string { data := #[] }] n) 9)) := fun w' hw => by rw [hmk w', hw]
  have hmk3 := hmk2 w HG.out.symm
  clear hmk hmk2
  go_enter Try.func29, Try.ntmps29
  go_wp2_with fail
  go_loopw [4, 5, 6] (fun s4 s5 s6 wr => ∃ (l V m z : Nat), 1 ≤ l ∧ l ≤ 16 ∧ s6 = .int .i64 (l : Int) ∧ s5 = .bool (z == 0) ∧ s4 = .string (bs (txt V m)) ∧ Hid (Wd L l 0 V m (z == 0)) ∧ Hid (WR w wr g L l 0)) (fun _ _ s6 _ => 16 - (intOf s6).toNat)
  case atStart => exact ⟨1, 0, 0, 0, by omega, by omega, rfl, rfl, by rw [txt_nil, bs_nil], HW0, HST2⟩
  case round =>
    obtain ⟨l, V, m, z, hl1, hl16, rfl, rfl, rfl, HW, HR⟩ := hrel
    rename World => wr
    obtain ⟨b, hb⟩ : ∃ b, b = (z == 0) := ⟨_, rfl⟩
    rw [← hb] at HW ⊢
    have HB := Lib.hid hb
    clear hb
    by_cases hl15 : l ≤ 15
    · clear HW0 HST2 hmk3
      obtain ⟨tx, htx⟩ : ∃ tx, tx = bs (txt V m) := ⟨_, rfl⟩
      rw [← htx]
      have HTX := Lib.hid htx
      clear htx
      go_wp2_with fail
      go_loopw [4, 5, 18] (fun s4 s5 s18 wr => ∃ (s V m z : Nat) (tx : ByteArray), s ≤ n ∧ s18 = .int .i64 (s : Int) ∧ s5 = .bool (z == 0) ∧ s4 = .string tx ∧ Hid (tx = bs (txt V m)) ∧ Hid (Wd L l s V m (z == 0)) ∧ Hid (WR w wr g L l s)) (fun _ _ s18 _ => n - (intOf s18).toNat)
      case atStart => exact ⟨0, V, m, z, tx, by omega, rfl, by rw [HB.out], rfl, HTX, by rw [← HB.out]; exact HW, HR⟩
      case round =>
        clear HW HR HTX HB
        obtain ⟨s, V, m, z, tx, hs, rfl, rfl, rfl, HTX, HW, HR⟩ := hrel
        rename World => wq
        obtain ⟨b, hb⟩ : ∃ b, b = (z == 0) := ⟨_, rfl⟩
        rw [← hb] at HW ⊢
        have HB := Lib.hid hb
        clear hb
        by_cases hsn : s < n
        · obtain ⟨bk, off, rfl, hlt, hcell⟩ := (HH.out.keep HR.out.below (Nat.le_refl _)).cells (by omega)
          have hck := hcell s hsn
          obtain ⟨x, hx⟩ : ∃ x, x = L.getD s 0 := ⟨_, rfl⟩
          rw [← hx] at hck
          clear hcell
          by_cases hxl : x = (l : Int)
          · subst hxl
            have hsL : s < L.length := by rw [HL.out]; exact hsn
            have hfr := HR.out.fr s hsL
            clear HB
            cases b
            · -- a word stood there
              obtain ⟨hv1, hv2⟩ := HW.out.more HF.out (by omega) hl15 hsL hx.symm
              have hml := HW.out.le
              have HN := Lib.hid (next1_any wq V m (by omega) hv1)
              have HV2 := Lib.hid hv2
              rw [← HTX.out] at HN
              clear hv1 hv2
              go_wp2_with fail
              refine HN.out.mono ?_
              rintro e w5 ⟨rfl, hb5⟩
              have HR5 := Lib.hid (HR.out.kept hb5)
              clear hb5
              obtain ⟨ty, hty⟩ : ∃ ty, ty = bs (txt (V + 1) m) := ⟨_, rfl⟩
              rw [← hty]
              have HTY := Lib.hid hty
              obtain ⟨U, hU⟩ : ∃ U, U = V + 1 := ⟨_, rfl⟩
              rw [← hU] at HTY HV2
              obtain ⟨mm, hmm⟩ : ∃ mm, mm = m := ⟨_, rfl⟩
              rw [← hmm] at HTY HV2 hml
              have hfr5 := HR5.out.fr s hsL
              have hce5 := HR5.out.cell s hsL
              have HPUT := Lib.hid (HR5.out.put hsL (by omega) hx.symm)
              have HWD := Lib.hid (Wd.hit HF.out (by omega) hl15 hsL hx.symm)
              clear hty hU hmm hx
              go_wp2_with fail
              go_loop [4] (fun s4 => ∃ (k : Nat) (tz : ByteArray), mm ≤ k ∧ k ≤ l ∧ s4 = .string tz ∧ tz.size = k ∧ Hid (tz = bs (txt (U * 2 ^ (k - mm)) k))) (fun s4 => l - (match s4 with | .string t => t.size | _ => 0))
              case atStart => exact ⟨mm, ty, by omega, by omega, rfl, by rw [HTY.out, bs_size, txt_len], Lib.hid (by rw [HTY.out, Nat.sub_self, Nat.pow_zero, Nat.mul_one])⟩
              case round =>
                obtain ⟨k, tz, hk1, hk2, rfl, hz, HZ⟩ := hrel
                by_cases hkl : k < l
                · have hzz : (tz ++ { data := #[48] } : ByteArray) = bs (txt (U * 2 ^ (k + 1 - mm)) (k + 1)) := by
                    rw [HZ.out, bs_48, bs_app, txt_zero, show k + 1 - mm = (k - mm) + 1 from by omega, show 2 * (U * 2 ^ (k - mm)) = U * 2 ^ ((k - mm) + 1) from by rw [Nat.pow_succ, Nat.mul_comm 2, Nat.mul_assoc]]
                  have HZZ := Lib.hid hzz
                  have HZS := Lib.hid (show (tz ++ { data := #[48] } : ByteArray).size = k + 1 by rw [hzz, bs_size, txt_len])
                  have hd3 : (k : Int) < (l : Int) := by omega
                  have hd4 : ¬ (l : Int) ≤ (k : Int) := by omega
                  clear hzz
                  go_wp2_with fail
                  go_round
                  case rel => exact ⟨k + 1, _, by omega, by omega, rfl, HZS.out, HZZ⟩
                  case measure => simp only [HZS.out, hz]; omega
                · obtain rfl : k = l := by omega
                  have hzl : tz = bs (txt (fw (cn L) k + pl L s) k) := by rw [HZ.out, ← HV2.out]
                  have HZL := Lib.hid hzl
                  have HP2 : Hid (WR w (w5.setCell ⟨g, s, none⟩ (.string tz)) g L k (s + 1)) := by rw [hzl]; exact HPUT
                  clear hzl hkl
                  go_wp2_with fail
                  go_roundw
                  case rel =>
                    first
                    | exact ⟨s + 1, _, k, 1, tz, by omega, by go_num, rfl, rfl, HZL, HWD, HP2⟩
                    | exact ⟨_, _, _, _, _, ⟨s + 1, by omega, by go_num, _, k, 1, rfl, tz, rfl, HZL, HWD, HP2⟩, rfl, rfl, rfl, rfl, rfl⟩
                  case measure => simp [intOf]; omega
            · -- none yet
              obtain ⟨rfl, rfl, hv2⟩ := HW.out.none (by omega) hsL hx.symm
              have HV2 := Lib.hid hv2
              have hml : 0 ≤ l := Nat.zero_le _
              have HTY : Hid (tx = bs (txt 0 0)) := HTX
              obtain ⟨U, hU⟩ : ∃ U, U = 0 := ⟨_, rfl⟩
              obtain ⟨mm, hmm⟩ : ∃ mm, mm = 0 := ⟨_, rfl⟩
              have HTY' : Hid (tx = bs (txt U mm)) := by rw [hU, hmm]; exact HTY
              have HV2' : Hid (U * 2 ^ (l - mm) = fw (cn L) l + pl L s) := by rw [hU, hmm]; exact HV2
              have hml' : mm ≤ l := by omega
              have hfr5 := HR.out.fr s hsL
              have hce5 := HR.out.cell s hsL
              have HPUT := Lib.hid (HR.out.put hsL (by omega) hx.symm)
              have HWD := Lib.hid (Wd.hit HF.out (by omega) hl15 hsL hx.symm)
              clear hv2 hml HTY HV2 hU hmm hx
              go_wp2_with fail
              go_loop [4] (fun s4 => ∃ (k : Nat) (tz : ByteArray), mm ≤ k ∧ k ≤ l ∧ s4 = .string tz ∧ tz.size = k ∧ Hid (tz = bs (txt (U * 2 ^ (k - mm)) k))) (fun s4 => l - (match s4 with | .string t => t.size | _ => 0))
              case atStart => exact ⟨mm, tx, by omega, by omega, rfl, by rw [HTY'.out, bs_size, txt_len], Lib.hid (by rw [HTY'.out, Nat.sub_self, Nat.pow_zero, Nat.mul_one])⟩
              case round =>
                obtain ⟨k, tz, hk1, hk2, rfl, hz, HZ⟩ := hrel
                by_cases hkl : k < l
                · have hzz : (tz ++ { data := #[48] } : ByteArray) = bs (txt (U * 2 ^ (k + 1 - mm)) (k + 1)) := by
                    rw [HZ.out, bs_48, bs_app, txt_zero, show k + 1 - mm = (k - mm) + 1 from by omega, show 2 * (U * 2 ^ (k - mm)) = U * 2 ^ ((k - mm) + 1) from by rw [Nat.pow_succ, Nat.mul_comm 2, Nat.mul_assoc]]
                  have HZZ := Lib.hid hzz
                  have HZS := Lib.hid (show (tz ++ { data := #[48] } : ByteArray).size = k + 1 by rw [hzz, bs_size, txt_len])
                  have hd3 : (k : Int) < (l : Int) := by omega
                  have hd4 : ¬ (l : Int) ≤ (k : Int) := by omega
                  clear hzz
                  go_wp2_with fail
                  go_round
                  case rel => exact ⟨k + 1, _, by omega, by omega, rfl, HZS.out, HZZ⟩
                  case measure => simp only [HZS.out, hz]; omega
                · obtain rfl : k = l := by omega
                  have hzl : tz = bs (txt (fw (cn L) k + pl L s) k) := by rw [HZ.out, ← HV2'.out]
                  have HZL := Lib.hid hzl
                  have HP2 : Hid (WR w (wq.setCell ⟨g, s, none⟩ (.string tz)) g L k (s + 1)) := by rw [hzl]; exact HPUT
                  clear hzl hkl
                  go_wp2_with fail
                  go_roundw
                  case rel =>
                    first
                    | exact ⟨s + 1, _, k, 1, tz, by omega, by go_num, rfl, rfl, HZL, HWD, HP2⟩
                    | exact ⟨_, _, _, _, _, ⟨s + 1, by omega, by go_num, _, k, 1, rfl, tz, rfl, HZL, HWD, HP2⟩, rfl, rfl, rfl, rfl, rfl⟩
                  case measure => simp [intOf]; omega
          · have hne : (x != (l : Int)) = true := by rw [bne_iff_ne]; exact hxl
            have HW2 := Lib.hid (HW.out.miss (by rw [← hx]; exact hxl))
            have HR2 := Lib.hid (HR.out.miss (by rw [← hx]; exact hxl))
            clear hxl hx
            go_wp2_with fail
            go_roundw
            case rel => exact ⟨s + 1, V, m, z, tx, by omega, by go_num, by rw [HB.out], rfl, HTX, by rw [← HB.out]; exact HW2, HR2⟩
            case measure => simp [intOf]; omega
        · obtain rfl : s = n := by omega
          have HW2 := Lib.hid (Wd.next (by rw [HL.out]; exact HW.out) hl1)
          have HR2 := Lib.hid (WR.next (by rw [HL.out]; exact HR.out))
          go_wp2_with fail
          go_roundw
          case rel => exact ⟨l + 1, V, m, z, by omega, by omega, by go_num, by rw [HB.out], by rw [HTX.out], by rw [← HB.out]; exact HW2, HR2⟩
          case measure => simp [intOf]; omega
    · obtain rfl : l = 16 := by omega
      obtain ⟨tx, htx⟩ : ∃ tx, tx = bs (txt V m) := ⟨_, rfl⟩
      rw [← htx]
      clear HW0 HST2 hmk3 htx
      go_wp2_with fail
      go_ret
      exact ⟨rfl, HR.out⟩
end Go.Proofs.Ytachikilcfdngaa
