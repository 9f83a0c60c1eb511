/- Texts put together by packtpl2.py: BitsReader, Bool, ColFlags, ColRead, CrcPlain, CrcKit. -/
import Derived.Test.YtpbijdoemdoijaaGreatDoorPkCa1
import Derived.Test.YtpbijdoemdoijaaGreatDoorPkCa3
import Derived.Test.YtpbijdoemdoijaaGreatDoorPkCa7
import Derived.Test.YtpbijdoemdoijaaGreatDoorPkCa8
import Derived.Test.YtpbijdoemdoijaaGreatDoorPkCa9
import Derived.WalkKit
import Derived.Laws.BitsAllLaws
section PkCa10_0
/- Package bits' Reader: NewReader, At, Left, Align, Bits, walked. -/
namespace Go.Proofs.YtpbijdoemdoijaaGreatDoor
open Go.RowKit BitsPlain
set_option linter.unusedVariables false

/-- a reader's block: the bytes, the place -/
structure RdAt (w : World) (B : Nat) (a : Option Addr) (n c : Nat) (xs : List Nat) (p : Nat) : Prop where
  blk : w.heap[B]? = some (.cells #[.slice a n c, .int .i64 (p : Int)] 160 (0, 0))
  src : BytesAt w a n c xs
  apart : ∀ b off s, 0 < n → a = some ⟨b, off, s⟩ → b ≠ B
  le : p ≤ 8 * n

section
variable {w : World} {B : Nat} {a : Option Addr} {n c : Nat} {xs : List Nat} {p : Nat}
theorem RdAt.c0 (h : RdAt w B a n c xs p) : w.cell? ⟨B, 0, none⟩ = some (.slice a n c) := by
  rw [cell_of_row w B 0 _ _ (0, 0) h.blk]; rfl
theorem RdAt.c1 (h : RdAt w B a n c xs p) : w.cell? ⟨B, 1, none⟩ = some (.int .i64 (p : Int)) := by
  rw [cell_of_row w B 1 _ _ (0, 0) h.blk]; rfl
theorem RdAt.f (h : RdAt w B a n c xs p) (j : Nat) : w.frozen? ⟨B, j, none⟩ = false := frozen_of_row w B j _ _ h.blk
theorem RdAt.lt (h : RdAt w B a n c xs p) : B < w.heap.size := (Array.getElem?_eq_some_iff.1 h.blk).1
theorem RdAt.drewN (h : RdAt w B a n c xs p) (k : Nat) : RdAt (w.drewN k) B a n c xs p := ⟨h.blk, h.src.drewN k, h.apart, h.le⟩
theorem RdAt.set1 (h : RdAt w B a n c xs p) (j : Nat) (hj : j ≤ 8 * n) :
    RdAt (w.setCell ⟨B, 1, none⟩ (.int .i64 (j : Int))) B a n c xs j ∧ w.grownBy (w.setCell ⟨B, 1, none⟩ (.int .i64 (j : Int))) (some B) := by
  have hg : w.grownBy (w.setCell ⟨B, 1, none⟩ (.int .i64 (j : Int))) (some B) := ⟨rfl, rfl, rfl, by simp, fun k _ hk => heap_setCell_other w ⟨B, 1, none⟩ k _ (fun e => hk (by simp [e]))⟩
  refine ⟨⟨?_, ?_, h.apart, hj⟩, hg⟩
  · rw [heap_setCell_same w B 1 _ _ _ h.blk]; rfl
  · exact ⟨h.src.len, h.src.cap, h.src.byte, h.src.reach, h.src.capm, h.src.nl, fun hp => by
      obtain ⟨b, off, ha, hlt, hc⟩ := h.src.cells hp
      exact ⟨b, off, ha, Nat.lt_of_lt_of_le hlt hg.size, fun k hk => hg.cell (hc k hk) (fun e => h.apart b off _ hp ha (Option.some.inj e))⟩⟩
/-- what another's writes leave -/
theorem RdAt.other {w' : World} (h : RdAt w B a n c xs p) {r : Option Nat} (hg : w.grownBy w' r) (hB : some B ≠ r) (ha : 0 < n → ∀ b off s, a = some ⟨b, off, s⟩ → some b ≠ r) : RdAt w' B a n c xs p :=
  ⟨(hg.block B h.lt hB).trans h.blk, ⟨h.src.len, h.src.cap, h.src.byte, h.src.reach, h.src.capm, h.src.nl, fun hp => by
    obtain ⟨b, off, e, hlt, hc⟩ := h.src.cells hp
    exact ⟨b, off, e, Nat.lt_of_lt_of_le hlt hg.size, fun k hk => hg.cell (hc k hk) (ha hp b off _ e)⟩⟩, h.apart, h.le⟩
end

set_option maxRecDepth 100000 in
set_option maxHeartbeats 1000000 in
theorem rnew_any {a : Option Addr} {n c : Nat} {xs : List Nat} {w : World} (h : BytesAt w a n c xs) :
    Calls Tryz.prog 99 #[.slice a n c] w fun e w' => ∃ B a' c', e = .returned (.pointer (some ⟨B, 0, none⟩)) ∧ RdAt w' B a' n c' xs 0 ∧ Below w.heap.size w w' ∧ w.heap.size ≤ B ∧ (∀ b off s, a' = some ⟨b, off, s⟩ → w.heap.size ≤ b) := by
  have hc := clone_any h
  have HC := Lib.hid hc
  clear hc h
  go_enter Tryz.func99, Tryz.ntmps99
  go_wp2_with fail
  refine HC.out.mono ?_
  rintro e w1 ⟨a', c', rfl, hb1, hbel, hfresh⟩
  have HB := Lib.hid hb1
  clear hb1
  go_wp2_with fail
  go_ret
  refine ⟨w1.heap.size, a', c', rfl, ⟨?_, HB.out.alloc _, ?_, Nat.zero_le _⟩, hbel.alloc hbel.size _, hbel.size, hfresh⟩
  · exact heap_alloc_new w1 _
  · intro b off s hp ha
    obtain ⟨b', off', ha', hlt, _⟩ := HB.out.cells hp
    rw [ha] at ha'
    cases ha'
    omega

set_option maxHeartbeats 400000 in
theorem rat_any {w : World} {B : Nat} {a : Option Addr} {n c : Nat} {xs : List Nat} {p : Nat} (h : RdAt w B a n c xs p) :
    Calls Tryz.prog 163 #[.pointer (some ⟨B, 0, none⟩)] w fun e w' => e = .returned (.int .i64 (p : Int)) ∧ w = w' := by
  have h1 := h.c1
  clear h
  go_enter Tryz.func163, Tryz.ntmps163
  go_wp2_with fail
  go_ret
  exact ⟨rfl, rfl⟩

set_option maxHeartbeats 400000 in
theorem rleft_any {w : World} {B : Nat} {a : Option Addr} {n c : Nat} {xs : List Nat} {p : Nat} (h : RdAt w B a n c xs p) :
    Calls Tryz.prog 139 #[.pointer (some ⟨B, 0, none⟩)] w fun e w' => e = .returned (.int .i64 ((8 * n - p : Nat) : Int)) ∧ ∃ q, w' = w.drewN q := by
  have h0 := h.c0
  have h1 := h.c1
  have hr := h.src.reach
  have hl := h.le
  have e1 : IntKind.i64.wrap (8 * (n : Int)) = 8 * (n : Int) := IntWalk.i64_in _ (by omega)
  have e2 : IntKind.i64.wrap (8 * (n : Int) - (p : Int)) = ((8 * n - p : Nat) : Int) := by rw [IntWalk.i64_in _ (by omega)]; omega
  clear h
  go_enter Tryz.func139, Tryz.ntmps139
  go_wp2_with fail
  go_quiet (fail)
  go_wp2_with fail
  go_ret
  exact ⟨rfl, _, rfl⟩

/-- what reading n bits answers: the number, the error, and the place behind -/
def rb (xs : List Nat) (p : Nat) (k : Int) : Nat × Nat × Nat :=
  if k < 0 ∨ 32 < k then (0, 1, p) else if 8 * xs.length - p < k.toNat then (0, 3, p) else (num xs p k.toNat, 0, p + k.toNat)

set_option maxRecDepth 100000 in
set_option maxHeartbeats 2000000 in
theorem rbits_any {w : World} {B : Nat} {a : Option Addr} {n c : Nat} {xs : List Nat} {p : Nat} (h : RdAt w B a n c xs p) (k : Int) :
    Calls Tryz.prog 101 #[.pointer (some ⟨B, 0, none⟩), .int .i64 k] w fun e w' => e = .returned (.tuple #[.int .u32 ((rb xs p k).1 : Int), .int .i64 ((rb xs p k).2.1 : Int)]) ∧ RdAt w' B a n c xs (rb xs p k).2.2 ∧ w.grownBy w' (some B) := by
  have hlen := h.src.len
  by_cases hneg : k < 0
  · have hr : rb xs p k = (0, 1, p) := by unfold rb; rw [if_pos (Or.inl hneg)]
    have HR := Lib.hid hr
    have HH := Lib.hid h
    have d1 : decide (k < 0) = true := by simp; omega
    clear hr h
    go_enter Tryz.func101, Tryz.ntmps101
    go_wp2_with fail
    go_ret2
    rw [HR.out]
    exact ⟨rfl, HH.out, World.grownBy.refl _ _⟩
  · by_cases hbig : 32 < k
    · have hr : rb xs p k = (0, 1, p) := by unfold rb; rw [if_pos (Or.inr hbig)]
      have HR := Lib.hid hr
      have HH := Lib.hid h
      clear hr h
      go_enter Tryz.func101, Tryz.ntmps101
      go_wp2_with fail
      go_ret2
      rw [HR.out]
      exact ⟨rfl, HH.out, World.grownBy.refl _ _⟩
    · obtain ⟨m, rfl⟩ := Int.eq_ofNat_of_zero_le (show 0 ≤ k by omega)
      have hL := rleft_any h
      have HLf := Lib.hid hL
      have hpn := h.le
      have hnr := h.src.reach
      by_cases hs : 8 * n - p < m
      · have hr : rb xs p (m : Int) = (0, 3, p) := by unfold rb; rw [if_neg (by omega), if_pos (by rw [hlen]; simpa using hs)]
        have HR := Lib.hid hr
        have HH := Lib.hid h
        have hs' : ((8 * n - p : Nat) : Int) < (m : Int) := by omega
        clear hr h hL
        go_enter Tryz.func101, Tryz.ntmps101
        go_wp2_with fail
        refine HLf.out.mono ?_
        rintro e w1 ⟨rfl, q, hw1⟩
        subst hw1
        go_wp2_with fail
        go_ret2
        rw [HR.out]
        exact ⟨rfl, HH.out.drewN q, grown_drewN _ _ _⟩
      · have hr : rb xs p (m : Int) = (num xs p m, 0, p + m) := by unfold rb; rw [if_neg (by omega), if_neg (by rw [hlen]; simpa using hs)]; simp
        have HR := Lib.hid hr
        have HH := Lib.hid h
        have hs' : (m : Int) ≤ ((8 * n - p : Nat) : Int) := by omega
        have h0 := h.c0
        have h1 := h.c1
        have f1 := h.f 1
        clear hr h hL
        go_enter Tryz.func101, Tryz.ntmps101
        go_wp2_with fail
        refine HLf.out.mono ?_
        rintro e w1 ⟨rfl, q, hw1⟩
        subst hw1
        go_wp2_with fail
        go_loop [6, 25] (fun sv si => ∃ i : Nat, i ≤ m ∧ si = .int .i64 i ∧ sv = .int .u32 (num xs p i : Int)) (fun _ si => m - (intOf si).toNat)
        case atStart => exact ⟨0, by omega, rfl, rfl⟩
        case round =>
          obtain ⟨i, hi, rfl, rfl⟩ := hrel
          by_cases him : i < m
          · have hpos : 0 < n := by omega
            obtain ⟨b, off, rfl, _, hc⟩ := HH.out.src.cells hpos
            have hci := hc ((p + i) / 8) (by omega)
            obtain ⟨x, hx⟩ : ∃ x, x = xs.getD ((p + i) / 8) 0 := ⟨_, rfl⟩
            have hx256 : x < 256 := by
              have h1 : (p + i) / 8 < xs.length := by omega
              have : xs.getD ((p + i) / 8) 0 = xs[(p + i) / 8] := by simp [h1]
              rw [hx, this]
              exact HH.out.src.byte _ (List.getElem_mem h1)
            rw [← hx] at hci
            have HX := Lib.hid hx
            clear hc hx
            go_wp2_with fail
            go_round
            case rel =>
              refine ⟨i + 1, by omega, by go_num, ?_⟩
              rw [bit_step (num_lt xs p i) (by omega) hx256, HX.out]
              rfl
            case measure => simp [intOf]; omega
          · have him2 : i = m := by omega
            subst him2
            go_wp2_with fail
            go_ret2
            rw [HR.out]
            obtain ⟨hs1, hg1⟩ := (HH.out.drewN q).set1 (p + i) (by omega)
            exact ⟨rfl, hs1, (grown_drewN _ _ _).trans' hg1⟩
end Go.Proofs.YtpbijdoemdoijaaGreatDoor
end PkCa10_0
section PkCa10_1
/- Truths as values. -/
namespace Go.Proofs.YtpbijdoemdoijaaGreatDoor
open Go.RowKit
set_option linter.unusedVariables false

theorem info_bool : (Tryz.prog.info? 4).map (fun i => (i.zero, i.size, i.bytes)) = some (some (.bool false), 1, 1) := by kernel_rfl
/-- truths as values; a slice of them -/
def bl (l : List Bool) : List Value := l.map fun b => Value.bool b
theorem bl_get (l : List Bool) (i : Nat) (h : i < l.length) : (bl l)[i]? = some (.bool (l.getD i false)) := by simp [bl, h]
end Go.Proofs.YtpbijdoemdoijaaGreatDoor
end PkCa10_1
section PkCa10_2
/- Columns of flags: their content and back, walked. -/
namespace Go.Proofs.YtpbijdoemdoijaaGreatDoor
open Go.RowKit BitsPlain NumsPlain
set_option linter.unusedVariables false

theorem own_lower {w : World} {base base' n size : Nat} {e : TypeId} {v : Value} {xs : List Value} (h : w.ownsRow base e size v n xs) (hb : base' ≤ base) : w.ownsRow base' e size v n xs := by
  refine ⟨h.1, ?_⟩
  rcases h.2 with g | ⟨g, cap, cur, e1, e2, e3⟩
  · exact .inl g
  · exact .inr ⟨g, cap, cur, e1, Nat.le_trans hb e2, e3⟩
structure FlAt (w : World) (a : Option Addr) (n c : Nat) (l : List Bool) : Prop where
  len : l.length = n
  cap : n ≤ c
  capm : c ≤ 9223372036854775807
  nl : a = none → c = 0
  cells : 0 < n → ∃ b off, a = some ⟨b, off, none⟩ ∧ b < w.heap.size ∧ ∀ i, i < n → w.cell? ⟨b, off + i, none⟩ = some (.bool (l.getD i false))
theorem FlAt.keep {w w' : World} {a : Option Addr} {n c : Nat} {l : List Bool} (h : FlAt w a n c l) {B : Nat} (hb : Below B w w') (hB : w.heap.size ≤ B) : FlAt w' a n c l :=
  ⟨h.len, h.cap, h.capm, h.nl, fun hn => by
    obtain ⟨b, off, ha, hlt, hc⟩ := h.cells hn
    exact ⟨b, off, ha, Nat.lt_of_lt_of_le hlt hb.size, fun i hi => (hb.cell (p := ⟨b, off + i, none⟩) (Nat.lt_of_lt_of_le hlt hB)).trans (hc i hi)⟩⟩
theorem FlAt.kept {w w' : World} {a : Option Addr} {n c : Nat} {l : List Bool} (h : FlAt w a n c l) (hb : Below w.heap.size w w') : FlAt w' a n c l := h.keep hb (Nat.le_refl _)
theorem FlAt.ofOwn {w : World} {base n : Nat} {v : Value} {l : List Bool} (h : w.ownsRow base 4 1 v n (bl l)) :
    ∃ a c, v = .slice a n c ∧ FlAt w a n c l := by
  have hlen : l.length = n := by have := h.1; simpa [bl] using this
  rcases h.2 with ⟨h0, h1⟩ | ⟨g, cap, cur, rfl, hg, hh, hn, hcap, hsz, htake⟩
  · subst h1
    obtain rfl : l = [] := List.eq_nil_of_length_eq_zero hlen
    exact ⟨none, 0, h0, ⟨rfl, Nat.le_refl _, by omega, fun _ => rfl, fun h => absurd h (Nat.lt_irrefl 0)⟩⟩
  · have hlt : g < w.heap.size := (Array.getElem?_eq_some_iff.1 hh).1
    refine ⟨some ⟨g, 0, none⟩, cap, rfl, ⟨hlen, hn, (by unfold maxLen at hcap; exact hcap), (fun e => by cases e), fun hp => ⟨g, 0, rfl, hlt, fun i hi => ?_⟩⟩⟩
    have := h.cellAt i (by omega)
    rw [Nat.zero_add, this, bl_get _ _ (by omega)]
def bit (b : Bool) : Nat := if b then 1 else 0
def fbits (f : List Bool) : List Nat := f.map bit
theorem fbits_snoc {f : List Bool} {k : Nat} (h : k < f.length) : fbits (f.take (k + 1)) = fbits (f.take k) ++ [bit (f.getD k false)] := by
  unfold fbits
  rw [List.take_add_one, List.getElem?_eq_getElem h, List.map_append]
  simp [h]
theorem fbits_bin (f : List Bool) : Bin (fbits f) := by
  intro x hx
  unfold fbits at hx
  obtain ⟨b, _, rfl⟩ := List.mem_map.1 hx
  unfold bit
  split <;> omega
/-- the content of a column of flags -/
def flC (f : List Bool) : List Nat := pu f.length ++ pack (fbits f)

set_option maxRecDepth 100000 in
set_option maxHeartbeats 2000000 in
theorem number_nil {w : World} {k : Nat} (hk : k < 9223372036854775808) :
    Calls Tryz.prog 79 #[.slice none 0 0, .int .i64 (k : Int)] w fun e w' => ∃ v, e = .returned v ∧ w'.ownsRow w.heap.size 5 1 v (pu k).length (bv (pu k)) ∧ Below w.heap.size w w' := by
  have HP := Lib.hid (putu k (by omega) w)
  have h10 := pu_ten (n := k) (by omega)
  go_enter Tryz.func79, Tryz.ntmps79
  go_wp2_with fail
  refine HP.out.mono ?_
  rintro e w1 ⟨g, c, rfl, hg, hb1, hbel⟩
  have HB1 := Lib.hid hbel
  have H1 := Lib.hid hb1
  have HS := Lib.hid hbel.size
  have HO := Lib.hid (own_nil_bytes w1 w.heap.size)
  clear hb1 hbel hg
  go_wp2_with (at_builtin; refine wpList_append_bytes rfl (.tmp 5) (.tmp 8) rfl w.heap.size _ 0 [] rfl HO.out _ _ _ (pu k) rfl H1.out (by omega) HS.out ?_)
  intro v2 w2 ho2 hg2
  have HO2 := Lib.hid (show w2.ownsRow w.heap.size 5 1 v2 (pu k).length (bv (pu k)) from by simpa using ho2)
  have HB2 := Lib.hid (below_own HB1.out HO.out hg2 (Nat.le_refl _) HS.out)
  clear ho2 hg2
  go_wp2_with fail
  go_ret
  exact ⟨_, rfl, HO2.out, HB2.out⟩

set_option maxRecDepth 100000 in
set_option maxHeartbeats 4000000 in
theorem flagsContent_any {w : World} {a : Option Addr} {n c : Nat} {f : List Bool} (h : FlAt w a n c f) (hn : n ≤ 100000) :
    Calls Tryz.prog 45 #[.slice a n c] w fun e w' => ∃ v, e = .returned (.tuple #[v, .int .i64 0]) ∧ w'.ownsRow w.heap.size 5 1 v (flC f).length (bv (flC f)) ∧ Below w.heap.size w w' := by
  have hnew := wr_new w w.heap.size (by omega)
  obtain ⟨w1, hw1⟩ : ∃ w1, w1 = w.alloc (.cells #[.slice none 0 0, .int .i64 0] 97) := ⟨_, rfl⟩
  have b1 : Below w.heap.size w w1 := by rw [hw1]; exact (Below.refl _ _).alloc (Nat.le_refl _) _
  rw [← hw1] at hnew
  have hll := h.len
  have HW1 := Lib.hid hw1
  have HL1 := Lib.hid (show Wl w w1 (.slice none 0 0) [] from ⟨hnew, b1⟩)
  have HF := Lib.hid h
  have hcap := h.cap
  have hcm := h.capm
  clear h b1 hnew hw1
  go_enter Tryz.func45, Tryz.ntmps45
  go_wp2_with fail
  rw [← HW1.out]
  go_loopw [6, 7, 10] (fun _ _ s10 wr => ∃ (k : Nat) (v : Value), k ≤ n ∧ s10 = .int .i64 (k : Int) ∧ Hid (Wl w wr v (fbits (f.take k)))) (fun _ _ s10 _ => n - (intOf s10).toNat)
  case atStart => exact ⟨0, _, by omega, rfl, by simpa [fbits] using HL1⟩
  case round =>
    obtain ⟨k, v, hk, rfl, HL⟩ := hrel
    rename World => wr
    have hkl : (fbits (f.take k)).length = k := by unfold fbits; rw [List.length_map, List.length_take]; omega
    by_cases hkn : k < n
    · have hki : (k : Int) < (n : Int) := by omega
      obtain ⟨b1, off, rfl, hlt, hcell⟩ := (HF.out.keep HL.out.bel (Nat.le_refl _)).cells (by omega)
      have hc := hcell k hkn
      have hsn := fbits_snoc (f := f) (k := k) (by omega)
      obtain ⟨x, hx⟩ : ∃ x, x = f.getD k false := ⟨_, rfl⟩
      rw [← hx] at hc hsn
      clear hcell hx
      cases x
      · have HC := Lib.hid (wbits_any HL.out.wr HL.out.bel.size 0 (by omega) 1 (by omega) (by omega))
        have HSN := Lib.hid (show fbits (f.take (k + 1)) = fbits (f.take k) ++ bitsOf 0 1 from hsn)
        clear hsn hkl
        go_wp2_with fail
        refine HC.out.mono ?_
        rintro e w2 ⟨rfl, v2, h2, t2, g2⟩
        have HL2 := Lib.hid (show Wl w w2 v2 (fbits (f.take (k + 1))) from by rw [HSN.out]; exact HL.out.step h2 t2)
        clear h2 t2 g2
        go_wp2_with fail
        go_roundw
        case rel => exact ⟨k + 1, v2, by omega, by go_num, HL2⟩
        case measure => simp [intOf]; omega
      · have HC := Lib.hid (wbits_any HL.out.wr HL.out.bel.size 1 (by omega) 1 (by omega) (by omega))
        have HSN := Lib.hid (show fbits (f.take (k + 1)) = fbits (f.take k) ++ bitsOf 1 1 from hsn)
        clear hsn hkl
        go_wp2_with fail
        refine HC.out.mono ?_
        rintro e w2 ⟨rfl, v2, h2, t2, g2⟩
        have HL2 := Lib.hid (show Wl w w2 v2 (fbits (f.take (k + 1))) from by rw [HSN.out]; exact HL.out.step h2 t2)
        clear h2 t2 g2
        go_wp2_with fail
        go_roundw
        case rel => exact ⟨k + 1, v2, by omega, by go_num, HL2⟩
        case measure => simp [intOf]; omega
    · have hkn2 : k = n := by omega
      have hnn : ¬ ((k : Int) < (n : Int)) := by omega
      have HLE := Lib.hid (show Wl w wr v (fbits f) from by have := HL.out; rw [List.take_of_length_le (by omega)] at this; exact this)
      have HKL := Lib.hid (show (fbits f).length = n from by unfold fbits; rw [List.length_map]; omega)
      have HN := Lib.hid (number_nil (w := wr) (k := n) (by omega))
      clear hkn hkl hkn2
      go_wp2_with fail
      refine HN.out.mono ?_
      rintro e w2 ⟨v2, rfl, ho2, hb2⟩
      have HO2 := Lib.hid (own_lower ho2 HLE.out.bel.size)
      have HWR := Lib.hid (HLE.out.wr.grow hb2)
      have HB2 := Lib.hid (HLE.out.bel.trans (hb2.mono HLE.out.bel.size))
      have HBY := Lib.hid (wbytes_any HWR.out (by rw [HKL.out]; omega))
      clear ho2 hb2
      go_wp2_with fail
      refine HBY.out.mono ?_
      rintro e w3 ⟨a3, c3, rfl, h3, hb3, _⟩
      have HO3 := Lib.hid (own_below HO2.out hb3)
      have HB3 := Lib.hid (HB2.out.trans (hb3.mono HB2.out.size))
      have H3 := Lib.hid h3
      have HS3 := Lib.hid HB3.out.size
      have hpl := pack_len_le (fbits f) (by rw [HKL.out]; omega)
      have hpu := pu_ten (n := n) (by omega)
      clear h3 hb3
      go_wp2_with (at_builtin; refine wpList_append_bytes rfl (.tmp 20) (.tmp 21) rfl w.heap.size v2 (pu n).length (pu n) rfl HO3.out _ _ _ (pack (fbits f)) rfl H3.out (by omega) HS3.out ?_)
      intro v4 w4 ho4 hg4
      have HO4 := Lib.hid (show w4.ownsRow w.heap.size 5 1 v4 (flC f).length (bv (flC f)) from by unfold flC; rw [hll, List.length_append]; exact ho4)
      have HB4 := Lib.hid (below_own HB3.out HO3.out hg4 (Nat.le_refl _) HS3.out)
      clear ho4 hg4
      go_wp2_with fail
      first | go_ret2 | go_ret
      exact ⟨_, rfl, HO4.out, HB4.out⟩
end Go.Proofs.YtpbijdoemdoijaaGreatDoor
end PkCa10_2
section PkCa10_3
/- Columns of flags read back; a chunk's content. -/
namespace Go.Proofs.YtpbijdoemdoijaaGreatDoor
open Go.RowKit BitsPlain NumsPlain
set_option linter.unusedVariables false

theorem RdAt.low {w w' : World} {B : Nat} {a : Option Addr} {n c : Nat} {xs : List Nat} {p N : Nat} (h : RdAt w B a n c xs p) (hb : Below N w w') (hB : B < N) (ha : ∀ b off s, 0 < n → a = some ⟨b, off, s⟩ → b < N) : RdAt w' B a n c xs p :=
  ⟨(hb.block B hB).trans h.blk, ⟨h.src.len, h.src.cap, h.src.byte, h.src.reach, h.src.capm, h.src.nl, fun hp => by
    obtain ⟨b, off, e, hlt, hc⟩ := h.src.cells hp
    exact ⟨b, off, e, Nat.lt_of_lt_of_le hlt hb.size, fun i hi => (hb.cell (p := ⟨b, off + i, none⟩) (ha b off none hp e)).trans (hc i hi)⟩⟩, h.apart, h.le⟩
theorem cn_pu {n : Nat} {r : List Nat} {most : Int} {above : Nat} (h : n < 18446744073709551616) (hm : (n : Int) ≤ most) : ccn (pu n ++ r) 0 0 most above = (n, (pu n).length, 0) := by
  have hr := ru_back h r
  have hc : cu (pu n ++ r) 0 0 = (n, (pu n).length, 0) := by
    unfold cu
    rw [if_pos rfl]
    have hr' : ru (pu n ++ r) ((0 : Nat) : Int) = (n, (pu n).length, 0) := hr
    rw [hr', if_pos rfl, Nat.zero_add]
  unfold ccn
  rw [if_neg (by simp), hc, if_neg (by simp), if_neg (by simp only; omega)]
theorem rb_one {f : List Bool} {k : Nat} (h : k < f.length) : rb (pack (fbits f)) k 1 = (bit (f.getD k false), 0, k + 1) := by
  have hl : (fbits f).length = f.length := by unfold fbits; rw [List.length_map]
  have hb : num (pack (fbits f)) k 1 = bit (f.getD k false) := by
    rw [num_one, bitAt_pack (fbits_bin f)]
    unfold fbits
    simp [h]
  unfold rb
  rw [if_neg (by omega), if_neg (by rw [pack_length, hl, show (1 : Int).toNat = 1 from rfl]; omega), show (1 : Int).toNat = 1 from rfl, hb]
theorem bl_snoc {f : List Bool} {k : Nat} (h : k < f.length) : bl (f.take k) ++ [.bool (f.getD k false)] = bl (f.take (k + 1)) := by
  unfold bl
  rw [List.take_add_one, List.getElem?_eq_getElem h, List.map_append]
  simp [h]

set_option maxRecDepth 100000 in
set_option maxHeartbeats 4000000 in
theorem contentFlags_any {w : World} {a : Option Addr} {N c : Nat} {f : List Bool} (h : BytesAt w a N c (flC f)) (hn : f.length ≤ 2048) (h0 : 0 < f.length) :
    Calls Tryz.prog 61 #[.slice a N c] w fun e w' => ∃ v, e = .returned v ∧ w'.ownsRow w.heap.size 4 1 v f.length (bl f) ∧ Below w.heap.size w w' := by
  obtain ⟨i0, hi, hz0, hz1, hz2⟩ := info_parts info_bool
  have HN := Lib.hid (new_any h)
  have hN := h.len
  have hcap := h.cap
  have hcm := h.capm
  obtain ⟨n, hnn⟩ : ∃ n, n = f.length := ⟨_, rfl⟩
  have hp1 := pu_pos n
  have hp10 := pu_ten (n := n) (by omega)
  obtain ⟨m, hm⟩ : ∃ m, m = (pu n).length := ⟨_, rfl⟩
  have hNm : N = (pack (fbits f)).length + m := by
    rw [← hN]; unfold flC; rw [List.length_append, ← hnn, ← hm]; omega
  obtain ⟨M2, hM2⟩ : ∃ M2, M2 = (pack (fbits f)).length := ⟨_, rfl⟩
  rw [← hM2] at hNm
  subst hNm
  obtain ⟨c2, rfl⟩ : ∃ c2, c = c2 + m := ⟨c - m, by omega⟩
  obtain ⟨g, off, rfl, hg, hcell⟩ := h.cells (by omega)
  have HREST := Lib.hid (show BytesAt w (some ⟨g, off + m, none⟩) M2 c2 (pack (fbits f)) from by
    have := h.behind m (by omega)
    rw [Nat.add_sub_cancel, Nat.add_sub_cancel] at this
    have e : (flC f).drop m = pack (fbits f) := by unfold flC; rw [← hnn, hm, List.drop_left]
    rw [e] at this
    exact this)
  have HCN := Lib.hid (show ccn (flC f) 0 0 2048 2 = (n, m, 0) from by
    unfold flC; rw [← hnn, hm]; exact cn_pu (by omega) (by omega))
  have hM0 : 0 < M2 := by rw [hM2, pack_length]; unfold fbits; rw [List.length_map]; omega
  have hc0 : ¬ c2 = 0 := by omega
  have hc1 : 0 < c2 := by omega
  have HNN := Lib.hid hnn
  rw [← hnn]
  rw [← hnn] at hn
  have HH := Lib.hid h
  have HMM := Lib.hid hm
  have HM2 := Lib.hid hM2
  clear h hnn hm hM2 hN hcell
  go_enter Tryz.func61, Tryz.ntmps61
  go_wp2_with fail
  refine HN.out.mono ?_
  rintro e w1 ⟨B, a', c', rfl, hcur, hb1, hB, _⟩
  have HB1 := Lib.hid hb1
  have HBB := Lib.hid hB
  have hnum := cnum_any hcur 2048 (by omega) (by omega)
  rw [HCN.out] at hnum
  have HNUM := Lib.hid hnum
  clear hcur hb1 hB hnum
  go_wp2_with fail
  refine HNUM.out.mono ?_
  rintro e w2 ⟨rfl, hcur, hg2⟩
  have HB2 := Lib.hid (HB1.out.grown hg2 HB1.out.size (fun k hk => by cases hk; exact HBB.out))
  have HAT := Lib.hid (at_any hcur)
  have HR2 := Lib.hid (HREST.out.keep HB2.out (Nat.le_refl _))
  clear hcur hg2
  go_wp2_with fail
  refine HAT.out.mono ?_
  rintro e w3 ⟨rfl, rfl⟩
  have HRN := Lib.hid (rnew_any HR2.out)
  go_wp2_with fail
  refine HRN.out.mono ?_
  rintro e w4 ⟨R, a4, c4, rfl, hrd, hb4, hR, hfr⟩
  have HB4 := Lib.hid (HB2.out.trans (hb4.mono HB2.out.size))
  have HRL : Hid (R < w4.heap.size) := Lib.hid hrd.lt
  have HAL : Hid (∀ b off s, 0 < M2 → a4 = some ⟨b, off, s⟩ → b < w4.heap.size) := Lib.hid (by
    intro b off s hp e
    obtain ⟨b2, off2, e2, hlt, _⟩ := hrd.src.cells hp
    rw [e] at e2
    cases e2
    exact hlt)
  have HRD := Lib.hid hrd
  have HRGE := Lib.hid (show w.heap.size ≤ R from Nat.le_trans HB2.out.size hR)
  clear hrd hb4 hR hfr
  go_wp2_with fail
  go_loopw [6, 7, 8, 19] (fun s6 _ _ s19 wr => ∃ k : Nat, k ≤ n ∧ s19 = .int .i64 (k : Int) ∧ Hid (wr.ownsRow w4.heap.size 4 1 s6 k (bl (f.take k))) ∧ Hid (RdAt wr R a4 M2 c4 (pack (fbits f)) k) ∧ Hid (Below w.heap.size w wr) ∧ Hid (w4.heap.size ≤ wr.heap.size)) (fun _ _ _ s19 _ => n - (intOf s19).toNat)
  case atStart => exact ⟨0, by omega, rfl, Lib.hid (by simpa [bl] using World.ownsRow_nil w4 w4.heap.size 4 1), HRD, HB4, Lib.hid (Nat.le_refl _)⟩
  case round =>
    obtain ⟨k, hk, rfl, HO, HX, HB, HSZ⟩ := hrel
    rename World => wr
    by_cases hkn : k < n
    · have hki : (k : Int) < (n : Int) := by omega
      have hbt := rbits_any HX.out 1
      rw [rb_one (by rw [← HNN.out]; exact hkn)] at hbt
      have hsn := bl_snoc (f := f) (k := k) (by rw [← HNN.out]; exact hkn)
      obtain ⟨x, hx⟩ : ∃ x, x = f.getD k false := ⟨_, rfl⟩
      rw [← hx] at hbt hsn
      have HSN := Lib.hid hsn
      have HBT := Lib.hid hbt
      clear hbt hsn hx
      have fin : ∀ (w5 : World), RdAt w5 R a4 M2 c4 (pack (fbits f)) (k + 1) → wr.grownBy w5 (some R) → w5.ownsRow w4.heap.size 4 1 u6 k (bl (f.take k)) ∧ Below w.heap.size w w5 ∧ w4.heap.size ≤ w5.heap.size := by
        intro w5 h1 h2
        refine ⟨HO.out.kept h2 ?_, HB.out.grown h2 HB.out.size (fun k hk => by cases hk; exact HRGE.out), Nat.le_trans HSZ.out h2.size⟩
        cases hv : u6.ownBlock with
        | none => exact .inl rfl
        | some q =>
          refine .inr fun e => ?_
          cases e
          have h3 := (HO.out.lt _ hv).1
          have h4 := HRL.out
          omega
      have FIN := Lib.hid fin
      clear fin
      cases x
      · go_wp2_with fail
        refine HBT.out.mono ?_
        rintro e w5 ⟨rfl, hx5, hg5⟩
        obtain ⟨o5, b5, s5⟩ := FIN.out w5 hx5 hg5
        have HX5 := Lib.hid hx5
        have HB5 := Lib.hid b5
        have HS5 := Lib.hid s5
        have hown := o5
        clear hx5 hg5 b5 s5 o5
        have hs5 := HS5.out
        unfold bit
        go_wp2_with (at_builtin; refine wpList_append_own _ rfl (.tmp 26) (.tmp 29) 24 rfl w4.heap.size 4 i0 (.bool false) 1 1 Tryz.underlying24 hi hz0 hz1 hz2 rfl (by decide) _ _ _ rfl (hown.alloc _) ⟨w5.heap.size, 0, none⟩ 1 1 [.bool false] rfl rfl (one_src _ _ _) (one_oneCell rfl) (by unfold maxLen; omega) (by omega) (by simp; omega) ?_)
        intro v6 w6 ho6 hg6 _
        have hal : Below w5.heap.size w5 (w5.alloc (.cells #[.bool false] 4)) := (Below.refl _ _).alloc (Nat.le_refl _) _
        have HO6 := Lib.hid (show w6.ownsRow w4.heap.size 4 1 v6 (k + 1) (bl (f.take (k + 1))) from by rw [← HSN.out]; exact ho6)
        have hbw : Below w4.heap.size w5 w6 := below_own (hal.mono hs5) (hown.alloc (.cells #[.bool false] 4)) hg6 (Nat.le_refl _) (Nat.le_trans hs5 hal.size)
        have HX6 := Lib.hid (HX5.out.low hbw HRL.out HAL.out)
        have HB6 := Lib.hid (HB5.out.trans (hbw.mono HB4.out.size))
        have HS6 := Lib.hid (Nat.le_trans hs5 hbw.size)
        clear ho6 hg6 hal hbw hown hs5
        go_wp2_with fail
        go_roundw
        case rel => exact ⟨k + 1, by omega, by go_num, HO6, HX6, HB6, HS6⟩
        case measure => simp [intOf]; omega
      · go_wp2_with fail
        refine HBT.out.mono ?_
        rintro e w5 ⟨rfl, hx5, hg5⟩
        obtain ⟨o5, b5, s5⟩ := FIN.out w5 hx5 hg5
        have HX5 := Lib.hid hx5
        have HB5 := Lib.hid b5
        have HS5 := Lib.hid s5
        have hown := o5
        clear hx5 hg5 b5 s5 o5
        have hs5 := HS5.out
        unfold bit
        go_wp2_with (at_builtin; refine wpList_append_own _ rfl (.tmp 26) (.tmp 29) 24 rfl w4.heap.size 4 i0 (.bool false) 1 1 Tryz.underlying24 hi hz0 hz1 hz2 rfl (by decide) _ _ _ rfl (hown.alloc _) ⟨w5.heap.size, 0, none⟩ 1 1 [.bool true] rfl rfl (one_src _ _ _) (one_oneCell rfl) (by unfold maxLen; omega) (by omega) (by simp; omega) ?_)
        intro v6 w6 ho6 hg6 _
        have hal : Below w5.heap.size w5 (w5.alloc (.cells #[.bool true] 4)) := (Below.refl _ _).alloc (Nat.le_refl _) _
        have HO6 := Lib.hid (show w6.ownsRow w4.heap.size 4 1 v6 (k + 1) (bl (f.take (k + 1))) from by rw [← HSN.out]; exact ho6)
        have hbw : Below w4.heap.size w5 w6 := below_own (hal.mono hs5) (hown.alloc (.cells #[.bool true] 4)) hg6 (Nat.le_refl _) (Nat.le_trans hs5 hal.size)
        have HX6 := Lib.hid (HX5.out.low hbw HRL.out HAL.out)
        have HB6 := Lib.hid (HB5.out.trans (hbw.mono HB4.out.size))
        have HS6 := Lib.hid (Nat.le_trans hs5 hbw.size)
        clear ho6 hg6 hal hbw hown hs5
        go_wp2_with fail
        go_roundw
        case rel => exact ⟨k + 1, by omega, by go_num, HO6, HX6, HB6, HS6⟩
        case measure => simp [intOf]; omega
    · have hkn2 : k = n := by omega
      have hnn : ¬ ((k : Int) < (n : Int)) := by omega
      have HOE := Lib.hid (show wr.ownsRow w.heap.size 4 1 u6 n (bl f) from by
        have o := own_lower HO.out HB4.out.size
        rw [hkn2, List.take_of_length_le (by rw [← HNN.out]; exact Nat.le_refl _)] at o
        exact o)
      clear hkn hkn2
      go_wp2_with fail
      go_ret
      exact ⟨_, rfl, HOE.out, HB.out⟩
end Go.Proofs.YtpbijdoemdoijaaGreatDoor
end PkCa10_3
section PkCa10_4
/- Plain facts on the checksum's register: a bit at a time, a nibble at a time. No Go in sight. -/
namespace Go.Proofs.YtpbijdoemdoijaaGreatDoor.CrcPlain
open Go

/-- the register behind one shift -/
def sb (c : Nat) : Nat := (c / 2) ^^^ (if c % 2 = 1 then 3988292384 else 0)
/-- behind n shifts -/
def sbs : Nat → Nat → Nat
  | 0, c => c
  | n + 1, c => sbs n (sb c)

theorem xor_half (a b : Nat) : (a ^^^ b) / 2 = (a / 2) ^^^ (b / 2) := by
  simpa [Nat.shiftRight_eq_div_pow] using (Nat.shiftRight_xor_distrib (a := a) (b := b) (i := 1))
theorem xor_odd (a b : Nat) : (a ^^^ b) % 2 = (a % 2 + b % 2) % 2 := by
  have h := Nat.testBit_xor a b 0
  simp only [Nat.testBit_zero] at h
  generalize a ^^^ b = x at h ⊢
  rcases Nat.mod_two_eq_zero_or_one a with ha | ha <;> rcases Nat.mod_two_eq_zero_or_one b with hb | hb <;> rw [ha, hb] at h <;> simp at h <;> omega
theorem xor_nought {a b : Nat} (h : a ^^^ b = 0) : a = b := by
  have e : (a ^^^ b) ^^^ b = a := by rw [Nat.xor_assoc, Nat.xor_self, Nat.xor_zero]
  rw [h, Nat.zero_xor] at e
  exact e.symm
theorem sb_xor (a b : Nat) : sb (a ^^^ b) = sb a ^^^ sb b := by
  unfold sb
  rw [xor_half, xor_odd]
  rcases Nat.mod_two_eq_zero_or_one a with ha | ha <;> rcases Nat.mod_two_eq_zero_or_one b with hb | hb <;> simp only [ha, hb]
  · simp
  · simp [Nat.xor_assoc]
  · simp
    rw [Nat.xor_assoc, Nat.xor_comm (b / 2), ← Nat.xor_assoc]
  · have e : (a / 2 ^^^ 3988292384) ^^^ (b / 2 ^^^ 3988292384) = a / 2 ^^^ b / 2 := by
      rw [Nat.xor_assoc, ← Nat.xor_assoc 3988292384, Nat.xor_comm 3988292384 (b / 2), Nat.xor_assoc (b / 2), Nat.xor_self, Nat.xor_zero]
    simp [e]
theorem sbs_xor (n : Nat) : ∀ a b, sbs n (a ^^^ b) = sbs n a ^^^ sbs n b := by
  induction n with
  | zero => intro a b; rfl
  | succ n ih => intro a b; simp only [sbs, sb_xor, ih]
theorem sb_even (q : Nat) : sb (2 * q) = q := by
  unfold sb
  rw [if_neg (by omega), Nat.xor_zero]; omega
theorem sbs_pow (n : Nat) : ∀ q, sbs n (2 ^ n * q) = q := by
  induction n with
  | zero => intro q; simp [sbs]
  | succ n ih =>
    intro q
    have e : 2 ^ (n + 1) * q = 2 * (2 ^ n * q) := by rw [Nat.pow_succ, Nat.mul_comm (2 ^ n) 2, Nat.mul_assoc]
    rw [sbs, e, sb_even, ih]
theorem sb_lt {c : Nat} (h : c < 4294967296) : sb c < 4294967296 := by
  unfold sb
  have h1 : c / 2 < 2 ^ 32 := by omega
  split
  · exact Nat.xor_lt_two_pow (n := 32) h1 (by decide)
  · exact Nat.xor_lt_two_pow (n := 32) h1 (by decide)
/-- the table of sixteen -/
def nib : List Nat := [0, 498536548, 997073096, 651767980, 1994146192, 1802195444, 1303535960, 1342533948, 3988292384, 4027552580, 3604390888, 3412177804, 2607071920, 2262029012, 2685067896, 3183342108]
theorem nib_ok : ∀ r, r < 16 → sbs 4 r = nib.getD r 0 := by decide
theorem four (c : Nat) : sbs 4 c = (c / 16) ^^^ nib.getD (c % 16) 0 := by
  have e : c = (2 ^ 4 * (c / 16)) ^^^ (c % 16) := by
    apply Nat.eq_of_testBit_eq
    intro i
    rw [Nat.testBit_xor, Nat.testBit_two_pow_mul, show c / 16 = c / 2 ^ 4 from rfl, Nat.testBit_div_two_pow, show c % 16 = c % 2 ^ 4 from rfl, Nat.testBit_mod_two_pow]
    rcases Nat.lt_or_ge i 4 with g | g
    · have h1 : decide (i ≥ 4) = false := by simp; omega
      have h2 : decide (i < 4) = true := by simp; omega
      rw [h1, h2]; simp
    · have h1 : decide (i ≥ 4) = true := by simp; omega
      have h2 : decide (i < 4) = false := by simp; omega
      rw [h1, h2]
      have h3 : i - 4 + 4 = i := by omega
      simp [h3]
  conv => lhs; rw [e]
  rw [sbs_xor, sbs_pow, nib_ok _ (Nat.mod_lt _ (by omega))]
/-- a register that isn't nought stays so -/
theorem sb_zero {c : Nat} (h : c < 4294967296) (h0 : sb c = 0) : c = 0 := by
  unfold sb at h0
  have h1 := xor_nought h0
  split at h1
  · omega
  · omega
theorem sbs_zero (n : Nat) : ∀ c, c < 4294967296 → sbs n c = 0 → c = 0 := by
  induction n with
  | zero => intro c _ h; exact h
  | succ n ih => intro c hc h; exact sb_zero hc (ih _ (sb_lt hc) h)
theorem sbs_lt (n : Nat) : ∀ c, c < 4294967296 → sbs n c < 4294967296 := by
  induction n with
  | zero => intro c h; exact h
  | succ n ih => intro c h; exact ih _ (sb_lt h)
theorem sbs_add (m : Nat) : ∀ (n c : Nat), sbs (n + m) c = sbs m (sbs n c)
  | 0, c => by rw [Nat.zero_add]; rfl
  | n + 1, c => by
    rw [show n + 1 + m = (n + m) + 1 from by omega]
    simp only [sbs]
    exact sbs_add m n (sb c)
/-- a register that differs goes on to differ -/
theorem sbs_inj {n a b : Nat} (ha : a < 4294967296) (hb : b < 4294967296) (h : sbs n a = sbs n b) : a = b := by
  apply xor_nought
  apply sbs_zero n _ (Nat.xor_lt_two_pow (n := 32) ha hb)
  rw [sbs_xor, h, Nat.xor_self]
theorem split_xor (n c : Nat) : c = (2 ^ n * (c / 2 ^ n)) ^^^ (c % 2 ^ n) := by
  apply Nat.eq_of_testBit_eq
  intro i
  rw [Nat.testBit_xor, Nat.testBit_two_pow_mul, Nat.testBit_div_two_pow, Nat.testBit_mod_two_pow]
  rcases Nat.lt_or_ge i n with g | g
  · have h1 : decide (i ≥ n) = false := by simp; omega
    have h2 : decide (i < n) = true := by simp; omega
    rw [h1, h2]; simp
  · have h1 : decide (i ≥ n) = true := by simp; omega
    have h2 : decide (i < n) = false := by simp; omega
    rw [h1, h2]
    have h3 : i - n + n = i := by omega
    simp [h3]

/-- the register behind bytes -/
def reg : Nat → List Nat → Nat
  | c, [] => c
  | c, x :: xs => reg (sbs 8 (c ^^^ x)) xs
/-- bytes as one number, the lowest first -/
def val : List Nat → Nat
  | [] => 0
  | x :: xs => x + 256 * val xs
theorem val_cons {x : Nat} (h : x < 256) (v : Nat) : x + 256 * v = x ^^^ (256 * v) := by
  have e := split_xor 8 (x + 256 * v)
  have h1 : (x + 256 * v) / 2 ^ 8 = v := by omega
  have h2 : (x + 256 * v) % 2 ^ 8 = x := by omega
  rw [h1, h2] at e
  rw [Nat.xor_comm x]
  exact e
/-- the register behind bytes is that number, shifted through -/
theorem reg_val : ∀ (xs : List Nat) (c : Nat), (∀ x ∈ xs, x < 256) → reg c xs = sbs (8 * xs.length) (c ^^^ val xs)
  | [], c, _ => by simp [reg, val, sbs]
  | x :: xs, c, h => by
    have hx : x < 256 := h x (List.mem_cons_self)
    rw [reg, reg_val xs _ (fun y hy => h y (List.mem_cons_of_mem _ hy)), val, val_cons hx, List.length_cons, show 8 * (xs.length + 1) = 8 + 8 * xs.length from by omega, sbs_add]
    congr 1
    rw [← Nat.xor_assoc, sbs_xor 8 (c ^^^ x)]
    congr 1
    exact (sbs_pow 8 (val xs)).symm
/-- a byte's step, a nibble at a time -/
theorem step_nib (c x : Nat) : sbs 8 (c ^^^ x) = (((c ^^^ x) / 16) ^^^ nib.getD ((c ^^^ x) % 16) 0) / 16 ^^^ nib.getD ((((c ^^^ x) / 16) ^^^ nib.getD ((c ^^^ x) % 16) 0) % 16) 0 := by
  rw [show 8 = 4 + 4 from rfl, sbs_add, four, four]
/-- what is turned within 32 bits in a row turns the register -/
theorem turned (N at_ W : Nat) (hW : W < 4294967296) (h0 : W ≠ 0) (hat : at_ ≤ N) (c : Nat) : sbs N (c ^^^ (2 ^ at_ * W)) ≠ sbs N c := by
  intro h
  rw [sbs_xor] at h
  have h1 : sbs N (2 ^ at_ * W) = 0 := by
    have e : (sbs N c ^^^ sbs N (2 ^ at_ * W)) ^^^ sbs N c = 0 := by rw [h, Nat.xor_self]
    rw [Nat.xor_comm (sbs N c), Nat.xor_assoc, Nat.xor_self, Nat.xor_zero] at e
    exact e
  rw [show N = at_ + (N - at_) from by omega, sbs_add, sbs_pow] at h1
  exact h0 (sbs_zero _ _ hW h1)
end Go.Proofs.YtpbijdoemdoijaaGreatDoor.CrcPlain
end PkCa10_4
section PkCa10_5
/- Package crc's Digest.Write, walked, given what the table holds. -/
namespace Go.Proofs.YtpbijdoemdoijaaGreatDoor
open Go.RowKit CrcPlain
set_option linter.unusedVariables false

/-- the table as it was laid -/
def Table (w : World) : Prop := ∀ r, r < 16 → w.cell? ⟨0, r, none⟩ = some (.int .u32 ((nib.getD r 0 : Nat) : Int))
theorem nib_lt : ∀ r, r < 16 → nib.getD r 0 < 4294967296 := by decide
theorem and15 (c : Nat) (h : c < 4294967296) : bits .and .u32 (c : Int) 15 = ((c % 16 : Nat) : Int) := by
  have := u32_and_nat c 15 h (by omega)
  rw [show c &&& 15 = c % 16 from Nat.and_two_pow_sub_one_eq_mod c 4] at this
  exact this
theorem xor_nat (a b : Nat) (ha : a < 4294967296) (hb : b < 4294967296) : bits .xor .u32 (a : Int) (b : Int) = ((a ^^^ b : Nat) : Int) := u32_xor_nat a b ha hb
theorem not_nat (a : Nat) (ha : a < 4294967296) : bits .xor .u32 (if IntKind.u32.signed = true then -1 else IntKind.u32.max) (a : Int) = ((4294967295 ^^^ a : Nat) : Int) := u32_xor_nat 4294967295 a (by omega) ha
theorem reg_snoc : ∀ (xs : List Nat) (c y : Nat), reg c (xs ++ [y]) = sbs 8 (reg c xs ^^^ y)
  | [], _, _ => rfl
  | x :: xs, c, y => by simp only [List.cons_append, reg]; exact reg_snoc xs _ y
theorem reg_lt : ∀ (xs : List Nat) (c : Nat), (∀ x ∈ xs, x < 256) → c < 4294967296 → reg c xs < 4294967296
  | [], c, _, h => h
  | x :: xs, c, hx, h => reg_lt xs _ (fun y hy => hx y (List.mem_cons_of_mem _ hy)) (sbs_lt 8 _ (Nat.xor_lt_two_pow (n := 32) h (Nat.lt_trans (hx x List.mem_cons_self) (by decide))))

set_option maxRecDepth 100000 in
set_option maxHeartbeats 2000000 in
theorem write_any {w : World} {B : Nat} {d : Nat} (hd : d < 4294967296) (hB : w.heap[B]? = some (.cells #[.int .u32 (d : Int)] 171 (0, 0))) (hT : Table w) {a : Option Addr} {n c : Nat} {xs : List Nat} (h : BytesAt w a n c xs) :
    Calls Tryz.prog 147 #[.pointer (some ⟨B, 0, none⟩), .slice a n c] w fun e w' => e = .returned (.tuple #[]) ∧ w' = w.setCell ⟨B, 0, none⟩ (.int .u32 ((4294967295 ^^^ reg (4294967295 ^^^ d) xs : Nat) : Int)) := by
  have h0 : w.cell? ⟨B, 0, none⟩ = some (.int .u32 (d : Int)) := by rw [cell_of_row w B 0 _ _ (0, 0) hB]; rfl
  have f0 : w.frozen? ⟨B, 0, none⟩ = false := frozen_of_row w B 0 _ _ hB
  have HH := Lib.hid h
  have HT := Lib.hid hT
  have hcap := h.cap
  have hcm := h.capm
  have E0 := not_nat d hd
  obtain ⟨R, hR⟩ : ∃ R, R = 4294967295 ^^^ d := ⟨_, rfl⟩
  have hR32 : R < 4294967296 := by rw [hR]; exact Nat.xor_lt_two_pow (n := 32) (by decide) hd
  rw [← hR] at E0 ⊢
  have HR := Lib.hid hR
  have HR32 := Lib.hid hR32
  have HBY := Lib.hid h.byte
  clear hR hR32 hd hB hT h
  go_enter Tryz.func147, Tryz.ntmps147
  go_wp2_with fail
  go_loop [4, 16] (fun s4 s16 => ∃ k : Nat, k ≤ n ∧ s16 = .int .i64 k ∧ s4 = .int .u32 ((reg R (xs.take k) : Nat) : Int)) (fun _ s16 => n - (intOf s16).toNat)
  case atStart => exact ⟨0, by omega, rfl, rfl⟩
  case round =>
    obtain ⟨k, hk, rfl, rfl⟩ := hrel
    have hlen := HH.out.len
    obtain ⟨q, hq⟩ : ∃ q, q = reg R (xs.take k) := ⟨_, rfl⟩
    have hq32 : q < 4294967296 := by rw [hq]; exact reg_lt _ _ (fun x hx => HBY.out x (List.mem_of_mem_take hx)) HR32.out
    rw [← hq]
    by_cases hkn : k < n
    · obtain ⟨b, off, rfl, hlt, hc⟩ := HH.out.cells (by omega)
      have hck := hc k hkn
      obtain ⟨x, hx⟩ : ∃ x, x = xs.getD k 0 := ⟨_, rfl⟩
      have hx256 : x < 256 := by
        have h1 : k < xs.length := by omega
        have : xs.getD k 0 = xs[k] := by simp [h1]
        rw [hx, this]
        exact HBY.out _ (List.getElem_mem h1)
      rw [← hx] at hck
      have htk : xs.take (k + 1) = xs.take k ++ [x] := by
        have h1 : k < xs.length := by omega
        rw [List.take_add_one, List.getElem?_eq_getElem h1, hx]; simp [h1]
      have E1 := xor_nat q x hq32 (by omega)
      obtain ⟨c1, hc1⟩ : ∃ c1, c1 = q ^^^ x := ⟨_, rfl⟩
      have c1l : c1 < 4294967296 := by rw [hc1]; exact Nat.xor_lt_two_pow (n := 32) hq32 (by omega)
      rw [← hc1] at E1
      have E2 := and15 c1 c1l
      obtain ⟨r1, hr1⟩ : ∃ r1, r1 = c1 % 16 := ⟨_, rfl⟩
      have r1l : r1 < 16 := by omega
      rw [← hr1] at E2
      have T1 := HT.out r1 r1l
      have n1 := nib_lt r1 r1l
      obtain ⟨y1, hy1⟩ : ∃ y1, y1 = nib.getD r1 0 := ⟨_, rfl⟩
      rw [← hy1] at T1 n1
      have E3 := xor_nat (c1 / 16) y1 (by omega) n1
      obtain ⟨c2, hc2⟩ : ∃ c2, c2 = (c1 / 16) ^^^ y1 := ⟨_, rfl⟩
      have c2l : c2 < 4294967296 := by rw [hc2]; exact Nat.xor_lt_two_pow (n := 32) (by omega) n1
      rw [← hc2, show ((c1 / 16 : Nat) : Int) = (c1 : Int) / 16 from by push_cast; rfl] at E3
      have E4 := and15 c2 c2l
      obtain ⟨r2, hr2⟩ : ∃ r2, r2 = c2 % 16 := ⟨_, rfl⟩
      have r2l : r2 < 16 := by omega
      rw [← hr2] at E4
      have T2 := HT.out r2 r2l
      have n2 := nib_lt r2 r2l
      obtain ⟨y2, hy2⟩ : ∃ y2, y2 = nib.getD r2 0 := ⟨_, rfl⟩
      rw [← hy2] at T2 n2
      have E5 := xor_nat (c2 / 16) y2 (by omega) n2
      obtain ⟨c3, hc3⟩ : ∃ c3, c3 = (c2 / 16) ^^^ y2 := ⟨_, rfl⟩
      rw [← hc3, show ((c2 / 16 : Nat) : Int) = (c2 : Int) / 16 from by push_cast; rfl] at E5
      have hend : c3 = reg R (xs.take (k + 1)) := by
        rw [htk, reg_snoc, ← hq, step_nib, ← hc1, ← hr1, ← hy1, ← hc2, ← hr2, ← hy2, ← hc3]
      have HE := Lib.hid hend
      clear hc hx htk hq hc1 hr1 hy1 hc2 hr2 hy2 hc3 hend c1l c2l n1 n2 hq32
      go_wp2_with fail
      go_round
      case rel => exact ⟨k + 1, by omega, by go_num, by rw [← HE.out]⟩
      case measure => simp [intOf]; omega
    · have hkn2 : k = n := by omega
      have hfull : xs.take k = xs := List.take_of_length_le (by omega)
      have E6 := not_nat q hq32
      rw [hfull] at hq
      have HQ := Lib.hid hq
      clear hq hq32 hfull
      go_wp2_with fail
      go_end0
      rw [← HQ.out]
      exact ⟨rfl, rfl⟩
end Go.Proofs.YtpbijdoemdoijaaGreatDoor
end PkCa10_5
