/- Texts put together by packtpl2.py: CrcPlain, CrcKit, MfRis. -/
import Derived.Test.YtbdgcfimbblncaaGreatDoorPkMR1
import Derived.WalkKit
import Derived.Laws.BitsAllLaws
section PkMR5_0
/- Plain facts on the checksum's register: a bit at a time, a nibble at a time. No Go in sight. -/
namespace Go.Proofs.YtbdgcfimbblncaaGreatDoor.CrcPlain
open Go

/-- the register behind one shift -/
def sb (c : Nat) : Nat := (c / 2) ^^^ (if c % 2 = 1 then 3988292384 else 0)
/-- behind n shifts -/
def sbs : Nat → Nat → Nat
  | 0, c => c
  | n + 1, c => sbs n (sb c)

theorem xor_half (a b : Nat) : (a ^^^ b) / 2 = (a / 2) ^^^ (b / 2) := by
  simpa [Nat.shiftRight_eq_div_pow] using (Nat.shiftRight_xor_distrib (a := a) (b := b) (i := 1))
theorem xor_odd (a b : Nat) : (a ^^^ b) % 2 = (a % 2 + b % 2) % 2 := by
  have h := Nat.testBit_xor a b 0
  simp only [Nat.testBit_zero] at h
  generalize a ^^^ b = x at h ⊢
  rcases Nat.mod_two_eq_zero_or_one a with ha | ha <;> rcases Nat.mod_two_eq_zero_or_one b with hb | hb <;> rw [ha, hb] at h <;> simp at h <;> omega
theorem xor_nought {a b : Nat} (h : a ^^^ b = 0) : a = b := by
  have e : (a ^^^ b) ^^^ b = a := by rw [Nat.xor_assoc, Nat.xor_self, Nat.xor_zero]
  rw [h, Nat.zero_xor] at e
  exact e.symm
theorem sb_xor (a b : Nat) : sb (a ^^^ b) = sb a ^^^ sb b := by
  unfold sb
  rw [xor_half, xor_odd]
  rcases Nat.mod_two_eq_zero_or_one a with ha | ha <;> rcases Nat.mod_two_eq_zero_or_one b with hb | hb <;> simp only [ha, hb]
  · simp
  · simp [Nat.xor_assoc]
  · simp
    rw [Nat.xor_assoc, Nat.xor_comm (b / 2), ← Nat.xor_assoc]
  · have e : (a / 2 ^^^ 3988292384) ^^^ (b / 2 ^^^ 3988292384) = a / 2 ^^^ b / 2 := by
      rw [Nat.xor_assoc, ← Nat.xor_assoc 3988292384, Nat.xor_comm 3988292384 (b / 2), Nat.xor_assoc (b / 2), Nat.xor_self, Nat.xor_zero]
    simp [e]
theorem sbs_xor (n : Nat) : ∀ a b, sbs n (a ^^^ b) = sbs n a ^^^ sbs n b := by
  induction n with
  | zero => intro a b; rfl
  | succ n ih => intro a b; simp only [sbs, sb_xor, ih]
theorem sb_even (q : Nat) : sb (2 * q) = q := by
  unfold sb
  rw [if_neg (by omega), Nat.xor_zero]; omega
theorem sbs_pow (n : Nat) : ∀ q, sbs n (2 ^ n * q) = q := by
  induction n with
  | zero => intro q; simp [sbs]
  | succ n ih =>
    intro q
    have e : 2 ^ (n + 1) * q = 2 * (2 ^ n * q) := by rw [Nat.pow_succ, Nat.mul_comm (2 ^ n) 2, Nat.mul_assoc]
    rw [sbs, e, sb_even, ih]
theorem sb_lt {c : Nat} (h : c < 4294967296) : sb c < 4294967296 := by
  unfold sb
  have h1 : c / 2 < 2 ^ 32 := by omega
  split
  · exact Nat.xor_lt_two_pow (n := 32) h1 (by decide)
  · exact Nat.xor_lt_two_pow (n := 32) h1 (by decide)
/-- the table of sixteen -/
def nib : List Nat := [0, 498536548, 997073096, 651767980, 1994146192, 1802195444, 1303535960, 1342533948, 3988292384, 4027552580, 3604390888, 3412177804, 2607071920, 2262029012, 2685067896, 3183342108]
theorem nib_ok : ∀ r, r < 16 → sbs 4 r = nib.getD r 0 := by decide
theorem four (c : Nat) : sbs 4 c = (c / 16) ^^^ nib.getD (c % 16) 0 := by
  have e : c = (2 ^ 4 * (c / 16)) ^^^ (c % 16) := by
    apply Nat.eq_of_testBit_eq
    intro i
    rw [Nat.testBit_xor, Nat.testBit_two_pow_mul, show c / 16 = c / 2 ^ 4 from rfl, Nat.testBit_div_two_pow, show c % 16 = c % 2 ^ 4 from rfl, Nat.testBit_mod_two_pow]
    rcases Nat.lt_or_ge i 4 with g | g
    · have h1 : decide (i ≥ 4) = false := by simp; omega
      have h2 : decide (i < 4) = true := by simp; omega
      rw [h1, h2]; simp
    · have h1 : decide (i ≥ 4) = true := by simp; omega
      have h2 : decide (i < 4) = false := by simp; omega
      rw [h1, h2]
      have h3 : i - 4 + 4 = i := by omega
      simp [h3]
  conv => lhs; rw [e]
  rw [sbs_xor, sbs_pow, nib_ok _ (Nat.mod_lt _ (by omega))]
/-- a register that isn't nought stays so -/
theorem sb_zero {c : Nat} (h : c < 4294967296) (h0 : sb c = 0) : c = 0 := by
  unfold sb at h0
  have h1 := xor_nought h0
  split at h1
  · omega
  · omega
theorem sbs_zero (n : Nat) : ∀ c, c < 4294967296 → sbs n c = 0 → c = 0 := by
  induction n with
  | zero => intro c _ h; exact h
  | succ n ih => intro c hc h; exact sb_zero hc (ih _ (sb_lt hc) h)
theorem sbs_lt (n : Nat) : ∀ c, c < 4294967296 → sbs n c < 4294967296 := by
  induction n with
  | zero => intro c h; exact h
  | succ n ih => intro c h; exact ih _ (sb_lt h)
theorem sbs_add (m : Nat) : ∀ (n c : Nat), sbs (n + m) c = sbs m (sbs n c)
  | 0, c => by rw [Nat.zero_add]; rfl
  | n + 1, c => by
    rw [show n + 1 + m = (n + m) + 1 from by omega]
    simp only [sbs]
    exact sbs_add m n (sb c)
/-- a register that differs goes on to differ -/
theorem sbs_inj {n a b : Nat} (ha : a < 4294967296) (hb : b < 4294967296) (h : sbs n a = sbs n b) : a = b := by
  apply xor_nought
  apply sbs_zero n _ (Nat.xor_lt_two_pow (n := 32) ha hb)
  rw [sbs_xor, h, Nat.xor_self]
theorem split_xor (n c : Nat) : c = (2 ^ n * (c / 2 ^ n)) ^^^ (c % 2 ^ n) := by
  apply Nat.eq_of_testBit_eq
  intro i
  rw [Nat.testBit_xor, Nat.testBit_two_pow_mul, Nat.testBit_div_two_pow, Nat.testBit_mod_two_pow]
  rcases Nat.lt_or_ge i n with g | g
  · have h1 : decide (i ≥ n) = false := by simp; omega
    have h2 : decide (i < n) = true := by simp; omega
    rw [h1, h2]; simp
  · have h1 : decide (i ≥ n) = true := by simp; omega
    have h2 : decide (i < n) = false := by simp; omega
    rw [h1, h2]
    have h3 : i - n + n = i := by omega
    simp [h3]

/-- the register behind bytes -/
def reg : Nat → List Nat → Nat
  | c, [] => c
  | c, x :: xs => reg (sbs 8 (c ^^^ x)) xs
/-- bytes as one number, the lowest first -/
def val : List Nat → Nat
  | [] => 0
  | x :: xs => x + 256 * val xs
theorem val_cons {x : Nat} (h : x < 256) (v : Nat) : x + 256 * v = x ^^^ (256 * v) := by
  have e := split_xor 8 (x + 256 * v)
  have h1 : (x + 256 * v) / 2 ^ 8 = v := by omega
  have h2 : (x + 256 * v) % 2 ^ 8 = x := by omega
  rw [h1, h2] at e
  rw [Nat.xor_comm x]
  exact e
/-- the register behind bytes is that number, shifted through -/
theorem reg_val : ∀ (xs : List Nat) (c : Nat), (∀ x ∈ xs, x < 256) → reg c xs = sbs (8 * xs.length) (c ^^^ val xs)
  | [], c, _ => by simp [reg, val, sbs]
  | x :: xs, c, h => by
    have hx : x < 256 := h x (List.mem_cons_self)
    rw [reg, reg_val xs _ (fun y hy => h y (List.mem_cons_of_mem _ hy)), val, val_cons hx, List.length_cons, show 8 * (xs.length + 1) = 8 + 8 * xs.length from by omega, sbs_add]
    congr 1
    rw [← Nat.xor_assoc, sbs_xor 8 (c ^^^ x)]
    congr 1
    exact (sbs_pow 8 (val xs)).symm
/-- a byte's step, a nibble at a time -/
theorem step_nib (c x : Nat) : sbs 8 (c ^^^ x) = (((c ^^^ x) / 16) ^^^ nib.getD ((c ^^^ x) % 16) 0) / 16 ^^^ nib.getD ((((c ^^^ x) / 16) ^^^ nib.getD ((c ^^^ x) % 16) 0) % 16) 0 := by
  rw [show 8 = 4 + 4 from rfl, sbs_add, four, four]
/-- what is turned within 32 bits in a row turns the register -/
theorem turned (N at_ W : Nat) (hW : W < 4294967296) (h0 : W ≠ 0) (hat : at_ ≤ N) (c : Nat) : sbs N (c ^^^ (2 ^ at_ * W)) ≠ sbs N c := by
  intro h
  rw [sbs_xor] at h
  have h1 : sbs N (2 ^ at_ * W) = 0 := by
    have e : (sbs N c ^^^ sbs N (2 ^ at_ * W)) ^^^ sbs N c = 0 := by rw [h, Nat.xor_self]
    rw [Nat.xor_comm (sbs N c), Nat.xor_assoc, Nat.xor_self, Nat.xor_zero] at e
    exact e
  rw [show N = at_ + (N - at_) from by omega, sbs_add, sbs_pow] at h1
  exact h0 (sbs_zero _ _ hW h1)
end Go.Proofs.YtbdgcfimbblncaaGreatDoor.CrcPlain
end PkMR5_0
section PkMR5_1
/- Package crc's Digest.Write, walked, given what the table holds. -/
namespace Go.Proofs.YtbdgcfimbblncaaGreatDoor
open Go.RowKit CrcPlain
set_option linter.unusedVariables false

/-- the table as it was laid -/
def Table (w : World) : Prop := ∀ r, r < 16 → w.cell? ⟨0, r, none⟩ = some (.int .u32 ((nib.getD r 0 : Nat) : Int))
theorem nib_lt : ∀ r, r < 16 → nib.getD r 0 < 4294967296 := by decide
theorem and15 (c : Nat) (h : c < 4294967296) : bits .and .u32 (c : Int) 15 = ((c % 16 : Nat) : Int) := by
  have := u32_and_nat c 15 h (by omega)
  rw [show c &&& 15 = c % 16 from Nat.and_two_pow_sub_one_eq_mod c 4] at this
  exact this
theorem xor_nat (a b : Nat) (ha : a < 4294967296) (hb : b < 4294967296) : bits .xor .u32 (a : Int) (b : Int) = ((a ^^^ b : Nat) : Int) := u32_xor_nat a b ha hb
theorem not_nat (a : Nat) (ha : a < 4294967296) : bits .xor .u32 (if IntKind.u32.signed = true then -1 else IntKind.u32.max) (a : Int) = ((4294967295 ^^^ a : Nat) : Int) := u32_xor_nat 4294967295 a (by omega) ha
theorem reg_snoc : ∀ (xs : List Nat) (c y : Nat), reg c (xs ++ [y]) = sbs 8 (reg c xs ^^^ y)
  | [], _, _ => rfl
  | x :: xs, c, y => by simp only [List.cons_append, reg]; exact reg_snoc xs _ y
theorem reg_lt : ∀ (xs : List Nat) (c : Nat), (∀ x ∈ xs, x < 256) → c < 4294967296 → reg c xs < 4294967296
  | [], c, _, h => h
  | x :: xs, c, hx, h => reg_lt xs _ (fun y hy => hx y (List.mem_cons_of_mem _ hy)) (sbs_lt 8 _ (Nat.xor_lt_two_pow (n := 32) h (Nat.lt_trans (hx x List.mem_cons_self) (by decide))))

set_option maxRecDepth 100000 in
set_option maxHeartbeats 2000000 in
theorem write_any {w : World} {B : Nat} {d : Nat} (hd : d < 4294967296) (hB : w.heap[B]? = some (.cells #[.int .u32 (d : Int)] 146 (0, 0))) (hT : Table w) {a : Option Addr} {n c : Nat} {xs : List Nat} (h : BytesAt w a n c xs) :
    Calls Tryz.prog 109 #[.pointer (some ⟨B, 0, none⟩), .slice a n c] w fun e w' => e = .returned (.tuple #[]) ∧ w' = w.setCell ⟨B, 0, none⟩ (.int .u32 ((4294967295 ^^^ reg (4294967295 ^^^ d) xs : Nat) : Int)) := by
  have h0 : w.cell? ⟨B, 0, none⟩ = some (.int .u32 (d : Int)) := by rw [cell_of_row w B 0 _ _ (0, 0) hB]; rfl
  have f0 : w.frozen? ⟨B, 0, none⟩ = false := frozen_of_row w B 0 _ _ hB
  have HH := Lib.hid h
  have HT := Lib.hid hT
  have hcap := h.cap
  have hcm := h.capm
  have E0 := not_nat d hd
  obtain ⟨R, hR⟩ : ∃ R, R = 4294967295 ^^^ d := ⟨_, rfl⟩
  have hR32 : R < 4294967296 := by rw [hR]; exact Nat.xor_lt_two_pow (n := 32) (by decide) hd
  rw [← hR] at E0 ⊢
  have HR := Lib.hid hR
  have HR32 := Lib.hid hR32
  have HBY := Lib.hid h.byte
  clear hR hR32 hd hB hT h
  go_enter Tryz.func109, Tryz.ntmps109
  go_wp2_with fail
  go_loop [4, 16] (fun s4 s16 => ∃ k : Nat, k ≤ n ∧ s16 = .int .i64 k ∧ s4 = .int .u32 ((reg R (xs.take k) : Nat) : Int)) (fun _ s16 => n - (intOf s16).toNat)
  case atStart => exact ⟨0, by omega, rfl, rfl⟩
  case round =>
    obtain ⟨k, hk, rfl, rfl⟩ := hrel
    have hlen := HH.out.len
    obtain ⟨q, hq⟩ : ∃ q, q = reg R (xs.take k) := ⟨_, rfl⟩
    have hq32 : q < 4294967296 := by rw [hq]; exact reg_lt _ _ (fun x hx => HBY.out x (List.mem_of_mem_take hx)) HR32.out
    rw [← hq]
    by_cases hkn : k < n
    · obtain ⟨b, off, rfl, hlt, hc⟩ := HH.out.cells (by omega)
      have hck := hc k hkn
      obtain ⟨x, hx⟩ : ∃ x, x = xs.getD k 0 := ⟨_, rfl⟩
      have hx256 : x < 256 := by
        have h1 : k < xs.length := by omega
        have : xs.getD k 0 = xs[k] := by simp [h1]
        rw [hx, this]
        exact HBY.out _ (List.getElem_mem h1)
      rw [← hx] at hck
      have htk : xs.take (k + 1) = xs.take k ++ [x] := by
        have h1 : k < xs.length := by omega
        rw [List.take_add_one, List.getElem?_eq_getElem h1, hx]; simp [h1]
      have E1 := xor_nat q x hq32 (by omega)
      obtain ⟨c1, hc1⟩ : ∃ c1, c1 = q ^^^ x := ⟨_, rfl⟩
      have c1l : c1 < 4294967296 := by rw [hc1]; exact Nat.xor_lt_two_pow (n := 32) hq32 (by omega)
      rw [← hc1] at E1
      have E2 := and15 c1 c1l
      obtain ⟨r1, hr1⟩ : ∃ r1, r1 = c1 % 16 := ⟨_, rfl⟩
      have r1l : r1 < 16 := by omega
      rw [← hr1] at E2
      have T1 := HT.out r1 r1l
      have n1 := nib_lt r1 r1l
      obtain ⟨y1, hy1⟩ : ∃ y1, y1 = nib.getD r1 0 := ⟨_, rfl⟩
      rw [← hy1] at T1 n1
      have E3 := xor_nat (c1 / 16) y1 (by omega) n1
      obtain ⟨c2, hc2⟩ : ∃ c2, c2 = (c1 / 16) ^^^ y1 := ⟨_, rfl⟩
      have c2l : c2 < 4294967296 := by rw [hc2]; exact Nat.xor_lt_two_pow (n := 32) (by omega) n1
      rw [← hc2, show ((c1 / 16 : Nat) : Int) = (c1 : Int) / 16 from by push_cast; rfl] at E3
      have E4 := and15 c2 c2l
      obtain ⟨r2, hr2⟩ : ∃ r2, r2 = c2 % 16 := ⟨_, rfl⟩
      have r2l : r2 < 16 := by omega
      rw [← hr2] at E4
      have T2 := HT.out r2 r2l
      have n2 := nib_lt r2 r2l
      obtain ⟨y2, hy2⟩ : ∃ y2, y2 = nib.getD r2 0 := ⟨_, rfl⟩
      rw [← hy2] at T2 n2
      have E5 := xor_nat (c2 / 16) y2 (by omega) n2
      obtain ⟨c3, hc3⟩ : ∃ c3, c3 = (c2 / 16) ^^^ y2 := ⟨_, rfl⟩
      rw [← hc3, show ((c2 / 16 : Nat) : Int) = (c2 : Int) / 16 from by push_cast; rfl] at E5
      have hend : c3 = reg R (xs.take (k + 1)) := by
        rw [htk, reg_snoc, ← hq, step_nib, ← hc1, ← hr1, ← hy1, ← hc2, ← hr2, ← hy2, ← hc3]
      have HE := Lib.hid hend
      clear hc hx htk hq hc1 hr1 hy1 hc2 hr2 hy2 hc3 hend c1l c2l n1 n2 hq32
      go_wp2_with fail
      go_round
      case rel => exact ⟨k + 1, by omega, by go_num, by rw [← HE.out]⟩
      case measure => simp [intOf]; omega
    · have hkn2 : k = n := by omega
      have hfull : xs.take k = xs := List.take_of_length_le (by omega)
      have E6 := not_nat q hq32
      rw [hfull] at hq
      have HQ := Lib.hid hq
      clear hq hq32 hfull
      go_wp2_with fail
      go_end0
      rw [← HQ.out]
      exact ⟨rfl, rfl⟩
end Go.Proofs.YtbdgcfimbblncaaGreatDoor
end PkMR5_1
section PkMR5_2
/- What rises, and is right one by one: plain. Written by genmfr.py. -/
namespace Go.Proofs.YtbdgcfimbblncaaGreatDoor
open Go.RowKit
set_option linter.unusedVariables false

/-- each is right, and above the one ahead -/
def RisOk {α : Type} (p : α → Bool) (cm : α → α → Int) (d : α) (l : List α) (k : Nat) : Prop := ∀ j, j < k → p (l.getD j d) = true ∧ (0 < j → cm (l.getD (j - 1) d) (l.getD j d) < 0)
def RisIs {α : Type} (p : α → Bool) (cm : α → α → Int) (d : α) (l : List α) (n : Nat) (e : Ending) : Prop := ∃ b : Bool, e = .returned (.bool b) ∧ (b = true ↔ RisOk p cm d l n)
theorem RisOk.succ {α : Type} {p : α → Bool} {cm : α → α → Int} {d : α} {l : List α} {k : Nat} (h : RisOk p cm d l k) (h1 : p (l.getD k d) = true) (h2 : 0 < k → cm (l.getD (k - 1) d) (l.getD k d) < 0) : RisOk p cm d l (k + 1) := fun j hj => by
  rcases Nat.lt_or_ge j k with g | g
  · exact h j g
  · obtain rfl : j = k := by omega
    exact ⟨h1, h2⟩
theorem RisIs.no {α : Type} {p : α → Bool} {cm : α → α → Int} {d : α} {l : List α} {k n : Nat} (hk : k < n) (h : ¬ (p (l.getD k d) = true ∧ (0 < k → cm (l.getD (k - 1) d) (l.getD k d) < 0))) : RisIs p cm d l n (.returned (.bool false)) :=
  ⟨false, rfl, ⟨fun e => (by cases e), fun g => absurd (g k hk) h⟩⟩
theorem RisIs.yes {α : Type} {p : α → Bool} {cm : α → α → Int} {d : α} {l : List α} {n : Nat} (h : RisOk p cm d l n) : RisIs p cm d l n (.returned (.bool true)) := ⟨true, rfl, ⟨fun _ => h, fun _ => rfl⟩⟩

end Go.Proofs.YtbdgcfimbblncaaGreatDoor
end PkMR5_2
