/- Package bits' Writer: Bits, Code, Bytes, walked. -/
import Derived.Test.YteggmbfhfoijoaaDoorBitsWriter
namespace Go.Proofs.YteggmbfhfoijoaaDoor
open Go.RowKit BitsPlain
set_option linter.unusedVariables false

theorem Touch.keepW {w0 w w' : World} {B : Nat} {v : Value} (h : Touch w w' B v) : w.heap.size ≤ w'.heap.size := h.size

theorem shr_and (V i : Nat) (hV : V < 4294967296) : bits .and .u32 ((V : Int) / 2 ^ i) 1 = ((V / 2 ^ i % 2 : Nat) : Int) := by
  have e1 : (V : Int) / 2 ^ i = ((V / 2 ^ i : Nat) : Int) := by push_cast; rfl
  have h1 : V / 2 ^ i ≤ V := Nat.div_le_self _ _
  rw [e1, and_one_u32 _ (by omega)]

set_option maxRecDepth 100000 in
set_option maxHeartbeats 2000000 in
theorem wbits_bad (w : World) (B V : Nat) (k : Int) (hk : k < 0 ∨ 32 < k) :
    Calls Tryd.prog 35 #[.pointer (some ⟨B, 0, none⟩), .int .u32 (V : Int), .int .i64 k] w fun e w' => e = .returned (.int .i64 1) ∧ w = w' := by
  by_cases hneg : k < 0
  · have d1 : decide (k < 0) = true := by simp; omega
    clear hk
    go_enter Tryd.func35, Tryd.ntmps35
    go_wp2_with fail
    go_ret
    exact ⟨rfl, rfl⟩
  · have hbig : 32 < k := by omega
    clear hk
    go_enter Tryd.func35, Tryd.ntmps35
    go_wp2_with fail
    go_ret
    exact ⟨rfl, rfl⟩

set_option maxRecDepth 100000 in
set_option maxHeartbeats 2000000 in
theorem wcode_bad (w : World) (B V : Nat) (k : Int) (hk : k < 0 ∨ 16 < k) :
    Calls Tryd.prog 65 #[.pointer (some ⟨B, 0, none⟩), .int .u32 (V : Int), .int .i64 k] w fun e w' => e = .returned (.int .i64 1) ∧ w = w' := by
  by_cases hneg : k < 0
  · have d1 : decide (k < 0) = true := by simp; omega
    clear hk
    go_enter Tryd.func65, Tryd.ntmps65
    go_wp2_with fail
    go_ret
    exact ⟨rfl, rfl⟩
  · have hbig : 16 < k := by omega
    clear hk
    go_enter Tryd.func65, Tryd.ntmps65
    go_wp2_with fail
    go_ret
    exact ⟨rfl, rfl⟩

set_option maxRecDepth 100000 in
set_option maxHeartbeats 4000000 in
theorem wbits_any {w : World} {B base : Nat} {v : Value} {l : List Nat} (h : WrAt w B base v l) (hbase : base ≤ w.heap.size) (V : Nat) (hV : V < 4294967296) (k : Nat) (hk : k ≤ 32) (hlen : l.length + k ≤ 10000000) :
    Calls Tryd.prog 35 #[.pointer (some ⟨B, 0, none⟩), .int .u32 (V : Int), .int .i64 (k : Int)] w fun e w' => e = .returned (.int .i64 0) ∧ ∃ v', WrAt w' B base v' (l ++ bitsOf V k) ∧ Touch w w' B v ∧ Went w v v' := by
  have HH := Lib.hid h
  have HV := Lib.hid hV
  clear h hV
  go_enter Tryd.func35, Tryd.ntmps35
  go_wp2_with fail
  go_loopw [19] (fun si wr => ∃ (i : Nat) (v' : Value), i ≤ k ∧ si = .int .i64 i ∧ WrAt wr B base v' (l ++ bitsOf V i) ∧ Touch w wr B v ∧ Went w v v') (fun si _ => k - (intOf si).toNat)
  case atStart => exact ⟨0, v, by omega, rfl, by simpa [bitsOf] using HH.out, Touch.refl _ _ _, Went.refl _ _⟩
  case round =>
    obtain ⟨i, v', hi, rfl, hw, ht, hwt⟩ := hrel
    by_cases hik : i < k
    · obtain ⟨x, hx⟩ : ∃ x, x = V / 2 ^ i % 2 := ⟨_, rfl⟩
      have hx2 : x < 2 := by rw [hx]; exact Nat.mod_lt _ (by omega)
      have e1 := shr_and V i HV.out
      rw [← hx] at e1
      have hp := put_any hw (Nat.le_trans hbase ht.size) (by rw [List.length_append, bitsOf_length]; omega) x hx2
      have HP := Lib.hid hp
      have HX := Lib.hid hx
      have HT := Lib.hid ht
      have HW := Lib.hid hwt
      clear hp hw hx ht hwt
      go_wp2_with fail
      refine HP.out.mono ?_
      rintro e w1 ⟨rfl, v1, hw1, ht1, hwt1⟩
      have hw2 : WrAt w1 B base v1 (l ++ bitsOf V (i + 1)) := by
        rw [bitsOf_succ, ← HX.out, ← List.append_assoc]; exact hw1
      have HW2 := Lib.hid hw2
      have HT2 := Lib.hid (HT.out.trans HW.out ht1)
      have HWT2 := Lib.hid (HW.out.trans HT.out.size hwt1)
      clear hw1 ht1 hwt1 hw2
      go_wp2_with fail
      go_roundw
      case rel => exact ⟨i + 1, v1, by omega, by go_num, HW2.out, HT2.out, HWT2.out⟩
      case measure => simp [intOf]; omega
    · have hik2 : i = k := by omega
      subst hik2
      have HWW := Lib.hid hw
      have HT := Lib.hid ht
      have HW := Lib.hid hwt
      clear hw ht hwt
      go_wp2_with fail
      go_ret
      exact ⟨rfl, v', HWW.out, HT.out, HW.out⟩

set_option maxRecDepth 100000 in
set_option maxHeartbeats 4000000 in
theorem wcode_any {w : World} {B base : Nat} {v : Value} {l : List Nat} (h : WrAt w B base v l) (hbase : base ≤ w.heap.size) (V : Nat) (hV : V < 4294967296) (k : Nat) (hk : k ≤ 16) (hlen : l.length + k ≤ 10000000) :
    Calls Tryd.prog 65 #[.pointer (some ⟨B, 0, none⟩), .int .u32 (V : Int), .int .i64 (k : Int)] w fun e w' => e = .returned (.int .i64 0) ∧ ∃ v', WrAt w' B base v' (l ++ codeOf V k k) ∧ Touch w w' B v ∧ Went w v v' := by
  have HH := Lib.hid h
  have HV := Lib.hid hV
  clear h hV
  go_enter Tryd.func65, Tryd.ntmps65
  go_wp2_with fail
  go_loopw [19] (fun si wr => ∃ (i : Nat) (v' : Value), i ≤ k ∧ si = .int .i64 i ∧ WrAt wr B base v' (l ++ codeOf V k i) ∧ Touch w wr B v ∧ Went w v v') (fun si _ => k - (intOf si).toNat)
  case atStart => exact ⟨0, v, by omega, rfl, by simpa [codeOf] using HH.out, Touch.refl _ _ _, Went.refl _ _⟩
  case round =>
    obtain ⟨i, v', hi, rfl, hw, ht, hwt⟩ := hrel
    by_cases hik : i < k
    · obtain ⟨x, hx⟩ : ∃ x, x = V / 2 ^ (k - 1 - i) % 2 := ⟨_, rfl⟩
      have hx2 : x < 2 := by rw [hx]; exact Nat.mod_lt _ (by omega)
      have e1 := shr_and V (k - 1 - i) HV.out
      rw [← hx] at e1
      have hp := put_any hw (Nat.le_trans hbase ht.size) (by rw [List.length_append, codeOf_length]; omega) x hx2
      have HP := Lib.hid hp
      have HX := Lib.hid hx
      have HT := Lib.hid ht
      have HW := Lib.hid hwt
      have HE := Lib.hid e1
      clear hp hw hx ht hwt e1
      go_wp2_with fail
      first
        | rw [show (bits BinOp.and IntKind.u32 ((V : Int) / 2 ^ (k - 1 - i)) 1) = (x : Int) from HE.out]
        | rw [show ((k : Int) - 1 - (i : Int)).toNat = k - 1 - i from by omega, show (bits BinOp.and IntKind.u32 ((V : Int) / 2 ^ (k - 1 - i)) 1) = (x : Int) from HE.out]
      refine HP.out.mono ?_
      rintro e w1 ⟨rfl, v1, hw1, ht1, hwt1⟩
      have hw2 : WrAt w1 B base v1 (l ++ codeOf V k (i + 1)) := by
        rw [codeOf_succ, ← HX.out, ← List.append_assoc]; exact hw1
      have HW2 := Lib.hid hw2
      have HT2 := Lib.hid (HT.out.trans HW.out ht1)
      have HWT2 := Lib.hid (HW.out.trans HT.out.size hwt1)
      clear hw1 ht1 hwt1 hw2
      go_wp2_with fail
      go_roundw
      case rel => exact ⟨i + 1, v1, by omega, by go_num, HW2.out, HT2.out, HWT2.out⟩
      case measure => simp [intOf]; omega
    · have hik2 : i = k := by omega
      subst hik2
      have HWW := Lib.hid hw
      have HT := Lib.hid ht
      have HW := Lib.hid hwt
      clear hw ht hwt
      go_wp2_with fail
      go_ret
      exact ⟨rfl, v', HWW.out, HT.out, HW.out⟩

theorem pack_len_le (l : List Nat) (h : l.length ≤ 10000000) : (pack l).length ≤ 1250001 := by rw [pack_length]; omega

set_option maxRecDepth 100000 in
set_option maxHeartbeats 1000000 in
theorem wbytes_any {w : World} {B base : Nat} {v : Value} {l : List Nat} (h : WrAt w B base v l) (hlen : l.length ≤ 10000000) :
    Calls Tryd.prog 37 #[.pointer (some ⟨B, 0, none⟩)] w fun e w' => ∃ a c, e = .returned (.slice a (pack l).length c) ∧ BytesAt w' a (pack l).length c (pack l) ∧ Below w.heap.size w w' ∧ (∀ b off s, a = some ⟨b, off, s⟩ → w.heap.size ≤ b) := by
  have hpl := pack_len_le l hlen
  obtain ⟨a, c, rfl, hb, _⟩ := BytesAt.ofOwn h.own (pack_byte h.bin) (by omega)
  have h0 := h.c0
  have hc := clone_any hb
  have HC := Lib.hid hc
  clear h hb hc
  go_enter Tryd.func37, Tryd.ntmps37
  go_wp2_with fail
  refine HC.out.mono ?_
  rintro e w1 ⟨a', c', rfl, hb1, hbel, hfr⟩
  have HB1 := Lib.hid hb1
  clear hb1
  go_wp2_with fail
  go_ret
  exact ⟨a', c', rfl, HB1.out, hbel, hfr⟩
end Go.Proofs.YteggmbfhfoijoaaDoor
