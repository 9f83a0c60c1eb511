/- Columns of flags put and read; layer 10's fixed fact. -/
import Derived.Test.YteggmbfhfoijoaaDoorColCont
namespace Go.Proofs.YteggmbfhfoijoaaDoor
open Go.RowKit BitsPlain NumsPlain CrcPlain
set_option linter.unusedVariables false

theorem fbits_len (f : List Bool) : (fbits f).length = f.length := by unfold fbits; rw [List.length_map]
theorem flC_ok {f : List Bool} (h : f.length ≤ 2048) : (∀ x ∈ flC f, x < 256) ∧ (flC f).length ≤ 300 := by
  have h1 := pu_ten (n := f.length) (by omega)
  refine ⟨fun x hx => ?_, ?_⟩
  · unfold flC at hx
    rcases List.mem_append.1 hx with e | e
    · exact pu_bytes (by omega) x e
    · exact pack_byte (fbits_bin f) x e
  · unfold flC
    rw [List.length_append, pack_length, fbits_len]
    omega

set_option maxRecDepth 100000 in
set_option maxHeartbeats 2000000 in
theorem putFlags_any {w : World} (hT : Table w) {a : Option Addr} {n c : Nat} {f : List Bool} (h : FlAt w a n c f) (hn : n ≤ 2048) :
    Calls Tryd.prog 12 #[.slice a n c] w fun e w' => ∃ a' m' c', e = .returned (.tuple #[.slice a' m' c', .int .i64 0]) ∧ w'.ownsRow w.heap.size 5 1 (.slice a' m' c') m' (bv (chunk 4 (flC f))) ∧ BytesAt w' a' m' c' (chunk 4 (flC f)) ∧ Below w.heap.size w w' := by
  have hok := flC_ok (f := f) (by rw [h.len]; exact hn)
  have HP := Lib.hid (putB_any hT (k := 4) hn (by omega) (flagsContent_any h (by omega)) hok.1 (by have := hok.2; omega))
  clear hT h hok
  go_enter Tryd.func12, Tryd.ntmps12
  go_wp2_with fail
  refine HP.out.mono ?_
  rintro e w1 ⟨a', m', c', rfl, ho, hb, hbl⟩
  have HO := Lib.hid ho
  have HBY := Lib.hid hb
  have HB := Lib.hid hbl
  clear ho hb hbl
  go_wp2_with fail
  first | go_ret2 | go_ret
  exact ⟨a', m', c', rfl, HO.out, HBY.out, HB.out⟩

set_option maxRecDepth 100000 in
set_option maxHeartbeats 4000000 in
theorem readB_any {w : World} (hT : Table w) {a : Option Addr} {n c : Nat} {f : List Bool} (h : BytesAt w a n c (chunk 4 (flC f))) (hn : n ≤ 100000) (hf : f.length ≤ 2048) (h0 : 0 < f.length) (hd : ¬ (dfl (flC f)).length < (flC f).length) :
    Calls Tryd.prog 22 #[.slice a n c, .func (.func 23) #[] #[], .func (.func 12) #[] #[]] w fun e w' => ∃ v, e = .returned (.tuple #[v, .int .i64 0]) ∧ w'.ownsRow w.heap.size 4 1 v f.length (bl f) ∧ Below w.heap.size w w' := by
  have hch : chunk 4 (flC f) = sealed ([4, 0] ++ pu (flC f).length ++ flC f) := if_neg hd
  have hok := flC_ok hf
  have HT := Lib.hid (show ∀ w', Below w.heap.size w w' → Table w' from fun w' h => hT.below h)
  have HOP := open_any hT h hn
  have hop : op (chunk 4 (flC f)) = ([4, 0] ++ pu (flC f).length ++ flC f, 0) := by rw [hch]; exact op_sealed _
  rw [hop] at HOP
  simp only at HOP
  have HOP := Lib.hid HOP
  have HX := Lib.hid h
  have HL2 := Lib.hid hok.2
  clear hT h hch hop hok
  go_enter Tryd.func22, Tryd.ntmps22
  go_wp2_with fail
  refine HOP.out.mono ?_
  rintro e w1 ⟨a1, m1, c1, rfl, h1, hb1, _⟩
  have HB1 := Lib.hid hb1
  have HCO := Lib.hid (content_bare h1 (by omega) (by have := HL2.out; omega))
  clear h1 hb1
  go_wp2_with fail
  refine HCO.out.mono ?_
  rintro e w2 ⟨a2, c2, rfl, h2, hb2⟩
  have HB2 := Lib.hid (HB1.out.trans (hb2.mono HB1.out.size))
  have HCF := Lib.hid (contentFlags_any h2 hf h0)
  clear h2 hb2
  go_wp2_with fail
  refine HCF.out.mono ?_
  rintro e w3 ⟨v3, rfl, ho3, hb3⟩
  obtain ⟨a3, c3, rfl, hfl⟩ := FlAt.ofOwn ho3
  have HB3 := Lib.hid (HB2.out.trans (hb3.mono HB2.out.size))
  have HO3 := Lib.hid (own_lower ho3 HB2.out.size)
  have HPF := Lib.hid (putFlags_any (HT.out w3 HB3.out) hfl hf)
  clear ho3 hb3 hfl
  go_wp2_with fail
  refine HPF.out.mono ?_
  rintro e w4 ⟨a4, m4, c4, rfl, _, h4, hb4⟩
  have HB4 := Lib.hid (HB3.out.trans (hb4.mono HB3.out.size))
  have HO4 := Lib.hid (own_below HO3.out hb4)
  have heq := equal_any h4 (HX.out.kept HB4.out)
  rw [beq_self_eq_true] at heq
  have HEQ := Lib.hid heq
  clear h4 hb4 heq
  go_wp2_with fail
  refine HEQ.out.mono ?_
  rintro e w5 ⟨rfl, rfl⟩
  go_wp2_with fail
  first | go_ret2 | go_ret
  exact ⟨_, rfl, HO4.out, HB4.out⟩

set_option maxRecDepth 100000 in
set_option maxHeartbeats 2000000 in
theorem flags_any {w : World} (hT : Table w) {a : Option Addr} {n c : Nat} {f : List Bool} (h : BytesAt w a n c (chunk 4 (flC f))) (hn : n ≤ 100000) (hf : f.length ≤ 2048) (h0 : 0 < f.length) (hd : ¬ (dfl (flC f)).length < (flC f).length) :
    Calls Tryd.prog 13 #[.slice a n c] w fun e w' => ∃ v, e = .returned (.tuple #[v, .int .i64 0]) ∧ w'.ownsRow w.heap.size 4 1 v f.length (bl f) ∧ Below w.heap.size w w' := by
  have HR := Lib.hid (readB_any hT h hn hf h0 hd)
  clear hT h hd
  go_enter Tryd.func13, Tryd.ntmps13
  go_wp2_with fail
  refine HR.out.mono ?_
  rintro e w1 ⟨v, rfl, ho, hbl⟩
  have HO := Lib.hid ho
  have HB := Lib.hid hbl
  clear ho hbl
  go_wp2_with fail
  first | go_ret2 | go_ret
  exact ⟨_, rfl, HO.out, HB.out⟩

theorem flC_one : flC [true, false, true] = [3, 5] := by decide +kernel
theorem dfl_35 : ¬ (dfl [3, 5]).length < 2 := by decide +kernel

set_option maxRecDepth 100000 in
set_option maxHeartbeats 2000000 in
theorem lives10_any {w : World} (hT : Table w) :
    Calls Tryd.prog 5 #[] w fun e w' => e = .returned (.bool true) ∧ Below w.heap.size w w' := by
  obtain ⟨w1, hw1⟩ : ∃ w1, w1 = w.alloc (.cells #[.bool true, .bool false, .bool true] 4) := ⟨_, rfl⟩
  have o1 := World.ownsRow_lit (base := w.heap.size) (e := 4) (size := 1) w #[.bool true, .bool false, .bool true] 3 (Nat.le_refl _) (by unfold maxLen; omega) rfl
  rw [← hw1] at o1
  have b1 : Below w.heap.size w w1 := by rw [hw1]; exact (Below.refl _ _).alloc (Nat.le_refl _) _
  obtain ⟨a1, c1, he, hf1⟩ := FlAt.ofOwn (l := [true, false, true]) o1
  simp only [Value.slice.injEq, true_and] at he
  obtain ⟨rfl, rfl⟩ := he
  have HP := Lib.hid (putFlags_any (hT.below b1) hf1 (by omega))
  have HT := Lib.hid (show ∀ w', Below w.heap.size w w' → Table w' from fun w' h => hT.below h)
  have HB1 := Lib.hid b1
  have HW1 := Lib.hid hw1
  have hch : chunk 4 [3, 5] = [4, 0, 2, 3, 5] ++ le (crcN [4, 0, 2, 3, 5]) 4 := by
    unfold chunk
    rw [if_neg (show ¬ (dfl [3, 5]).length < ([3, 5] : List Nat).length from dfl_35), show pu ([3, 5] : List Nat).length = [2] from pu_small (by decide)]
    rfl
  have HCH := Lib.hid hch
  clear hT o1 b1 hf1 hw1 hch
  go_enter Tryd.func5, Tryd.ntmps5
  go_wp2_with fail
  rw [← HW1.out]
  refine HP.out.mono ?_
  rintro e w2 ⟨a2, m2, c2, rfl, _, h2, hb2⟩
  have HB2 := Lib.hid (HB1.out.trans (hb2.mono HB1.out.size))
  have hm2 : m2 = 9 := by
    rw [← h2.len, flC_one, HCH.out]
    rfl
  subst hm2
  have HFL := Lib.hid (flags_any (HT.out w2 HB2.out) h2 (by omega) (by decide) (by decide) (by rw [flC_one]; exact dfl_35))
  have H2 := Lib.hid h2
  clear h2 hb2
  go_wp2_with fail
  refine HFL.out.mono ?_
  rintro e w3 ⟨v3, rfl, ho3, hb3⟩
  obtain ⟨a3, c3, rfl, hfl⟩ := FlAt.ofOwn ho3
  have HB3 := Lib.hid (HB2.out.trans (hb3.mono HB2.out.size))
  have h3 := H2.out.kept hb3
  obtain ⟨g, off, rfl, hg, hcell⟩ := h3.cells (by omega)
  have hc4 := hcell 4 (by omega)
  rw [flC_one, HCH.out] at hc4
  have hc4 : w3.cell? ⟨g, off + 4, none⟩ = some (.int .u8 5) := hc4
  have hcap := h3.cap
  clear ho3 hb3 hfl h3 hcell
  simp only [List.length_cons, List.length_nil]
  go_wp2_with fail
  go_ret
  exact ⟨rfl, HB3.out⟩
end Go.Proofs.YteggmbfhfoijoaaDoor
