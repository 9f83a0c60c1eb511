/- The document's Padded and Bytes of rows of bits (layer 2), package bits' Writer.Align and what a nil writer answers, walked. Condition: at most 100,000 bits. -/
import Derived.Test.YtachikilcfdngaaBitsRPut
import Derived.Test.YtachikilcfdngaaBitsWriter2
namespace Go.Proofs.Ytachikilcfdngaa
open Go.RowKit BitsPlain
set_option linter.unusedVariables false

/-- with noughts up to the end of a byte -/
def padB (l : List Nat) : List Nat := l ++ List.replicate (al l.length - l.length) 0
theorem al_le (p : Nat) : p ≤ al p := by unfold al; omega
theorem padB_len (l : List Nat) : (padB l).length = al l.length := by have := al_le l.length; simp [padB]; omega
theorem padB_bin {l : List Nat} (h : Bin l) : Bin (padB l) := h.app (fun x hx => by simp at hx; omega)
theorem pad_get (l : List Nat) (r j : Nat) : (l ++ List.replicate r 0).getD j 0 = l.getD j 0 := by
  rcases Nat.lt_or_ge j l.length with g | g
  · simp [List.getElem?_append_left g]
  · rcases Nat.lt_or_ge (j - l.length) r with g2 | g2
    · simp [List.getElem?_append_right g, g2, List.getElem?_eq_none g]
    · simp [List.getElem?_append_right g, List.getElem?_eq_none g, List.getElem?_replicate]
      split <;> rfl
theorem bsum_pad (l : List Nat) (r p : Nat) : ∀ k, bsum (l ++ List.replicate r 0) p k = bsum l p k
  | 0 => rfl
  | k + 1 => by simp only [bsum]; rw [bsum_pad l r p k, pad_get]
theorem pack_pad (l : List Nat) : pack (padB l) = pack l := by
  apply ext_getD
  · rw [pack_length, pack_length, padB_len]; unfold al; omega
  · intro j _
    rw [pack_get, pack_get]
    exact bsum_pad l _ _ _

set_option maxRecDepth 100000 in
set_option maxHeartbeats 4000000 in
theorem rpad_any {w : World} {a : Option Addr} {n c : Nat} {l : List Nat} (h : BoolsAt w a n c (rowOf l)) (hn : n ≤ 100000) :
    Calls Try.prog 17 #[.slice a n c] w fun e w' => ∃ a' c', e = .returned (.slice a' (al n) c') ∧ BoolsAt w' a' (al n) c' (rowOf (padB l)) ∧ Below w.heap.size w w' ∧ (∀ b off s, a' = some ⟨b, off, s⟩ → w.heap.size ≤ b) := by
  obtain ⟨i0, hi, hz0, hz1, hz2⟩ := info_parts info_bool
  have hown0 := World.ownsRow_lit (base := w.heap.size) (e := 4) (size := 1) w #[] 0 (Nat.le_refl _) (by unfold maxLen; omega) rfl
  have hln : l.length = n := by have := h.len; rw [rowOf_len] at this; exact this
  have HLN := Lib.hid hln
  have HH := Lib.hid (h.kept ((Below.refl _ _).alloc (Nat.le_refl _) (.cells #[] 4)))
  have HO0 := Lib.hid hown0
  clear h hown0 hln
  go_enter Try.func17, Try.ntmps17
  go_wp2_with (at_builtin; refine wpList_append_bools rfl (.tmp 4) (.tmp 5) rfl w.heap.size _ _ [] rfl HO0.out _ _ _ _ rfl HH.out (by omega) (by simp) ?_)
  intro v1 w1 hown1 hgrow1
  have HB1 := Lib.hid (((Below.refl _ _).alloc (Nat.le_refl _) _).grown hgrow1 (by simp) (fun k hk => by simp [Value.ownBlock] at hk; omega) : Below w.heap.size w w1)
  have hown2 : w1.ownsRow w.heap.size 4 1 v1 n (bl (rowOf (l ++ List.replicate (n - n) 0))) := by simpa using hown1
  have HO2 := Lib.hid hown2
  clear hown1 hgrow1 hown2
  go_wp2_with fail
  go_loopg [3] (al n - n) (fun k s3 wr => ∃ q, k = al n - q ∧ n ≤ q ∧ q ≤ al n ∧ Hid (wr.ownsRow w.heap.size 4 1 s3 q (bl (rowOf (l ++ List.replicate (q - n) 0)))) ∧ Hid (Below w.heap.size w wr))
  case atStart => exact ⟨n, rfl, by omega, al_le n, HO2, HB1⟩
  case round =>
    obtain ⟨q, hk, hnq, hqa, HO, HB⟩ := hrel
    rename World => wr
    have hq7 : q ≤ n + 7 := by unfold al at hqa; omega
    obtain ⟨a', c', rfl, hba, hfa⟩ := BoolsAt.ofOwn HO.out (by omega)
    have HBA := Lib.hid hba
    have HFA := Lib.hid hfa
    have HK := Lib.hid hk
    clear hba hfa hk
    by_cases hz : q % 8 = 0
    · have e : q = al n := by unfold al at hqa ⊢; omega
      have z : ((q : Int) % 8 != 0) = false := by rw [bne_eq_false_iff_eq]; omega
      have HE := Lib.hid e
      clear e
      go_wp2_with fail
      go_ret
      refine ⟨a', c', by rw [HE.out]; rfl, ?_, HB.out, HFA.out⟩
      have := HBA.out
      rw [HE.out] at this
      unfold padB
      rw [HLN.out]
      exact this
    · have z : ((q : Int) % 8 != 0) = true := by rw [bne_iff_ne]; omega
      have hown := HO.out
      have hbs := HB.out.size
      go_wp2_with (at_builtin; refine wpList_append_own _ rfl (.tmp 11) (.tmp 12) 28 rfl w.heap.size 4 i0 (.bool false) 1 1 Try.underlying28 hi hz0 hz1 hz2 rfl (by decide) _ _ _ rfl (hown.alloc _) ⟨wr.heap.size, 0, none⟩ 1 1 [.bool false] rfl rfl (one_src _ _ _) (one_oneCell rfl) (by unfold maxLen; omega) (by omega) (by simp; omega) ?_)
      intro v' w2 hown' hgrow _
      have HO3 := Lib.hid hown'
      have HB3 := Lib.hid ((HB.out.alloc HB.out.size _).grown hgrow (by simp; omega) (fun k hk => (hown.lt k hk).1))
      clear hown' hgrow hown
      go_wp2_with fail
      go_roundg (al n - (q + 1))
      case rel =>
        refine ⟨q + 1, rfl, by omega, by unfold al at hqa ⊢; omega, Lib.hid ?_, HB3⟩
        rw [show q + 1 - n = (q - n) + 1 from by omega, List.replicate_succ', ← List.append_assoc, rowOf_app, bl_app]
        exact HO3.out
      case measure => have := HK.out; unfold al at hqa this ⊢; omega

theorem nb_bsum (l : List Nat) (hb : Bin l) (p : Nat) : ∀ m, nb ((List.range m).map fun k => l.getD (p + k) 0 == 1) = bsum l p m
  | 0 => rfl
  | m + 1 => by
    rw [List.range_succ, List.map_append, List.map_singleton, nb_snoc, nb_bsum l hb p m]
    have := hb.get (p + m)
    have e : (l.getD (p + m) 0 == 1).toNat = l.getD (p + m) 0 := by
      rcases (show l.getD (p + m) 0 = 0 ∨ l.getD (p + m) 0 = 1 by omega) with h | h <;> rw [h] <;> rfl
    simp only [bsum, e, List.length_map, List.length_range]
theorem rowOf_part (l : List Nat) (p m : Nat) (h : p + m ≤ l.length) : ((rowOf l).drop p).take m = (List.range m).map fun k => l.getD (p + k) 0 == 1 := by
  apply List.ext_getElem
  · simp [rowOf]; omega
  · intro i h1 h2
    have : p + i < l.length := by simp at h2; omega
    simp [rowOf, this]
theorem take_pack (l : List Nat) (t : Nat) (h : 8 * t < l.length) : (pack l).take (t + 1) = (pack l).take t ++ [bsum l (8 * t) 8] := by
  have h1 : t < (pack l).length := by rw [pack_length]; omega
  rw [List.take_add_one, List.getElem?_eq_getElem h1]
  have h2 := pack_get l t
  have : (pack l).getD t 0 = (pack l)[t] := by simp [h1]
  rw [← this, h2]
  rfl

set_option maxRecDepth 100000 in
set_option maxHeartbeats 4000000 in
theorem rbytes_any {w : World} {a : Option Addr} {n c : Nat} {l : List Nat} (h : BoolsAt w a n c (rowOf l)) (hbin : Bin l) (hn : n ≤ 100000) :
    Calls Try.prog 23 #[.slice a n c] w fun e w' => ∃ a' c', e = .returned (.slice a' (pack l).length c') ∧ BytesAt w' a' (pack l).length c' (pack l) ∧ Below w.heap.size w w' := by
  obtain ⟨i0, hi, hz0, hz1, hz2⟩ := info_parts info_u8
  have hown0 := World.ownsRow_lit (base := w.heap.size) (e := 5) (size := 1) w #[] 0 (Nat.le_refl _) (by unfold maxLen; omega) rfl
  have hln : l.length = n := by have := h.len; rw [rowOf_len] at this; exact this
  have hpl : (pack l).length = (n + 7) / 8 := by rw [pack_length, hln]
  have hcap := h.cap
  have hcm := h.capm
  have HLN := Lib.hid hln
  have HPL := Lib.hid hpl
  have HH := Lib.hid h
  have HBIN := Lib.hid hbin
  clear h hln hpl hbin
  go_enter Try.func23, Try.ntmps23
  go_wp2_with fail
  go_loopw [3, 4] (fun s3 s4 wr => ∃ (t i : Nat), s4 = .int .i64 i ∧ i = 8 * t ∧ i ≤ n + 7 ∧ Hid (wr.ownsRow w.heap.size 5 1 s3 t (bv ((pack l).take t))) ∧ Hid (Below w.heap.size w wr)) (fun _ s4 _ => n + 8 - (intOf s4).toNat)
  case atStart => exact ⟨0, 0, rfl, rfl, by omega, Lib.hid (by simpa [bv] using hown0), Lib.hid ((Below.refl _ _).alloc (Nat.le_refl _) _)⟩
  case round =>
    obtain ⟨t, i, rfl, hit, hin, HO, HB⟩ := hrel
    rename World => wr
    by_cases hlt : i < n
    · obtain ⟨m, hm⟩ : ∃ m, m = min 8 (n - i) := ⟨_, rfl⟩
      have him : i + m ≤ n := by omega
      have hm8 : m ≤ 8 := by omega
      have e0 : IntKind.i64.wrap ((i : Int) + 8) = (i : Int) + 8 := IntWalk.i64_in _ (by omega)
      have e1 : min ((i : Int) + 8) (n : Int) = (i : Int) + (m : Int) := by omega
      have hsl := slice_runB a n c i m (by omega)
      have hsub := (HH.out.kept HB.out).subAny i m him
      rw [rowOf_part l i m (by have := HLN.out; omega)] at hsub
      generalize (if c = i then a else a.map (·.add i)) = A at hsl hsub
      have hnum := number_any hsub (by omega)
      rw [nb_bsum l HBIN.out i m] at hnum
      have hb8 : bsum l i 8 = bsum l i m := by
        by_cases h8 : m = 8
        · rw [h8]
        · have := bsum_end l i m (by have := HLN.out; omega) (8 - m)
          rw [← this]; congr 1; omega
      obtain ⟨x, hx⟩ : ∃ x, x = bsum l i m := ⟨_, rfl⟩
      have hx256 : x ≤ 255 := by
        have h1 := bsum_lt HBIN.out i 8
        have h2 : (2 : Nat) ^ 8 = 256 := by decide
        rw [hx, ← hb8]; omega
      rw [← hx] at hnum
      have HNUM := Lib.hid hnum
      have HX := Lib.hid (hx.trans hb8.symm)
      have HT := Lib.hid hit
      have e2 : IntKind.u8.wrap (x : Int) = (x : Int) := by rw [IntKind.wrap_u8]; omega
      clear hm hsub hnum hb8 hx hit
      go_wp2_with fail
      refine HNUM.out.mono ?_
      rintro r w2 ⟨rfl, rfl⟩
      have hown := HO.out
      have hbs := HB.out.size
      have ht1 : t ≤ 12501 := by have := HT.out; omega
      go_wp2_with (at_builtin; refine wpList_append_own _ rfl (.tmp 12) (.tmp 23) 22 rfl w.heap.size 5 i0 (.int .u8 0) 1 1 Try.underlying22 hi hz0 hz1 hz2 rfl (by decide) _ _ _ rfl (hown.alloc _) ⟨wr.heap.size, 0, none⟩ 1 1 [.int .u8 (x : Int)] rfl rfl (one_src _ _ _) (one_oneCell rfl) (by unfold maxLen; omega) (by omega) (by simp; omega) ?_)
      intro v' w3 hown' hgrow _
      have HO3 := Lib.hid hown'
      have HB3 := Lib.hid ((HB.out.alloc HB.out.size _).grown hgrow (by simp; omega) (fun k hk => (hown.lt k hk).1))
      clear hown' hgrow hown
      go_wp2_with fail
      go_roundw
      case rel =>
        refine ⟨t + 1, i + 8, by go_num, by have := HT.out; omega, by omega, Lib.hid ?_, HB3⟩
        rw [take_pack l t (by have := HT.out; have := HLN.out; omega), ← HT.out, ← HX.out, bv_append]
        exact HO3.out
      case measure => simp [intOf]; omega
    · have ht : t = (pack l).length := by rw [HPL.out]; omega
      have hown := HO.out
      rw [ht, List.take_of_length_le (Nat.le_refl _)] at hown
      obtain ⟨a', c', rfl, hba, hfa⟩ := BytesAt.ofOwn hown (pack_byte HBIN.out) (by rw [HPL.out]; omega)
      have HBA := Lib.hid hba
      have hge : (n : Int) ≤ (i : Int) := by omega
      clear hba hown ht hit
      go_wp2_with fail
      go_ret
      exact ⟨a', c', rfl, HBA.out, HB.out⟩

set_option maxRecDepth 100000 in
set_option maxHeartbeats 1000000 in
theorem walign_any {w : World} {B base : Nat} {v : Value} {l : List Nat} (h : WrAt w B base v l) (hlen : l.length ≤ 100000) :
    Calls Try.prog 16 #[.pointer (some ⟨B, 0, none⟩)] w fun e w' => e = .returned (.tuple #[]) ∧ WrAt w' B base v (padB l) ∧ Touch w w' B v := by
  have hpl := pack_length l
  obtain ⟨a, c, rfl, hb, _⟩ := BytesAt.ofOwn h.own (pack_byte h.bin) (by omega)
  have h0 := h.c0
  have h1 := h.c1
  have f1 := h.f 1
  have hne := h.ne
  have HH := Lib.hid h
  obtain ⟨pl, hpl2⟩ : ∃ pl, pl = (pack l).length := ⟨_, rfl⟩
  have e1 : IntKind.i64.wrap (8 * (pl : Int)) = ((al l.length : Nat) : Int) := by rw [IntWalk.i64_in _ (by omega)]; unfold al; omega
  rw [← hpl2] at h0
  have HP := Lib.hid hpl2
  have HNE := Lib.hid hne
  clear h hb hpl2 hpl hne
  go_enter Try.func16, Try.ntmps16
  go_wp2_with fail
  go_end0
  refine ⟨rfl, ⟨?_, ?_, padB_bin HH.out.bin⟩, ⟨rfl, rfl, rfl, by simp, fun k hk hkB _ => heap_setCell_other _ _ _ _ hkB⟩⟩
  · rw [heap_setCell_same _ B 1 _ _ _ HH.out.blk, padB_len]; rfl
  · rw [pack_pad]
    exact ownsRow_setCell_other HH.out.own HNE.out _

theorem wbits_nil (V k : Int) (w : World) : Calls Try.prog 19 #[.pointer none, .int .u32 V, .int .i64 k] w fun e w' => e = .returned (.int .i64 1) ∧ w = w' := by
  go_enter Try.func19, Try.ntmps19
  go_wp2_with fail
  go_ret
  exact ⟨rfl, rfl⟩
theorem wbytes_nil (w : World) : Calls Try.prog 21 #[.pointer none] w fun e w' => e = .returned (.slice none 0 0) ∧ w = w' := by
  go_enter Try.func21, Try.ntmps21
  go_wp2_with fail
  go_ret
  exact ⟨rfl, rfl⟩
end Go.Proofs.Ytachikilcfdngaa
