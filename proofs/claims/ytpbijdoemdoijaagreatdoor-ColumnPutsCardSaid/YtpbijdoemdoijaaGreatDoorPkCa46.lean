/- Texts put together by packtpl2.py: BitsRPut, BitsRPad, CrcRef, SqRLen. -/
import Derived.Test.YtpbijdoemdoijaaGreatDoorPkCa1
import Derived.Test.YtpbijdoemdoijaaGreatDoorPkCa4
import Derived.Test.YtpbijdoemdoijaaGreatDoorPkCa5
import Derived.Test.YtpbijdoemdoijaaGreatDoorPkCa11
import Derived.Test.YtpbijdoemdoijaaGreatDoorPkCa45
import Derived.Laws.AppendOwnNone
section PkCa46_0
/- The document's Put, Padded and Bytes of rows of bits (layer 2), walked. Condition: at most 100,000 bits. -/
namespace Go.Proofs.YtpbijdoemdoijaaGreatDoor
open Go.RowKit BitsPlain
set_option linter.unusedVariables false

/-- bits as truths -/
def rowOf (l : List Nat) : List Bool := l.map (· == 1)
theorem rowOf_len (l : List Nat) : (rowOf l).length = l.length := by simp [rowOf]
theorem rowOf_app (l r : List Nat) : rowOf (l ++ r) = rowOf l ++ rowOf r := by simp [rowOf]
theorem bl_app (l r : List Bool) : bl (l ++ r) = bl l ++ bl r := by simp [bl]
theorem bl_len (l : List Bool) : (bl l).length = l.length := by simp [bl]
theorem bl_oneCell (l : List Bool) : ∀ u ∈ bl l, u.oneCell' = true := by
  intro u hu
  simp only [bl, List.mem_map] at hu
  obtain ⟨x, _, rfl⟩ := hu
  rfl

theorem BoolsAt.src {w : World} {ad : Addr} {n c : Nat} {l : List Bool} (h : BoolsAt w (some ad) n c l) : ∀ j u, (bl l)[j]? = some u → w.cell? (ad.add j) = some u := by
  intro j u hj
  have hlt : j < l.length := by
    rcases Nat.lt_or_ge j l.length with g | g
    · exact g
    · rw [List.getElem?_eq_none (by rw [bl_len]; omega)] at hj
      cases hj
  rw [bl_get _ _ hlt] at hj
  obtain ⟨b, off, ha, _, hc⟩ := h.cells (by have := h.len; omega)
  cases ha
  have h4 : (⟨b, off, none⟩ : Addr).add j = ⟨b, off + j, none⟩ := by unfold Addr.add; split <;> simp_all
  rw [h4, hc j (by have := h.len; omega)]
  exact hj

/-- append of truths, wherever they lie, to truths that the call owns -/
theorem wpList_append_bools {w : World} {ops : Array Oper} {rest : List Oper} {o : Oper} {a : Act} {Q : Exit → Act → World → Prop} (hgd : o.guard = none) (s x : Operand)
    (ho : o.op = .call { callee := .builtin .append, args := #[s, x], argTypes := #[24, 24] })
    (base : Nat) (v : Value) (n : Nat) (xs : List Bool) (hs : a.eval s = v) (hown : w.ownsRow base 4 1 v n (bl xs))
    (src : Option Addr) (m c : Nat) (ys : List Bool) (hx : a.eval x = .slice src m c) (hb : BoolsAt w src m c ys)
    (h63 : n + m ≤ 140737488355328) (hbase : base ≤ w.heap.size)
    (h : ∀ v' w', w'.ownsRow base 4 1 v' (n + m) (bl (xs ++ ys)) → w.grownBy w' v.ownBlock → wpList Tryz.prog ops Q rest (a.put o.dst v') w') : wpList Tryz.prog ops Q (o :: rest) a w := by
  obtain ⟨i0, hi, hz0, hz1, hz2⟩ := info_parts info_bool
  rcases src with _ | ad
  · have hc := hb.nl rfl
    have hm : m = 0 := by have := hb.cap; omega
    subst hm
    subst hc
    have hy : ys = [] := List.eq_nil_of_length_eq_zero hb.len
    subst hy
    refine wpList_append_own_none hgd s x 24 ho base 4 i0 1 Tryz.underlying24 hi v n (bl xs) hs hown hx ?_
    exact h v w (by simpa using hown) (World.grownBy.refl _ _)
  · refine wpList_append_own w hgd s x 24 ho base 4 i0 (.bool false) 1 1 Tryz.underlying24 hi hz0 hz1 hz2 rfl (by decide) v n (bl xs) hs hown ad m c (bl ys) hx (by rw [bl_len, hb.len]; omega) hb.src (bl_oneCell _) (by unfold maxLen; omega) (by omega) hbase ?_
    intro v' w' h1 h2 _
    exact h v' w' (by rw [bl_app]; exact h1) h2

/-- the bits that Put puts -/
def putBits (V k : Nat) (code : Bool) (i : Nat) : List Nat := if code then codeOf V k i else bitsOf V i
theorem putBits_succ (V k : Nat) (code : Bool) (i : Nat) : putBits V k code (i + 1) = putBits V k code i ++ [V / 2 ^ (if code then k - 1 - i else i) % 2] := by
  cases code <;> simp [putBits, codeOf_succ, bitsOf_succ]
theorem putBits_len (V k : Nat) (code : Bool) (i : Nat) : (putBits V k code i).length = i := by
  cases code <;> simp [putBits, codeOf_length, bitsOf_length]

set_option maxRecDepth 100000 in
set_option maxHeartbeats 4000000 in
theorem rput_any {w : World} {a : Option Addr} {n c : Nat} {l : List Nat} (h : BoolsAt w a n c (rowOf l)) (hn : n ≤ 100000) (V : Nat) (hV : V < 4294967296) (k : Nat) (hk : k ≤ 32) (code : Bool) :
    Calls Tryz.prog 113 #[.slice a n c, .int .u32 (V : Int), .int .i64 (k : Int), .bool code] w fun e w' => ∃ a' c', e = .returned (.slice a' (n + k) c') ∧ BoolsAt w' a' (n + k) c' (rowOf (l ++ putBits V k code k)) ∧ Below w.heap.size w w' ∧ (∀ b off s, a' = some ⟨b, off, s⟩ → w.heap.size ≤ b) := by
  obtain ⟨i0, hi, hz0, hz1, hz2⟩ := info_parts info_bool
  have hown0 := World.ownsRow_lit (base := w.heap.size) (e := 4) (size := 1) w #[] 0 (Nat.le_refl _) (by unfold maxLen; omega) rfl
  have HH := Lib.hid (h.kept ((Below.refl _ _).alloc (Nat.le_refl _) (.cells #[] 4)))
  have HV := Lib.hid hV
  have HO0 := Lib.hid hown0
  clear h hV hown0
  go_enter Tryz.func113, Tryz.ntmps113
  go_wp2_with (at_builtin; refine wpList_append_bools rfl (.tmp 14) (.tmp 15) rfl w.heap.size _ _ [] rfl HO0.out _ _ _ _ rfl HH.out (by omega) (by simp) ?_)
  intro v1 w1 hown1 hgrow1
  have hb1 : Below w.heap.size w w1 := ((Below.refl _ _).alloc (Nat.le_refl _) _).grown hgrow1 (by simp) (fun k hk => by simp [Value.ownBlock] at hk; omega)
  have hown2 : w1.ownsRow w.heap.size 4 1 v1 (n + 0) (bl (rowOf (l ++ putBits V k code 0))) := by
    have e : putBits V k code 0 = [] := List.eq_nil_of_length_eq_zero (putBits_len _ _ _ _)
    rw [e]
    simpa using hown1
  have HO2 := Lib.hid hown2
  have HB1 := Lib.hid hb1
  clear hown1 hgrow1 hb1 hown2
  go_wp2_with fail
  go_loopw [9, 10] (fun s9 s10 wr => ∃ i : Nat, i ≤ k ∧ s10 = .int .i64 i ∧ Hid (wr.ownsRow w.heap.size 4 1 s9 (n + i) (bl (rowOf (l ++ putBits V k code i)))) ∧ Hid (Below w.heap.size w wr)) (fun _ s10 _ => k - (intOf s10).toNat)
  case atStart => exact ⟨0, by omega, rfl, HO2, HB1⟩
  case round =>
    obtain ⟨i, hik, rfl, HO, HB⟩ := hrel
    rename World => wr
    by_cases hlt : i < k
    · obtain ⟨K, hK⟩ : ∃ K : Nat, K = if code then k - 1 - i else i := ⟨_, rfl⟩
      have hs := putBits_succ V k code i
      rw [← hK] at hs
      have HS := Lib.hid hs
      have hK31 : K ≤ 31 := by rw [hK]; split <;> omega
      have fin : ∀ (act : Act), True := fun _ => trivial
      clear fin hs
      cases code
      · have hKi : K = i := by rw [hK]; rfl
        clear hK
        subst hKi
        go_wp2_with fail
        go_loop [12, 13] (fun s12 s13 => ∃ j : Nat, j ≤ K ∧ s13 = .int .i64 j ∧ s12 = .int .u32 ((V / 2 ^ j : Nat) : Int)) (fun _ s13 => K - (intOf s13).toNat)
        case atStart => exact ⟨0, by omega, rfl, by simp⟩
        case round =>
          obtain ⟨j, hj, rfl, rfl⟩ := hrel
          by_cases hjK : j < K
          · obtain ⟨y, hy⟩ : ∃ y, y = V / 2 ^ j := ⟨_, rfl⟩
            have hy32 : y ≤ 4294967295 := by rw [hy]; have h1 := Nat.div_le_self V (2 ^ j); have h2 := HV.out; omega
            rw [← hy]
            have HY := Lib.hid hy
            clear hy
            go_wp2_with fail
            go_round
            case rel =>
              refine ⟨j + 1, by omega, by go_num, ?_⟩
              rw [show V / 2 ^ (j + 1) = y / 2 from by rw [HY.out, Nat.div_div_eq_div_mul, ← Nat.pow_succ]]
              go_num
            case measure => simp [intOf]; omega
          · have hjK2 : j = K := by omega
            subst hjK2
            obtain ⟨y, hy⟩ : ∃ y, y = V / 2 ^ j := ⟨_, rfl⟩
            have hy32 : y ≤ 4294967295 := by rw [hy]; have h1 := Nat.div_le_self V (2 ^ j); have h2 := HV.out; omega
            rw [← hy]
            have HY := Lib.hid hy
            have hown := HO.out
            have hbs := HB.out.size
            clear hy
            go_wp2_with (at_builtin; refine wpList_append_own _ rfl (.tmp 36) (.tmp 40) 24 rfl w.heap.size 4 i0 (.bool false) 1 1 Tryz.underlying24 hi hz0 hz1 hz2 rfl (by decide) _ _ _ rfl (hown.alloc _) ⟨wr.heap.size, 0, none⟩ 1 1 [.bool ((y : Int) % 2 == 1)] rfl rfl (one_src _ _ _) (one_oneCell rfl) (by unfold maxLen; omega) (by omega) (by simp; omega) ?_)
            intro v' w2 hown' hgrow _
            have HO3 := Lib.hid hown'
            have HB3 := Lib.hid ((HB.out.alloc HB.out.size _).grown hgrow (by simp; omega) (fun k hk => (hown.lt k hk).1))
            clear hown' hgrow hown
            go_wp2_with fail
            go_roundw
            case rel =>
              refine ⟨j + 1, by omega, by go_num, Lib.hid ?_, HB3⟩
              have e1 : ((y : Int) % 2 == 1) = (V / 2 ^ j % 2 == 1) := by
                rw [← HY.out, Bool.eq_iff_iff, beq_iff_eq, beq_iff_eq]; omega
              have := HO3.out
              rw [e1] at this
              rw [HS.out, ← List.append_assoc, rowOf_app, bl_app]
              exact this
            case measure => simp [intOf]; omega
      · have hKi : (k : Int) - 1 - (i : Int) = (K : Int) := by rw [hK]; simp; omega
        clear hK
        go_wp2_with fail
        go_loop [12, 13] (fun s12 s13 => ∃ j : Nat, j ≤ K ∧ s13 = .int .i64 j ∧ s12 = .int .u32 ((V / 2 ^ j : Nat) : Int)) (fun _ s13 => K - (intOf s13).toNat)
        case atStart => exact ⟨0, by omega, rfl, by simp⟩
        case round =>
          obtain ⟨j, hj, rfl, rfl⟩ := hrel
          by_cases hjK : j < K
          · obtain ⟨y, hy⟩ : ∃ y, y = V / 2 ^ j := ⟨_, rfl⟩
            have hy32 : y ≤ 4294967295 := by rw [hy]; have h1 := Nat.div_le_self V (2 ^ j); have h2 := HV.out; omega
            rw [← hy]
            have HY := Lib.hid hy
            clear hy
            go_wp2_with fail
            go_round
            case rel =>
              refine ⟨j + 1, by omega, by go_num, ?_⟩
              rw [show V / 2 ^ (j + 1) = y / 2 from by rw [HY.out, Nat.div_div_eq_div_mul, ← Nat.pow_succ]]
              go_num
            case measure => simp [intOf]; omega
          · have hjK2 : j = K := by omega
            subst hjK2
            obtain ⟨y, hy⟩ : ∃ y, y = V / 2 ^ j := ⟨_, rfl⟩
            have hy32 : y ≤ 4294967295 := by rw [hy]; have h1 := Nat.div_le_self V (2 ^ j); have h2 := HV.out; omega
            rw [← hy]
            have HY := Lib.hid hy
            have hown := HO.out
            have hbs := HB.out.size
            clear hy
            go_wp2_with (at_builtin; refine wpList_append_own _ rfl (.tmp 36) (.tmp 40) 24 rfl w.heap.size 4 i0 (.bool false) 1 1 Tryz.underlying24 hi hz0 hz1 hz2 rfl (by decide) _ _ _ rfl (hown.alloc _) ⟨wr.heap.size, 0, none⟩ 1 1 [.bool ((y : Int) % 2 == 1)] rfl rfl (one_src _ _ _) (one_oneCell rfl) (by unfold maxLen; omega) (by omega) (by simp; omega) ?_)
            intro v' w2 hown' hgrow _
            have HO3 := Lib.hid hown'
            have HB3 := Lib.hid ((HB.out.alloc HB.out.size _).grown hgrow (by simp; omega) (fun k hk => (hown.lt k hk).1))
            clear hown' hgrow hown
            go_wp2_with fail
            go_roundw
            case rel =>
              refine ⟨i + 1, by omega, by go_num, Lib.hid ?_, HB3⟩
              have e1 : ((y : Int) % 2 == 1) = (V / 2 ^ j % 2 == 1) := by
                rw [← HY.out, Bool.eq_iff_iff, beq_iff_eq, beq_iff_eq]; omega
              have := HO3.out
              rw [e1] at this
              rw [HS.out, ← List.append_assoc, rowOf_app, bl_app]
              exact this
            case measure => simp [intOf]; omega
    · have hik2 : i = k := by omega
      subst hik2
      obtain ⟨a', c', rfl, hba, hfa⟩ := BoolsAt.ofOwn HO.out (by omega)
      have HBA := Lib.hid hba
      clear hba
      go_wp2_with fail
      go_ret
      exact ⟨a', c', rfl, HBA.out, HB.out, hfa⟩
end Go.Proofs.YtpbijdoemdoijaaGreatDoor
end PkCa46_0
section PkCa46_1
/- The document's Padded and Bytes of rows of bits (layer 2), package bits' Writer.Align and what a nil writer answers, walked. Condition: at most 100,000 bits. -/
namespace Go.Proofs.YtpbijdoemdoijaaGreatDoor
open Go.RowKit BitsPlain
set_option linter.unusedVariables false

/-- with noughts up to the end of a byte -/
def padB (l : List Nat) : List Nat := l ++ List.replicate (al l.length - l.length) 0
theorem al_le (p : Nat) : p ≤ al p := by unfold al; omega
theorem padB_len (l : List Nat) : (padB l).length = al l.length := by have := al_le l.length; simp [padB]; omega
theorem padB_bin {l : List Nat} (h : Bin l) : Bin (padB l) := h.app (fun x hx => by simp at hx; omega)
theorem pad_get (l : List Nat) (r j : Nat) : (l ++ List.replicate r 0).getD j 0 = l.getD j 0 := by
  rcases Nat.lt_or_ge j l.length with g | g
  · simp [List.getElem?_append_left g]
  · rcases Nat.lt_or_ge (j - l.length) r with g2 | g2
    · simp [List.getElem?_append_right g, g2, List.getElem?_eq_none g]
    · simp [List.getElem?_append_right g, List.getElem?_eq_none g, List.getElem?_replicate]
      split <;> rfl
theorem bsum_pad (l : List Nat) (r p : Nat) : ∀ k, bsum (l ++ List.replicate r 0) p k = bsum l p k
  | 0 => rfl
  | k + 1 => by simp only [bsum]; rw [bsum_pad l r p k, pad_get]
theorem pack_pad (l : List Nat) : pack (padB l) = pack l := by
  apply ext_getD
  · rw [pack_length, pack_length, padB_len]; unfold al; omega
  · intro j _
    rw [pack_get, pack_get]
    exact bsum_pad l _ _ _


theorem nb_bsum (l : List Nat) (hb : Bin l) (p : Nat) : ∀ m, nb ((List.range m).map fun k => l.getD (p + k) 0 == 1) = bsum l p m
  | 0 => rfl
  | m + 1 => by
    rw [List.range_succ, List.map_append, List.map_singleton, nb_snoc, nb_bsum l hb p m]
    have := hb.get (p + m)
    have e : (l.getD (p + m) 0 == 1).toNat = l.getD (p + m) 0 := by
      rcases (show l.getD (p + m) 0 = 0 ∨ l.getD (p + m) 0 = 1 by omega) with h | h <;> rw [h] <;> rfl
    simp only [bsum, e, List.length_map, List.length_range]
theorem rowOf_part (l : List Nat) (p m : Nat) (h : p + m ≤ l.length) : ((rowOf l).drop p).take m = (List.range m).map fun k => l.getD (p + k) 0 == 1 := by
  apply List.ext_getElem
  · simp [rowOf]; omega
  · intro i h1 h2
    have : p + i < l.length := by simp at h2; omega
    simp [rowOf, this]
theorem take_pack (l : List Nat) (t : Nat) (h : 8 * t < l.length) : (pack l).take (t + 1) = (pack l).take t ++ [bsum l (8 * t) 8] := by
  have h1 : t < (pack l).length := by rw [pack_length]; omega
  rw [List.take_add_one, List.getElem?_eq_getElem h1]
  have h2 := pack_get l t
  have : (pack l).getD t 0 = (pack l)[t] := by simp [h1]
  rw [← this, h2]
  rfl

set_option maxRecDepth 100000 in
set_option maxHeartbeats 4000000 in
theorem rbytes_any {w : World} {a : Option Addr} {n c : Nat} {l : List Nat} (h : BoolsAt w a n c (rowOf l)) (hbin : Bin l) (hn : n ≤ 100000) :
    Calls Tryz.prog 48 #[.slice a n c] w fun e w' => ∃ a' c', e = .returned (.slice a' (pack l).length c') ∧ BytesAt w' a' (pack l).length c' (pack l) ∧ Below w.heap.size w w' := by
  obtain ⟨i0, hi, hz0, hz1, hz2⟩ := info_parts info_u8
  have hown0 := World.ownsRow_lit (base := w.heap.size) (e := 5) (size := 1) w #[] 0 (Nat.le_refl _) (by unfold maxLen; omega) rfl
  have hln : l.length = n := by have := h.len; rw [rowOf_len] at this; exact this
  have hpl : (pack l).length = (n + 7) / 8 := by rw [pack_length, hln]
  have hcap := h.cap
  have hcm := h.capm
  have HLN := Lib.hid hln
  have HPL := Lib.hid hpl
  have HH := Lib.hid h
  have HBIN := Lib.hid hbin
  clear h hln hpl hbin
  go_enter Tryz.func48, Tryz.ntmps48
  go_wp2_with fail
  go_loopw [3, 4] (fun s3 s4 wr => ∃ (t i : Nat), s4 = .int .i64 i ∧ i = 8 * t ∧ i ≤ n + 7 ∧ Hid (wr.ownsRow w.heap.size 5 1 s3 t (bv ((pack l).take t))) ∧ Hid (Below w.heap.size w wr)) (fun _ s4 _ => n + 8 - (intOf s4).toNat)
  case atStart => exact ⟨0, 0, rfl, rfl, by omega, Lib.hid (by simpa [bv] using hown0), Lib.hid ((Below.refl _ _).alloc (Nat.le_refl _) _)⟩
  case round =>
    obtain ⟨t, i, rfl, hit, hin, HO, HB⟩ := hrel
    rename World => wr
    by_cases hlt : i < n
    · obtain ⟨m, hm⟩ : ∃ m, m = min 8 (n - i) := ⟨_, rfl⟩
      have him : i + m ≤ n := by omega
      have hm8 : m ≤ 8 := by omega
      have e0 : IntKind.i64.wrap ((i : Int) + 8) = (i : Int) + 8 := IntWalk.i64_in _ (by omega)
      have e1 : min ((i : Int) + 8) (n : Int) = (i : Int) + (m : Int) := by omega
      have hsl := slice_runB a n c i m (by omega)
      have hsub := (HH.out.kept HB.out).subAny i m him
      rw [rowOf_part l i m (by have := HLN.out; omega)] at hsub
      generalize (if c = i then a else a.map (·.add i)) = A at hsl hsub
      have hnum := rnumb_any hsub (by omega)
      rw [nb_bsum l HBIN.out i m] at hnum
      have hb8 : bsum l i 8 = bsum l i m := by
        by_cases h8 : m = 8
        · rw [h8]
        · have := bsum_end l i m (by have := HLN.out; omega) (8 - m)
          rw [← this]; congr 1; omega
      obtain ⟨x, hx⟩ : ∃ x, x = bsum l i m := ⟨_, rfl⟩
      have hx256 : x ≤ 255 := by
        have h1 := bsum_lt HBIN.out i 8
        have h2 : (2 : Nat) ^ 8 = 256 := by decide
        rw [hx, ← hb8]; omega
      rw [← hx] at hnum
      have HNUM := Lib.hid hnum
      have HX := Lib.hid (hx.trans hb8.symm)
      have HT := Lib.hid hit
      have e2 : IntKind.u8.wrap (x : Int) = (x : Int) := by rw [IntKind.wrap_u8]; omega
      clear hm hsub hnum hb8 hx hit
      go_wp2_with fail
      refine HNUM.out.mono ?_
      rintro r w2 ⟨rfl, rfl⟩
      have hown := HO.out
      have hbs := HB.out.size
      have ht1 : t ≤ 12501 := by have := HT.out; omega
      go_wp2_with (at_builtin; refine wpList_append_own _ rfl (.tmp 12) (.tmp 23) 27 rfl w.heap.size 5 i0 (.int .u8 0) 1 1 Tryz.underlying27 hi hz0 hz1 hz2 rfl (by decide) _ _ _ rfl (hown.alloc _) ⟨wr.heap.size, 0, none⟩ 1 1 [.int .u8 (x : Int)] rfl rfl (one_src _ _ _) (one_oneCell rfl) (by unfold maxLen; omega) (by omega) (by simp; omega) ?_)
      intro v' w3 hown' hgrow _
      have HO3 := Lib.hid hown'
      have HB3 := Lib.hid ((HB.out.alloc HB.out.size _).grown hgrow (by simp; omega) (fun k hk => (hown.lt k hk).1))
      clear hown' hgrow hown
      go_wp2_with fail
      go_roundw
      case rel =>
        refine ⟨t + 1, i + 8, by go_num, by have := HT.out; omega, by omega, Lib.hid ?_, HB3⟩
        rw [take_pack l t (by have := HT.out; have := HLN.out; omega), ← HT.out, ← HX.out, bv_append]
        exact HO3.out
      case measure => simp [intOf]; omega
    · have ht : t = (pack l).length := by rw [HPL.out]; omega
      have hown := HO.out
      rw [ht, List.take_of_length_le (Nat.le_refl _)] at hown
      obtain ⟨a', c', rfl, hba, hfa⟩ := BytesAt.ofOwn hown (pack_byte HBIN.out) (by rw [HPL.out]; omega)
      have HBA := Lib.hid hba
      have hge : (n : Int) ≤ (i : Int) := by omega
      clear hba hown ht hit
      go_wp2_with fail
      go_ret
      exact ⟨a', c', rfl, HBA.out, HB.out⟩

set_option maxRecDepth 100000 in
set_option maxHeartbeats 1000000 in
theorem walign_any {w : World} {B base : Nat} {v : Value} {l : List Nat} (h : WrAt w B base v l) (hlen : l.length ≤ 100000) :
    Calls Tryz.prog 146 #[.pointer (some ⟨B, 0, none⟩)] w fun e w' => e = .returned (.tuple #[]) ∧ WrAt w' B base v (padB l) ∧ Touch w w' B v := by
  have hpl := pack_length l
  obtain ⟨a, c, rfl, hb, _⟩ := BytesAt.ofOwn h.own (pack_byte h.bin) (by omega)
  have h0 := h.c0
  have h1 := h.c1
  have f1 := h.f 1
  have hne := h.ne
  have HH := Lib.hid h
  obtain ⟨pl, hpl2⟩ : ∃ pl, pl = (pack l).length := ⟨_, rfl⟩
  have e1 : IntKind.i64.wrap (8 * (pl : Int)) = ((al l.length : Nat) : Int) := by rw [IntWalk.i64_in _ (by omega)]; unfold al; omega
  rw [← hpl2] at h0
  have HP := Lib.hid hpl2
  have HNE := Lib.hid hne
  clear h hb hpl2 hpl hne
  go_enter Tryz.func146, Tryz.ntmps146
  go_wp2_with fail
  go_end0
  refine ⟨rfl, ⟨?_, ?_, padB_bin HH.out.bin⟩, ⟨rfl, rfl, rfl, by simp, fun k hk hkB _ => heap_setCell_other _ _ _ _ hkB⟩⟩
  · rw [heap_setCell_same _ B 1 _ _ _ HH.out.blk, padB_len]; rfl
  · rw [pack_pad]
    exact ownsRow_setCell_other HH.out.own HNE.out _

theorem wbits_nil (V k : Int) (w : World) : Calls Tryz.prog 82 #[.pointer none, .int .u32 V, .int .i64 k] w fun e w' => e = .returned (.int .i64 1) ∧ w = w' := by
  go_enter Tryz.func82, Tryz.ntmps82
  go_wp2_with fail
  go_ret
  exact ⟨rfl, rfl⟩
theorem wbytes_nil (w : World) : Calls Tryz.prog 83 #[.pointer none] w fun e w' => e = .returned (.slice none 0 0) ∧ w = w' := by
  go_enter Tryz.func83, Tryz.ntmps83
  go_wp2_with fail
  go_ret
  exact ⟨rfl, rfl⟩
end Go.Proofs.YtpbijdoemdoijaaGreatDoor
end PkCa46_1
section PkCa46_2
/- The document's checksum (bit by bit), Seal and Open, walked: they are the same plain functions. Condition: at most 100,000 bytes. -/
namespace Go.Proofs.YtpbijdoemdoijaaGreatDoor
open Go.RowKit CrcPlain
set_option linter.unusedVariables false

theorem sbs_snoc (n c : Nat) : sbs (n + 1) c = sb (sbs n c) := by rw [sbs_add]; rfl

set_option maxRecDepth 100000 in
set_option maxHeartbeats 1000000 in
theorem rstep_any (c x : Nat) (hc : c < 4294967296) (hx : x < 256) (w : World) :
    Calls Tryz.prog 115 #[.int .u32 (c : Int), .int .u8 (x : Int)] w fun e w' => e = .returned (.int .u32 ((sbs 8 (c ^^^ x) : Nat) : Int)) ∧ w = w' := by
  have E1 := xor_nat c x hc (by omega)
  obtain ⟨q, hq⟩ : ∃ q, q = c ^^^ x := ⟨_, rfl⟩
  have hq32 : q < 4294967296 := by rw [hq]; exact Nat.xor_lt_two_pow (n := 32) hc (by omega)
  rw [← hq] at E1 ⊢
  have HQ := Lib.hid hq32
  clear hq hq32
  go_enter Tryz.func115, Tryz.ntmps115
  go_wp2_with fail
  clear E1
  go_loop [0, 5, 6] (fun s0 s5 s6 => ∃ k : Nat, k ≤ 8 ∧ s5 = .int .i64 k ∧ s0 = .int .u32 ((sbs k q : Nat) : Int)) (fun _ s5 _ => 8 - (intOf s5).toNat)
  case atStart => exact ⟨0, by omega, rfl, rfl⟩
  case round =>
    obtain ⟨k, hk, rfl, rfl⟩ := hrel
    by_cases hk8 : k < 8
    · have hn := sbs_snoc k q
      have h32 := sbs_lt k q HQ.out
      obtain ⟨r, hr⟩ : ∃ r, r = sbs k q := ⟨_, rfl⟩
      rw [← hr] at hn h32 ⊢
      by_cases ho : r % 2 = 1
      · have E2 := xor_nat (r / 2) 3988292384 (by omega) (by omega)
        have E2' : bits .xor .u32 ((r : Int) / 2) 3988292384 = ((sb r : Nat) : Int) := by
          have : sb r = (r / 2) ^^^ 3988292384 := by unfold sb; rw [if_pos ho]
          rw [this]; exact E2
        have hb : ((r : Int) % 2 == 1) = true := by rw [beq_iff_eq]; omega
        have HN := Lib.hid hn
        clear hn hr ho E2
        go_wp2_with fail
        go_round
        case rel => exact ⟨k + 1, by omega, by go_num, by rw [HN.out]⟩
        case measure => simp [intOf]; omega
      · have hs : sb r = r / 2 := by unfold sb; rw [if_neg ho, Nat.xor_zero]
        have hb : ((r : Int) % 2 == 1) = false := by rw [beq_eq_false_iff_ne]; omega
        have HN := Lib.hid hn
        have HS := Lib.hid hs
        clear hn hr ho hs
        go_wp2_with fail
        go_round
        case rel => exact ⟨k + 1, by omega, by go_num, by rw [HN.out, HS.out]; push_cast; rfl⟩
        case measure => simp [intOf]; omega
    · obtain rfl : k = 8 := by omega
      go_wp2_with fail
      go_ret
      exact ⟨rfl, rfl⟩

set_option maxRecDepth 100000 in
set_option maxHeartbeats 1000000 in
theorem rsum_any {w : World} {a : Option Addr} {n c : Nat} {xs : List Nat} (h : BytesAt w a n c xs) :
    Calls Tryz.prog 72 #[.slice a n c] w fun e w' => e = .returned (.int .u32 ((crcN xs : Nat) : Int)) ∧ w = w' := by
  have HH := Lib.hid h
  have hcap := h.cap
  have hcm := h.capm
  have HBY := Lib.hid h.byte
  clear h
  go_enter Tryz.func72, Tryz.ntmps72
  go_wp2_with fail
  go_loop [3, 5, 8] (fun s3 s5 s8 => ∃ k : Nat, k ≤ n ∧ s8 = .int .i64 k ∧ s3 = .int .u32 ((reg 4294967295 (xs.take k) : Nat) : Int)) (fun _ _ s8 => n - (intOf s8).toNat)
  case atStart => exact ⟨0, by omega, rfl, rfl⟩
  case round =>
    obtain ⟨k, hk, rfl, rfl⟩ := hrel
    have hlen := HH.out.len
    obtain ⟨q, hq⟩ : ∃ q, q = reg 4294967295 (xs.take k) := ⟨_, rfl⟩
    have hq32 : q < 4294967296 := by rw [hq]; exact reg_lt _ _ (fun x hx => HBY.out x (List.mem_of_mem_take hx)) (by decide)
    rw [← hq]
    by_cases hkn : k < n
    · obtain ⟨b, off, rfl, hlt, hc⟩ := HH.out.cells (by omega)
      have hck := hc k hkn
      obtain ⟨x, hx⟩ : ∃ x, x = xs.getD k 0 := ⟨_, rfl⟩
      have h1 : k < xs.length := by omega
      have hx256 : x < 256 := by
        have : xs.getD k 0 = xs[k] := by simp [h1]
        rw [hx, this]
        exact HBY.out _ (List.getElem_mem h1)
      rw [← hx] at hck
      have htk : xs.take (k + 1) = xs.take k ++ [x] := by
        rw [List.take_add_one, List.getElem?_eq_getElem h1, hx]; simp [h1]
      have hend : sbs 8 (q ^^^ x) = reg 4294967295 (xs.take (k + 1)) := by rw [htk, reg_snoc, ← hq]
      have HE := Lib.hid hend
      have HC := Lib.hid (rstep_any q x hq32 hx256 w)
      clear hc hx htk hq hend hlen
      go_wp2_with fail
      refine HC.out.mono ?_
      rintro e w1 ⟨rfl, rfl⟩
      go_wp2_with fail
      go_round
      case rel => exact ⟨k + 1, by omega, by go_num, by rw [← HE.out]⟩
      case measure => simp [intOf]; omega
    · have hkn2 : k = n := by omega
      have hfull : xs.take k = xs := List.take_of_length_le (by omega)
      have E6 := not_nat q hq32
      have he : 4294967295 ^^^ q = crcN xs := by rw [hq, hfull]; rfl
      have HQ := Lib.hid he
      clear hq hq32 hfull he hlen
      go_wp2_with fail
      go_ret
      rw [← HQ.out]
      exact ⟨rfl, rfl⟩

set_option maxHeartbeats 1000000 in
theorem four_any (s : Nat) (hs : s < 4294967296) (w : World) :
    Calls Tryz.prog 71 #[.int .u32 (s : Int)] w fun e w' => e = .returned (.slice (some ⟨w.heap.size, 0, none⟩) 4 4) ∧ BytesAt w' (some ⟨w.heap.size, 0, none⟩) 4 4 (le s 4) ∧ Below w.heap.size w w' := by
  go_enter Tryz.func71, Tryz.ntmps71
  go_wp2_with fail
  go_ret
  refine ⟨rfl, ?_, (Below.refl _ _).alloc (Nat.le_refl _) _⟩
  have hl : le s 4 = [s % 256, s / 256 % 256, s / 65536 % 256, s / 16777216] := by
    have h4 : s / 16777216 % 256 = s / 16777216 := Nat.mod_eq_of_lt (by omega)
    simp [le, List.range_succ, h4]
  rw [hl]
  exact BytesAt.lit w _ [s % 256, s / 256 % 256, s / 65536 % 256, s / 16777216] (by simp [bv]) (by
    intro x hx
    simp only [List.mem_cons, List.not_mem_nil, or_false] at hx
    rcases hx with rfl | rfl | rfl | rfl <;> omega) (by simp) (by simp)

set_option maxRecDepth 100000 in
set_option maxHeartbeats 1000000 in
theorem rseal_any {w : World} {a : Option Addr} {n c : Nat} {xs : List Nat} (h : BytesAt w a n c xs) (hn : n ≤ 100000) :
    Calls Tryz.prog 38 #[.slice a n c] w fun e w' => ∃ a' c', e = .returned (.slice a' (n + 4) c') ∧ BytesAt w' a' (n + 4) c' (sealed xs) ∧ Below w.heap.size w w' := by
  have HT := Lib.hid (twin h)
  have HH := Lib.hid h
  have hs := crcN_lt xs h.byte
  have HBX := Lib.hid h.byte
  have HS := Lib.hid hs
  clear h hs
  go_enter Tryz.func38, Tryz.ntmps38
  go_wp2_with fail
  refine HT.out.mono ?_
  rintro e w1 ⟨g, k, rfl, hg1, hg2, hown, hby, hb1⟩
  have HB1 := Lib.hid hb1
  have HR := Lib.hid (rsum_any (HH.out.kept hb1))
  have HO := Lib.hid hown
  clear hb1 hown hby
  go_wp2_with fail
  refine HR.out.mono ?_
  rintro e w2 ⟨rfl, rfl⟩
  go_wp2_with fail
  refine (four_any _ HS.out _).mono ?_
  rintro e w2 ⟨rfl, hb4, hb2⟩
  have HB2 := Lib.hid (HB1.out.trans (hb2.mono HB1.out.size))
  have HF := Lib.hid hb4
  have hgo := own_below HO.out hb2
  have hbs := HB2.out.size
  clear hb2 hb4
  go_wp2_with (at_builtin; refine wpList_append_bytes rfl (.tmp 4) (.tmp 7) rfl w.heap.size _ _ _ rfl hgo _ _ _ _ rfl HF.out (by omega) hbs ?_)
  intro v' w3 hown' hgrow
  have HB3 := Lib.hid (HB2.out.grown hgrow hbs (fun k hk => (hgo.lt k hk).1))
  have HO3 := Lib.hid hown'
  clear hown' hgrow hgo
  have hby : ∀ x ∈ xs ++ le (crcN xs) 4, x < 256 := by
    intro x hx
    rcases List.mem_append.1 hx with g | g
    · exact HBX.out x g
    · exact le_byte _ 4 x g
  obtain ⟨a', c', rfl, hba, hfa⟩ := BytesAt.ofOwn HO3.out hby (by omega)
  have HBA := Lib.hid hba
  clear hba hby
  go_wp2_with fail
  go_ret
  exact ⟨a', c', rfl, HBA.out, HB3.out⟩

set_option maxRecDepth 100000 in
set_option maxHeartbeats 1000000 in
theorem ropen_any {w : World} {a : Option Addr} {n c : Nat} {xs : List Nat} (h : BytesAt w a n c xs) (hn : n ≤ 100000) :
    Calls Tryz.prog 89 #[.slice a n c] w fun e w' => ∃ a' m' c', e = .returned (.tuple #[.slice a' m' c', .int .i64 ((op xs).2 : Int)]) ∧ BytesAt w' a' m' c' (op xs).1 ∧ Below w.heap.size w w' := by
  have hlen := h.len
  have hempty : ∀ w, BytesAt w none 0 0 [] := fun w => BytesAt.empty w none 0 (by omega) (fun _ => rfl)
  have HEM := Lib.hid hempty
  have hcap := h.cap
  have hcm := h.capm
  have HL := Lib.hid hlen
  clear hempty hlen
  by_cases h4 : n < 4
  · have HO := Lib.hid (show op xs = ([], 3) by unfold op; rw [if_pos (by rw [HL.out]; exact h4)])
    have h4' : (n : Int) < 4 := by omega
    clear h
    go_enter Tryz.func89, Tryz.ntmps89
    go_wp2_with fail
    go_ret2
    rw [HO.out]
    exact ⟨none, 0, 0, rfl, HEM.out _, Below.refl _ _⟩
  · obtain ⟨m, rfl⟩ : ∃ m, n = m + 4 := ⟨n - 4, by omega⟩
    have e1 : IntKind.i64.wrap (((m + 4 : Nat) : Int) - 4) = (m : Int) := by rw [IntWalk.i64_in _ (by omega)]; omega
    have h4' : (4 : Int) ≤ ((m + 4 : Nat) : Int) := by omega
    have HU := Lib.hid (h.upto m (by omega))
    have HS := Lib.hid (rseal_any HU.out (by omega))
    have HH := Lib.hid h
    have ho : op xs = if sealed (xs.take m) = xs then (xs.take m, 0) else ([], 6) := by
      unfold op; rw [if_neg (by rw [HL.out]; omega), HL.out]; rfl
    have HO := Lib.hid ho
    clear h ho h4
    go_enter Tryz.func89, Tryz.ntmps89
    go_wp2_with fail
    refine HS.out.mono ?_
    rintro e w1 ⟨a1, c1, rfl, hb1, hbel1⟩
    have HB1 := Lib.hid hb1
    have HBE1 := Lib.hid hbel1
    clear hb1 hbel1
    go_wp2_with fail
    refine (same_any HB1.out (HH.out.kept HBE1.out)).mono ?_
    rintro e w2 ⟨rfl, rfl⟩
    by_cases heq : sealed (xs.take m) = xs
    · have hv : (sealed (xs.take m) == xs) = true := by rw [heq]; exact beq_self_eq_true _
      rw [hv]
      have HV := Lib.hid (show op xs = (xs.take m, 0) by rw [HO.out, if_pos heq])
      clear heq hv
      go_wp2_with fail
      refine (twin (HU.out.kept HBE1.out)).mono ?_
      rintro e w2 ⟨g, k, rfl, hg1, hg2, hown, hby, hb1⟩
      have HB2 := Lib.hid (HBE1.out.trans (hb1.mono HBE1.out.size))
      have HY := Lib.hid hby
      clear hown hby hb1
      go_wp2_with fail
      go_ret2
      rw [HV.out]
      exact ⟨_, _, _, rfl, HY.out, HB2.out⟩
    · have hv : (sealed (xs.take m) == xs) = false := by rw [beq_eq_false_iff_ne]; exact heq
      rw [hv]
      have HV := Lib.hid (show op xs = ([], 6) by rw [HO.out, if_neg heq])
      clear heq hv
      go_wp2_with fail
      go_ret2
      rw [HV.out]
      exact ⟨none, 0, 0, rfl, HEM.out _, HBE1.out⟩
end Go.Proofs.YtpbijdoemdoijaaGreatDoor
end PkCa46_2
section PkCa46_3
/- The document's lengths and distances (entrepotref06.Length, Distance, Extra; entrepotref07.length, distance), walked: the program's. -/
namespace Go.Proofs.YtpbijdoemdoijaaGreatDoor
open Go.RowKit BitsPlain
set_option linter.unusedVariables false

def lb : Nat → Nat × Nat
  | 0 => (11, 1)
  | i + 1 => ((lb i).1 + 2 ^ (lb i).2, if (i + 8) % 4 = 3 then (lb i).2 + 1 else (lb i).2)
theorem lb_le {i : Nat} (h : i < 20) : (lb i).1 ≤ 300 ∧ (lb i).2 ≤ 6 := by
  have : ∀ i, i < 20 → (lb i).1 ≤ 300 ∧ (lb i).2 ≤ 6 := by decide +kernel
  exact this i h
def lenB (s : Nat) : Nat × Nat := if s < 8 then (s + 3, 0) else lb (s - 8)
def exB (d : Nat) : Nat := if d < 4 then 0 else d / 2 - 1
def db : Nat → Nat
  | 0 => 1
  | i + 1 => db i + 2 ^ exB i
theorem db_le {d : Nat} (h : d < 30) : db d ≤ 32768 ∧ exB d ≤ 13 := by
  have : ∀ d, d < 30 → db d ≤ 32768 ∧ exB d ≤ 13 := by decide +kernel
  exact this d h

set_option maxRecDepth 100000 in
set_option maxHeartbeats 2000000 in
theorem rlen06_any {w : World} {s : Nat} (h : s < 28) :
    Calls Tryz.prog 155 #[.int .i64 (s : Int)] w fun e w' => e = .returned (.tuple #[.int .i64 ((lenB s).1 : Int), .int .i64 ((lenB s).2 : Int)]) ∧ w = w' := by
  by_cases h8 : s < 8
  · have e : lenB s = (s + 3, 0) := if_pos h8
    have h8i : (s : Int) < 8 := by omega
    rw [e]
    go_enter Tryz.func155, Tryz.ntmps155
    go_wp2_with fail
    first | go_ret2 | go_ret
    exact ⟨by go_num, rfl⟩
  · obtain ⟨t, ht1, ht2⟩ : ∃ t, s ≤ 8 + t ∧ 8 + t ≤ s := ⟨s - 8, by omega, by omega⟩
    have HE := Lib.hid (show lenB s = lb t from by unfold lenB; rw [if_neg h8, show s - 8 = t from by omega])
    have h8i : ¬ (s : Int) < 8 := by omega
    have h28 : ¬ (s : Int) = 28 := by omega
    go_enter Tryz.func155, Tryz.ntmps155
    go_wp2_with fail
    go_loop [4, 5, 6] (fun s4 s5 s6 => ∃ k j b m : Nat, k ≤ t ∧ j ≤ 8 + k ∧ 8 + k ≤ j ∧ s6 = .int .i64 (j : Int) ∧ s4 = .int .i64 (b : Int) ∧ s5 = .int .i64 (m : Int) ∧ Hid (lb k = (b, m))) (fun _ _ s6 => s - (intOf s6).toNat)
    case atStart => exact ⟨0, 8, 11, 1, by omega, by omega, by omega, rfl, rfl, rfl, Lib.hid rfl⟩
    case round =>
      obtain ⟨k, j, b, m, hk, hj1, hj2, rfl, rfl, rfl, HB⟩ := hrel
      have hle := lb_le (i := k) (by omega)
      rw [HB.out] at hle
      by_cases hkt : j < s
      · obtain ⟨hb3, hm6⟩ := hle
        have hji : (j : Int) < (s : Int) := by omega
        obtain ⟨p, hp⟩ : ∃ p, p = 2 ^ m := ⟨_, rfl⟩
        have hp64 : p ≤ 64 := by rw [hp]; exact Nat.pow_le_pow_right (n := 2) (by omega) (show m ≤ 6 from hm6)
        have hpi : (2 : Int) ^ m = (p : Int) := by rw [hp]; push_cast; rfl
        have HN := Lib.hid (show lb (k + 1) = (b + p, if j % 4 = 3 then m + 1 else m) from by
          have : k + 8 = j := by omega
          rw [lb, HB.out, hp, this])
        clear hp
        by_cases h4 : j % 4 = 3
        · have h4i : (j : Int) % 4 = 3 := by omega
          have e := HN.out
          rw [if_pos h4] at e
          have HNN := Lib.hid e
          clear e h4
          go_wp2_with fail
          go_round
          case rel => exact ⟨k + 1, j + 1, b + p, m + 1, by omega, by omega, by omega, by go_num, by go_num, by go_num, HNN⟩
          case measure => simp [intOf]; omega
        · have h4i : ¬ (j : Int) % 4 = 3 := by omega
          have e := HN.out
          rw [if_neg h4] at e
          have HNN := Lib.hid e
          clear e h4
          go_wp2_with fail
          go_round
          case rel => exact ⟨k + 1, j + 1, b + p, m, by omega, by omega, by omega, by go_num, by go_num, rfl, HNN⟩
          case measure => simp [intOf]; omega
      · have hji : ¬ (j : Int) < (s : Int) := by omega
        have HEE := Lib.hid (show lenB s = (b, m) from by
          have : k = t := by omega
          rw [HE.out, ← this, HB.out])
        go_wp2_with fail
        first | go_ret2 | go_ret
        rw [HEE.out]
        exact ⟨rfl, rfl⟩

set_option maxRecDepth 100000 in
set_option maxHeartbeats 2000000 in
theorem rextra_any {w : World} {d : Nat} (h : d < 30) :
    Calls Tryz.prog 172 #[.int .i64 (d : Int)] w fun e w' => e = .returned (.int .i64 ((exB d : Nat) : Int)) ∧ w = w' := by
  by_cases h4 : d < 4
  · have e : exB d = 0 := if_pos h4
    have h4i : (d : Int) < 4 := by omega
    rw [e]
    go_enter Tryz.func172, Tryz.ntmps172
    go_wp2_with fail
    go_ret
    exact ⟨by go_num, rfl⟩
  · have e : exB d = d / 2 - 1 := if_neg h4
    have h4i : ¬ (d : Int) < 4 := by omega
    obtain ⟨y, hy⟩ : ∃ y, y = exB d := ⟨_, rfl⟩
    have hq : IntKind.i64.wrap ((d : Int) / 2 - 1) = (y : Int) := by rw [IntWalk.i64_in _ (by omega)]; omega
    have hq2 : (d : Int) / 2 - 1 = (y : Int) := by omega
    rw [← hy]
    clear e hy
    go_enter Tryz.func172, Tryz.ntmps172
    go_wp2_with fail
    go_ret
    exact ⟨by go_num, rfl⟩

set_option maxRecDepth 100000 in
set_option maxHeartbeats 2000000 in
theorem rdist06_any {w : World} {d : Nat} (h : d < 30) :
    Calls Tryz.prog 156 #[.int .i64 (d : Int)] w fun e w' => e = .returned (.tuple #[.int .i64 ((db d : Nat) : Int), .int .i64 ((exB d : Nat) : Int)]) ∧ w = w' := by
  go_enter Tryz.func156, Tryz.ntmps156
  go_wp2_with fail
  go_loop [4, 5] (fun s4 s5 => ∃ k b : Nat, k ≤ d ∧ s5 = .int .i64 (k : Int) ∧ s4 = .int .i64 (b : Int) ∧ Hid (db k = b)) (fun _ s5 => d - (intOf s5).toNat)
  case atStart => exact ⟨0, 1, by omega, rfl, rfl, Lib.hid rfl⟩
  case round =>
    obtain ⟨k, b, hk, rfl, rfl, HB⟩ := hrel
    have hle := db_le (d := k) (by omega)
    rw [HB.out] at hle
    obtain ⟨hb3, hm6⟩ := hle
    by_cases hkt : k < d
    · have hji : (k : Int) < (d : Int) := by omega
      have HX := Lib.hid (rextra_any (w := w) (d := k) (by omega))
      obtain ⟨m, hm⟩ : ∃ m, m = exB k := ⟨_, rfl⟩
      rw [← hm] at HX hm6
      obtain ⟨p, hp⟩ : ∃ p, p = 2 ^ m := ⟨_, rfl⟩
      have hp64 : p ≤ 8192 := by rw [hp]; exact Nat.pow_le_pow_right (n := 2) (by omega) (show m ≤ 13 from hm6)
      have hpi : (2 : Int) ^ m = (p : Int) := by rw [hp]; push_cast; rfl
      have HN := Lib.hid (show db (k + 1) = b + p from by rw [db, HB.out, hp, hm])
      clear hp hm
      go_wp2_with fail
      refine HX.out.mono ?_
      rintro e w2 ⟨rfl, rfl⟩
      go_wp2_with fail
      go_round
      case rel => exact ⟨k + 1, b + p, by omega, by go_num, by go_num, HN⟩
      case measure => simp [intOf]; omega
    · obtain rfl : k = d := by omega
      have hji : ¬ (k : Int) < (k : Int) := by omega
      have HX := Lib.hid (rextra_any (w := w) (d := k) (by omega))
      go_wp2_with fail
      refine HX.out.mono ?_
      rintro e w2 ⟨rfl, rfl⟩
      go_wp2_with fail
      first | go_ret2 | go_ret
      rw [HB.out]
      exact ⟨rfl, rfl⟩
end Go.Proofs.YtpbijdoemdoijaaGreatDoor
end PkCa46_3
