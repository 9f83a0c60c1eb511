/- The document's Put (layer 2), walked once more: the row is the call's own; a word behind a row of its own (entrepotref07.code). (rput_own is written out of XBitsRPut.) -/
import Derived.Test.YtachikilcfdngaaBitsRPad
import Derived.Test.YtachikilcfdngaaPrefRefWords
import Derived.Maps.AppendAt
namespace Go.Proofs.Ytachikilcfdngaa
open Go.RowKit BitsPlain
set_option linter.unusedVariables false

set_option maxRecDepth 100000 in
set_option maxHeartbeats 4000000 in
theorem rput_own {w : World} {a : Option Addr} {n c : Nat} {l : List Nat} (h : BoolsAt w a n c (rowOf l)) (hn : n ≤ 100000) (V : Nat) (hV : V < 4294967296) (k : Nat) (hk : k ≤ 32) (code : Bool) :
    Calls Try.prog 20 #[.slice a n c, .int .u32 (V : Int), .int .i64 (k : Int), .bool code] w fun e w' => ∃ v, e = .returned v ∧ w'.ownsRow w.heap.size 4 1 v (n + k) (bl (rowOf (l ++ putBits V k code k))) ∧ Below w.heap.size w w' := by
  obtain ⟨i0, hi, hz0, hz1, hz2⟩ := info_parts info_bool
  have hown0 := World.ownsRow_lit (base := w.heap.size) (e := 4) (size := 1) w #[] 0 (Nat.le_refl _) (by unfold maxLen; omega) rfl
  have HH := Lib.hid (h.kept ((Below.refl _ _).alloc (Nat.le_refl _) (.cells #[] 4)))
  have HV := Lib.hid hV
  have HO0 := Lib.hid hown0
  clear h hV hown0
  go_enter Try.func20, Try.ntmps20
  go_wp2_with (at_builtin; refine wpList_append_bools rfl (.tmp 14) (.tmp 15) rfl w.heap.size _ _ [] rfl HO0.out _ _ _ _ rfl HH.out (by omega) (by simp) ?_)
  intro v1 w1 hown1 hgrow1
  have hb1 : Below w.heap.size w w1 := ((Below.refl _ _).alloc (Nat.le_refl _) _).grown hgrow1 (by simp) (fun k hk => by simp [Value.ownBlock] at hk; omega)
  have hown2 : w1.ownsRow w.heap.size 4 1 v1 (n + 0) (bl (rowOf (l ++ putBits V k code 0))) := by
    have e : putBits V k code 0 = [] := List.eq_nil_of_length_eq_zero (putBits_len _ _ _ _)
    rw [e]
    simpa using hown1
  have HO2 := Lib.hid hown2
  have HB1 := Lib.hid hb1
  clear hown1 hgrow1 hb1 hown2
  go_wp2_with fail
  go_loopw [9, 10] (fun s9 s10 wr => ∃ i : Nat, i ≤ k ∧ s10 = .int .i64 i ∧ Hid (wr.ownsRow w.heap.size 4 1 s9 (n + i) (bl (rowOf (l ++ putBits V k code i)))) ∧ Hid (Below w.heap.size w wr)) (fun _ s10 _ => k - (intOf s10).toNat)
  case atStart => exact ⟨0, by omega, rfl, HO2, HB1⟩
  case round =>
    obtain ⟨i, hik, rfl, HO, HB⟩ := hrel
    rename World => wr
    by_cases hlt : i < k
    · obtain ⟨K, hK⟩ : ∃ K : Nat, K = if code then k - 1 - i else i := ⟨_, rfl⟩
      have hs := putBits_succ V k code i
      rw [← hK] at hs
      have HS := Lib.hid hs
      have hK31 : K ≤ 31 := by rw [hK]; split <;> omega
      have fin : ∀ (act : Act), True := fun _ => trivial
      clear fin hs
      cases code
      · have hKi : K = i := by rw [hK]; rfl
        clear hK
        subst hKi
        go_wp2_with fail
        go_loop [12, 13] (fun s12 s13 => ∃ j : Nat, j ≤ K ∧ s13 = .int .i64 j ∧ s12 = .int .u32 ((V / 2 ^ j : Nat) : Int)) (fun _ s13 => K - (intOf s13).toNat)
        case atStart => exact ⟨0, by omega, rfl, by simp⟩
        case round =>
          obtain ⟨j, hj, rfl, rfl⟩ := hrel
          by_cases hjK : j < K
          · obtain ⟨y, hy⟩ : ∃ y, y = V / 2 ^ j := ⟨_, rfl⟩
            have hy32 : y ≤ 4294967295 := by rw [hy]; have h1 := Nat.div_le_self V (2 ^ j); have h2 := HV.out; omega
            rw [← hy]
            have HY := Lib.hid hy
            clear hy
            go_wp2_with fail
            go_round
            case rel =>
              refine ⟨j + 1, by omega, by go_num, ?_⟩
              rw [show V / 2 ^ (j + 1) = y / 2 from by rw [HY.out, Nat.div_div_eq_div_mul, ← Nat.pow_succ]]
              go_num
            case measure => simp [intOf]; omega
          · have hjK2 : j = K := by omega
            subst hjK2
            obtain ⟨y, hy⟩ : ∃ y, y = V / 2 ^ j := ⟨_, rfl⟩
            have hy32 : y ≤ 4294967295 := by rw [hy]; have h1 := Nat.div_le_self V (2 ^ j); have h2 := HV.out; omega
            rw [← hy]
            have HY := Lib.hid hy
            have hown := HO.out
            have hbs := HB.out.size
            clear hy
            go_wp2_with (at_builtin; refine wpList_append_own _ rfl (.tmp 36) (.tmp 40) 28 rfl w.heap.size 4 i0 (.bool false) 1 1 Try.underlying28 hi hz0 hz1 hz2 rfl (by decide) _ _ _ rfl (hown.alloc _) ⟨wr.heap.size, 0, none⟩ 1 1 [.bool ((y : Int) % 2 == 1)] rfl rfl (one_src _ _ _) (one_oneCell rfl) (by unfold maxLen; omega) (by omega) (by simp; omega) ?_)
            intro v' w2 hown' hgrow _
            have HO3 := Lib.hid hown'
            have HB3 := Lib.hid ((HB.out.alloc HB.out.size _).grown hgrow (by simp; omega) (fun k hk => (hown.lt k hk).1))
            clear hown' hgrow hown
            go_wp2_with fail
            go_roundw
            case rel =>
              refine ⟨j + 1, by omega, by go_num, Lib.hid ?_, HB3⟩
              have e1 : ((y : Int) % 2 == 1) = (V / 2 ^ j % 2 == 1) := by
                rw [← HY.out, Bool.eq_iff_iff, beq_iff_eq, beq_iff_eq]; omega
              have := HO3.out
              rw [e1] at this
              rw [HS.out, ← List.append_assoc, rowOf_app, bl_app]
              exact this
            case measure => simp [intOf]; omega
      · have hKi : (k : Int) - 1 - (i : Int) = (K : Int) := by rw [hK]; simp; omega
        clear hK
        go_wp2_with fail
        go_loop [12, 13] (fun s12 s13 => ∃ j : Nat, j ≤ K ∧ s13 = .int .i64 j ∧ s12 = .int .u32 ((V / 2 ^ j : Nat) : Int)) (fun _ s13 => K - (intOf s13).toNat)
        case atStart => exact ⟨0, by omega, rfl, by simp⟩
        case round =>
          obtain ⟨j, hj, rfl, rfl⟩ := hrel
          by_cases hjK : j < K
          · obtain ⟨y, hy⟩ : ∃ y, y = V / 2 ^ j := ⟨_, rfl⟩
            have hy32 : y ≤ 4294967295 := by rw [hy]; have h1 := Nat.div_le_self V (2 ^ j); have h2 := HV.out; omega
            rw [← hy]
            have HY := Lib.hid hy
            clear hy
            go_wp2_with fail
            go_round
            case rel =>
              refine ⟨j + 1, by omega, by go_num, ?_⟩
              rw [show V / 2 ^ (j + 1) = y / 2 from by rw [HY.out, Nat.div_div_eq_div_mul, ← Nat.pow_succ]]
              go_num
            case measure => simp [intOf]; omega
          · have hjK2 : j = K := by omega
            subst hjK2
            obtain ⟨y, hy⟩ : ∃ y, y = V / 2 ^ j := ⟨_, rfl⟩
            have hy32 : y ≤ 4294967295 := by rw [hy]; have h1 := Nat.div_le_self V (2 ^ j); have h2 := HV.out; omega
            rw [← hy]
            have HY := Lib.hid hy
            have hown := HO.out
            have hbs := HB.out.size
            clear hy
            go_wp2_with (at_builtin; refine wpList_append_own _ rfl (.tmp 36) (.tmp 40) 28 rfl w.heap.size 4 i0 (.bool false) 1 1 Try.underlying28 hi hz0 hz1 hz2 rfl (by decide) _ _ _ rfl (hown.alloc _) ⟨wr.heap.size, 0, none⟩ 1 1 [.bool ((y : Int) % 2 == 1)] rfl rfl (one_src _ _ _) (one_oneCell rfl) (by unfold maxLen; omega) (by omega) (by simp; omega) ?_)
            intro v' w2 hown' hgrow _
            have HO3 := Lib.hid hown'
            have HB3 := Lib.hid ((HB.out.alloc HB.out.size _).grown hgrow (by simp; omega) (fun k hk => (hown.lt k hk).1))
            clear hown' hgrow hown
            go_wp2_with fail
            go_roundw
            case rel =>
              refine ⟨i + 1, by omega, by go_num, Lib.hid ?_, HB3⟩
              have e1 : ((y : Int) % 2 == 1) = (V / 2 ^ j % 2 == 1) := by
                rw [← HY.out, Bool.eq_iff_iff, beq_iff_eq, beq_iff_eq]; omega
              have := HO3.out
              rw [e1] at this
              rw [HS.out, ← List.append_assoc, rowOf_app, bl_app]
              exact this
            case measure => simp [intOf]; omega
    · have hik2 : i = k := by omega
      subst hik2
      obtain ⟨a', c', rfl, hba, hfa⟩ := BoolsAt.ofOwn HO.out (by omega)
      clear hba
      go_wp2_with fail
      go_ret
      exact ⟨_, rfl, HO.out, HB.out⟩

/-- since w0, only what r names and what is new has changed; v lies in one of these -/
structure Og (w0 : World) (r : Option Nat) (w : World) (v : Value) : Prop where
  g : w0.grownBy w r
  o : ∀ k, v.ownBlock = some k → r = some k ∨ w0.heap.size ≤ k
theorem Og.refl (w0 : World) (v : Value) : Og w0 v.ownBlock w0 v := ⟨World.grownBy.refl _ _, fun k hk => .inl hk⟩
theorem Og.grow {w0 w w' : World} {r : Option Nat} {v : Value} (h : Og w0 r w v) (hg : w.grownBy w' v.ownBlock) : w0.grownBy w' r :=
  ⟨hg.os.trans h.g.os, hg.tape.trans h.g.tape, hg.output.trans h.g.output, Nat.le_trans h.g.size hg.size, fun i hi hr => by
    refine (hg.block i (Nat.lt_of_lt_of_le hi h.g.size) (fun e => ?_)).trans (h.g.block i hi hr)
    rcases h.o i e.symm with q | q
    · exact hr q.symm
    · omega⟩
theorem Og.append {w0 w w' : World} {r : Option Nat} {v v' : Value} (h : Og w0 r w v) (hg : w.grownBy w' v.ownBlock) (hat : v'.ownBlock = v.ownBlock ∨ ∃ g, v'.ownBlock = some g ∧ w.heap.size ≤ g) : Og w0 r w' v' :=
  ⟨h.grow hg, fun k hk => by
    rcases hat with e | ⟨g, e, hle⟩
    · exact h.o k (e ▸ hk)
    · rw [e] at hk
      cases hk
      exact .inr (Nat.le_trans h.g.size hle)⟩
theorem Og.below {w0 w w' : World} {r : Option Nat} {v : Value} (h : Og w0 r w v) (hb : Below w.heap.size w w') : Og w0 r w' v :=
  ⟨⟨hb.os.trans h.g.os, hb.tape.trans h.g.tape, hb.output.trans h.g.output, Nat.le_trans h.g.size hb.size, fun i hi hr => (hb.block i (Nat.lt_of_lt_of_le hi h.g.size)).trans (h.g.block i hi hr)⟩, h.o⟩
theorem Og.fresh {w0 w w' : World} {r : Option Nat} {v v' : Value} (h : Og w0 r w v) (hb : Below w.heap.size w w') (hv : ∀ k, v'.ownBlock = some k → w.heap.size ≤ k) : Og w0 r w' v' :=
  ⟨(h.below hb).g, fun k hk => .inr (Nat.le_trans h.g.size (hv k hk))⟩
theorem Og.trans {w0 w w' : World} {r : Option Nat} {v v' : Value} (h : Og w0 r w v) (k : Og w v.ownBlock w' v') : Og w0 r w' v' :=
  ⟨h.grow k.g, fun j hj => by
    rcases k.o j hj with e | e
    · exact h.o j e
    · exact .inr (Nat.le_trans h.g.size e)⟩

set_option maxRecDepth 100000 in
set_option maxHeartbeats 4000000 in
theorem code_any {w : World} {base n : Nat} {v : Value} {l : List Nat} (h : w.ownsRow base 4 1 v n (bl (rowOf l))) (hb : base ≤ w.heap.size) (hn : n ≤ 100000) (V m : Nat) (hm : m ≤ 15) :
    Calls Try.prog 55 #[v, .string (bs (txt V m))] w fun e w' => ∃ v', e = .returned v' ∧ w'.ownsRow base 4 1 v' (n + m) (bl (rowOf (l ++ codeOf V m m))) ∧ Og w v.ownBlock w' v' := by
  obtain ⟨i0, hi, hz0, hz1, hz2⟩ := info_parts info_bool
  have hsz : (bs (txt V m)).size = m := by rw [bs_size, txt_len]
  have hat : ∀ i (hi : i < (bs (txt V m)).size), ((bs (txt V m))[i]'hi).toNat = 48 + V / 2 ^ (m - 1 - i) % 2 := fun i hi => by
    rw [bs_at (txt_byte V m), txt_getD (by omega)]
  obtain ⟨s, hs⟩ : ∃ s, s = bs (txt V m) := ⟨_, rfl⟩
  rw [← hs] at hsz ⊢
  have HAT : Hid (∀ i (hi : i < s.size), (s[i]'hi).toNat = 48 + V / 2 ^ (m - 1 - i) % 2) := by subst hs; exact Lib.hid hat
  have HO := Lib.hid h
  have HB := Lib.hid hb
  clear hat hs h hb
  go_enter Try.func55, Try.ntmps55
  go_wp2_with fail
  go_loopw [0, 5] (fun s0 s5 wr => ∃ k : Nat, k ≤ m ∧ s5 = .int .i64 k ∧ Hid (wr.ownsRow base 4 1 s0 (n + k) (bl (rowOf (l ++ codeOf V m k)))) ∧ Hid (Og w v.ownBlock wr s0)) (fun _ s5 _ => m - (intOf s5).toNat)
  case atStart => exact ⟨0, by omega, rfl, Lib.hid (by rw [show codeOf V m 0 = [] from rfl, List.append_nil]; exact HO.out), Lib.hid (Og.refl _ _)⟩
  case round =>
    obtain ⟨k, hk, rfl, HR, HBR⟩ := hrel
    rename World => wr
    by_cases hkm : k < m
    · have hks : k < s.size := by omega
      have ha := HAT.out k hks
      obtain ⟨d, hd⟩ : ∃ d, d = V / 2 ^ (m - 1 - k) % 2 := ⟨_, rfl⟩
      have hd2 : d = 0 ∨ d = 1 := by omega
      have hc := codeOf_succ V m k
      rw [← hd] at ha hc
      have HC := Lib.hid hc
      have hown := HR.out
      have hbs := Nat.le_trans HB.out HBR.out.g.size
      clear hd hc
      rcases hd2 with rfl | rfl
      · have ha' : ((s[k]'hks).toNat : Int) = 48 := by omega
        clear ha
        go_wp2_with (at_builtin; refine wpList_append_own_at _ rfl (.tmp 12) (.tmp 17) 28 rfl base 4 i0 (.bool false) 1 1 Try.underlying28 hi hz0 hz1 hz2 rfl (by decide) _ _ _ rfl (hown.alloc _) ⟨wr.heap.size, 0, none⟩ 1 1 [.bool false] rfl rfl (one_src _ _ _) (one_oneCell rfl) (by unfold maxLen; omega) (by omega) (by simp; omega) ?_)
        intro v' w2 hown' hgrow _ hat
        have HO3 := Lib.hid (show w2.ownsRow base 4 1 v' (n + (k + 1)) (bl (rowOf (l ++ codeOf V m (k + 1)))) from by rw [HC.out, ← List.append_assoc, rowOf_app, bl_app]; exact hown')
        have HB3 := Lib.hid ((HBR.out.below ((Below.refl _ _).alloc (Nat.le_refl _) _)).append hgrow (hat.imp id (fun e => ⟨_, e, by simp⟩)))
        clear hown' hgrow hat hown
        go_wp2_with fail
        go_roundw
        case rel => exact ⟨k + 1, by omega, by go_num, HO3, HB3⟩
        case measure => simp [intOf]; omega
      · have ha' : ((s[k]'hks).toNat : Int) = 49 := by omega
        clear ha
        go_wp2_with (at_builtin; refine wpList_append_own_at _ rfl (.tmp 12) (.tmp 17) 28 rfl base 4 i0 (.bool false) 1 1 Try.underlying28 hi hz0 hz1 hz2 rfl (by decide) _ _ _ rfl (hown.alloc _) ⟨wr.heap.size, 0, none⟩ 1 1 [.bool true] rfl rfl (one_src _ _ _) (one_oneCell rfl) (by unfold maxLen; omega) (by omega) (by simp; omega) ?_)
        intro v' w2 hown' hgrow _ hat
        have HO3 := Lib.hid (show w2.ownsRow base 4 1 v' (n + (k + 1)) (bl (rowOf (l ++ codeOf V m (k + 1)))) from by rw [HC.out, ← List.append_assoc, rowOf_app, bl_app]; exact hown')
        have HB3 := Lib.hid ((HBR.out.below ((Below.refl _ _).alloc (Nat.le_refl _) _)).append hgrow (hat.imp id (fun e => ⟨_, e, by simp⟩)))
        clear hown' hgrow hat hown
        go_wp2_with fail
        go_roundw
        case rel => exact ⟨k + 1, by omega, by go_num, HO3, HB3⟩
        case measure => simp [intOf]; omega
    · obtain rfl : k = m := by omega
      have hnk : ¬ ((k : Int) < (k : Int)) := by omega
      go_wp2_with fail
      go_ret
      exact ⟨_, rfl, HR.out, HBR.out⟩
end Go.Proofs.Ytachikilcfdngaa
