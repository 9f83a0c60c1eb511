/- The walk of SqueezeRuns: it returns true for all bytes and numbers. -/
import Derived.Test.YtnfdojdppifmoaaDoorSqInf
namespace Go.Proofs.YtnfdojdppifmoaaDoor
open Go.RowKit PrefPlain BitsPlain InfPlain
set_option linter.unusedVariables false

namespace SqRun
theorem rep_get {n c i : Nat} (h : i < n) : (List.replicate n c).getD i 0 = c := by simp [h]
theorem rep_most (n c p : Nat) : most (List.replicate n c) p = min 258 (n - p) := by unfold most; rw [List.length_replicate]
theorem rep_like {n c p t : Nat} (ht : t ≤ p) (hp : p < n) : like (List.replicate n c) (p - t) p (most (List.replicate n c) p) = min 258 (n - p) := by
  rw [rep_most]
  exact like_full (fun k hk => by rw [rep_get (by omega), rep_get (by omega)])
theorem tok_run {n c p : Nat} (h1 : 1 ≤ p) (hp : p < n) : tokAt (List.replicate n c) p = if 3 ≤ n - p then (min 258 (n - p), 1, 0) else (0, 0, c) := by
  unfold tokAt
  simp only
  by_cases h3 : 3 ≤ n - p
  · have hb1 : bestD (List.replicate n c) p 1 = (min 258 (n - p), 1) := by
      rw [bestD_step, rep_like h1 hp, if_pos ⟨by omega, by show 0 < _; omega⟩]
    have hbe : bestD (List.replicate n c) p (min p 32768) = (min 258 (n - p), 1) := by
      have := bestD_full (b := List.replicate n c) (i := p) (d := 1) (by rw [hb1, rep_most]) (e := min p 32768 - 1)
      rw [show 1 + (min p 32768 - 1) = min p 32768 from by omega, hb1] at this
      exact this
    rw [hbe, if_neg (by simp only; omega), if_pos h3]
  · have hbe : bestD (List.replicate n c) p (min p 32768) = (0, 0) := by
      have := bestD_skip (b := List.replicate n c) (i := p) (d := 0) (e := min p 32768) (fun t ht1 ht2 => by rw [rep_like (by omega) hp]; omega)
      rw [Nat.zero_add] at this
      exact this
    rw [hbe, if_pos rfl, if_neg h3, rep_get hp]
theorem tb_run : ∀ m, m < 256 → (tbits (m + 3, 1, 0)).length ≤ 18 := by decide +kernel
theorem tb_full : (tbits (258, 1, 0)).length = 13 := by decide +kernel
theorem tb_byte (c : Nat) : (tbits (0, 0, c)).length ≤ 9 := by
  unfold tbits
  rw [if_pos rfl]
  exact lcode_len c
theorem run_len {n c : Nat} : ∀ (f p : Nat), 1 ≤ p → p ≤ n → ((toksFrom (List.replicate n c) f p).flatMap tbits).length ≤ if n - p < 3 then 9 * (n - p) else 13 * ((n - p) / 258) + 18
  | 0, p, _, _ => by rw [toksFrom]; simp
  | f + 1, p, h1, h2 => by
    rw [toksFrom, List.length_replicate]
    rcases Nat.lt_or_ge p n with hp | hp
    · rw [if_pos hp, List.flatMap_cons, List.length_append, tok_run h1 hp]
      by_cases h3 : 3 ≤ n - p
      · rw [if_pos h3, if_neg (show ¬ n - p < 3 by omega)]
        simp only
        rw [show max 1 (min 258 (n - p)) = min 258 (n - p) from by omega]
        have ih := run_len (n := n) (c := c) f (p + min 258 (n - p)) (by omega) (by omega)
        by_cases h8 : 258 ≤ n - p
        · rw [show min 258 (n - p) = 258 from by omega] at ih ⊢
          rw [tb_full]
          split at ih <;> omega
        · have ht := tb_run (n - p - 3) (by omega)
          rw [show n - p - 3 + 3 = n - p from by omega] at ht
          rw [show min 258 (n - p) = n - p from by omega] at ih ⊢
          rw [if_pos (by omega)] at ih
          omega
      · rw [if_neg h3, if_pos (show n - p < 3 by omega)]
        simp only
        have ht := tb_byte c
        have ih := run_len (n := n) (c := c) f (p + max 1 0) (by omega) (by omega)
        rw [if_pos (by omega)] at ih
        omega
    · rw [if_neg (by omega)]; simp
theorem fix_run {n c : Nat} : (pack (fxB (toks (List.replicate n c)))).length ≤ 8 + n / 80 := by
  rw [pack_length, SqInf.fxB_is, List.length_replicate]
  have h256 : (lcode 256).length = 7 := by decide
  simp only [List.length_append, bitsOf_length, h256]
  rcases Nat.eq_zero_or_pos n with h0 | hp
  · subst h0
    have : (toksFrom (List.replicate 0 c) 0 0) = [] := rfl
    rw [this]
    simp
  · obtain ⟨f, hf⟩ : ∃ f, n = f + 1 := ⟨n - 1, by omega⟩
    have e0 : tokAt (List.replicate n c) 0 = (0, 0, c) := by
      unfold tokAt
      simp only
      rw [show min 0 32768 = 0 from rfl, show bestD (List.replicate n c) 0 0 = (0, 0) from rfl, if_pos rfl, rep_get hp]
    have hl := run_len (n := n) (c := c) f (0 + max 1 0) (by omega) (by omega)
    have e1 : toksFrom (List.replicate n c) n 0 = (0, 0, c) :: toksFrom (List.replicate n c) f (0 + max 1 0) := by
      have e := e0
      rw [hf] at e ⊢
      rw [toksFrom, List.length_replicate, if_pos (by omega), e]
    rw [e1, List.flatMap_cons, List.length_append]
    have ht := tb_byte c
    split at hl <;> omega
theorem stor_ge : ∀ (f : Nat) (acc xs : List Nat), xs.length < f → acc.length + 8 * xs.length ≤ (storF f acc xs).length
  | 0, acc, xs, h => by omega
  | f + 1, acc, xs, h => by
    have hH : ∀ last m, acc.length ≤ (pieceH acc last m).length := fun last m => by
      unfold pieceH alg
      simp only [List.length_append]
      omega
    simp only [storF]
    split
    · unfold pieceB
      have := hH 1 xs.length
      rw [List.length_append, flat8_len]
      omega
    · have ih := stor_ge f (pieceB acc 0 (xs.take 65535)) (xs.drop 65535) (by rw [List.length_drop]; omega)
      unfold pieceB at ih ⊢
      have := hH 0 (xs.take 65535).length
      rw [List.length_append, flat8_len] at ih
      have e1 : (xs.take 65535).length = 65535 := by rw [List.length_take]; omega
      have e2 : (xs.drop 65535).length = xs.length - 65535 := List.length_drop
      omega
theorem inf_run {n c : Nat} (hc : c < 256) (hn : n ≤ 65536) {F : Nat} (hF : n < F) : inf F (dfl (List.replicate n c)) n = (List.replicate n c, (dfl (List.replicate n c)).length, 0) ∧ (dfl (List.replicate n c)).length ≤ 8 + n / 80 := by
  have hl : (List.replicate n c).length = n := List.length_replicate
  have hb : ∀ x ∈ List.replicate n c, x < 256 := fun x hx => by rw [List.eq_of_mem_replicate hx]; exact hc
  have hf := fix_run (n := n) (c := c)
  have hle : (dfl (List.replicate n c)).length ≤ 8 + n / 80 := by
    unfold dfl
    split <;> omega
  refine ⟨?_, hle⟩
  rcases Nat.lt_or_ge 65535 n with h | h
  · have hs : n ≤ (pack (storB (List.replicate n c))).length := by
      have := stor_ge ((List.replicate n c).length + 1) [] (List.replicate n c) (by omega)
      rw [pack_length]
      unfold storB
      rw [hl] at this ⊢
      omega
    have he : dfl (List.replicate n c) = pack (fxB (toks (List.replicate n c))) := by
      unfold dfl
      rw [if_neg (by omega)]
    rw [he]
    exact SqInf.inf_toks hb (by omega) (by omega)
  · exact (SqInf.inf_dfl hb (by omega) (by omega) (by omega)).1
end SqRun

/-- bytes in a block of their own -/
structure RB (w0 w : World) (g : Nat) (xs : List Nat) : Prop where
  cell : ∀ i, i < xs.length → w.cell? ⟨g, i, none⟩ = some (.int .u8 ((xs.getD i 0 : Nat) : Int))
  fr : ∀ i, i < xs.length → w.frozen? ⟨g, i, none⟩ = false
  below : Below w0.heap.size w0 w
  new : w0.heap.size ≤ g
  lt : g < w.heap.size
theorem RB.put {w0 w : World} {g : Nat} {xs : List Nat} (h : RB w0 w g xs) (i y : Nat) (hi : i < xs.length) : RB w0 (w.setCell ⟨g, i, none⟩ (.int .u8 (y : Int))) g (xs.set i y) := by
  refine ⟨fun k hk => ?_, fun k hk => ?_, h.below.setCell (p := ⟨g, i, none⟩) h.new _, h.new, by simpa [World.setCell] using h.lt⟩
  · rw [List.length_set] at hk
    by_cases e : i = k
    · subst e
      rw [World.cell?_setCell_same _ _ _ (h.cell i hi)]
      simp [hi]
    · rw [World.cell?_setCell_other _ _ _ _ (by intro e2; cases e2; exact e rfl), h.cell k hk]
      simp [e, hk]
  · rw [List.length_set] at hk
    rw [World.frozen?_setCell, h.fr k hk]
theorem RB.start (w : World) (n : Nat) : RB w (w.alloc (.cells (madeCells #[.int .u8 0] n) 5)) w.heap.size (List.replicate n 0) := by
  have hb := heap_alloc_new w (.cells (madeCells #[.int .u8 0] n) 5)
  refine ⟨fun t ht => ?_, fun t ht => frozen_of_row _ _ _ _ _ hb, (Below.refl _ _).alloc (Nat.le_refl _) _, Nat.le_refl _, (Array.getElem?_eq_some_iff.1 hb).1⟩
  rw [List.length_replicate] at ht
  rw [cell_of_row _ _ t _ _ _ hb, SqRun.rep_get ht]
  simp [madeCells, ht, Nat.mod_one]
theorem RB.bytes {w0 w : World} {g : Nat} {xs : List Nat} (h : RB w0 w g xs) (hb : ∀ x ∈ xs, x < 256) (hl : xs.length ≤ 70000) : BytesAt w (some ⟨g, 0, none⟩) xs.length xs.length xs :=
  ⟨rfl, Nat.le_refl _, hb, by omega, by omega, (fun e => by cases e), fun hp => ⟨g, 0, rfl, h.lt, fun i hi => by rw [Nat.zero_add]; exact h.cell i hi⟩⟩
theorem fill_at {M k c : Nat} (h : k < M) : (List.replicate k c ++ List.replicate (M - k) 0).length = M ∧ (List.replicate k c ++ List.replicate (M - k) 0).getD k 0 = 0 ∧ (List.replicate k c ++ List.replicate (M - k) 0).set k c = List.replicate (k + 1) c ++ List.replicate (M - (k + 1)) 0 := by
  have hl : (List.replicate k c).length = k := List.length_replicate
  refine ⟨by simp; omega, ?_, ?_⟩
  · rw [List.getD_eq_getElem?_getD, List.getElem?_append_right (by omega), hl, Nat.sub_self]
    simp [show 0 < M - k by omega]
  · rw [List.set_append_right _ _ (by omega), hl, Nat.sub_self, show M - k = (M - (k + 1)) + 1 from by omega, List.replicate_succ, List.set_cons_zero, List.replicate_succ', List.append_assoc]
    rfl

set_option maxRecDepth 100000 in
set_option maxHeartbeats 2000000 in
theorem deflate_long {w : World} {a : Option Addr} {n c : Nat} (hn : 65536 < n) :
    Calls Tryd.prog 10 #[.slice a n c] w fun e w' => e = .returned (.tuple #[.slice none 0 0, .int .i64 5]) ∧ Below w.heap.size w w' := by
  have HT := Lib.hid (tokens_long (w := w) (a := a) (c := c) hn)
  go_enter Tryd.func10, Tryd.ntmps10
  go_wp2_with fail
  refine HT.out.mono ?_
  rintro e w1 ⟨rfl, hb1⟩
  have HB1 := Lib.hid hb1
  clear hb1
  go_wp2_with fail
  first | go_ret2 | go_ret
  exact ⟨rfl, HB1.out⟩

set_option maxRecDepth 100000 in
set_option maxHeartbeats 4000000 in
theorem squeezeRuns_walk (a0 a1 : Int) (w : World) (hO : Ordr w) (w0 : (Lit.int .u8 a0).wf = true) (w1 : (Lit.int .i64 a1).wf = true) :
    Calls Tryd.prog 5 #[.int .u8 a0, .int .i64 a1] w fun e w' => e = .returned (.bool true) ∧ Below w.heap.size w w' := by
  have hb0 := byte_of_wf w0
  obtain ⟨c, rfl⟩ : ∃ c : Nat, a0 = (c : Int) := ⟨a0.toNat, by omega⟩
  have hc : c < 256 := by omega
  have HL := Lib.hid (lives7_any (w := w))
  have HO := Lib.hid hO
  obtain ⟨U, hU⟩ : ∃ U : Nat, IntKind.u64.wrap a1 = (U : Int) := ⟨(a1 % 18446744073709551616).toNat, by rw [IntKind.wrap_u64]; omega⟩
  obtain ⟨M, hM⟩ : ∃ M : Nat, (U : Int) % 65540 = (M : Int) := ⟨U % 65540, by omega⟩
  have hM2 : (U : Int).tmod 65540 = (M : Int) := by rw [Int.tmod_eq_emod_of_nonneg (by omega)]; exact hM
  have hM3 : M < 65540 := by omega
  have hmk := run_make_row' (P := Tryd.prog) 22 5 (.int .u8 0) 1 Tryd.underlying22 info_u8 rfl .i64 .i64 M (by omega) (by omega)
  clear w0 w1 hO hb0
  go_enter Tryd.func5, Tryd.ntmps5
  go_wp2_with fail
  refine HL.out.mono ?_
  rintro e w1 ⟨rfl, hb1⟩
  have HB1 := Lib.hid hb1
  obtain ⟨w2, hw2⟩ : ∃ w2, w2 = w1.alloc (.cells (madeCells #[.int .u8 0] M) 5) := ⟨_, rfl⟩
  have hrb := RB.start w1 M
  rw [← hw2] at hrb
  have HR2 := Lib.hid hrb
  have HW2 := Lib.hid hw2
  clear hb1 hrb hw2
  go_wp2_with fail
  rw [← HW2.out]
  obtain ⟨G, hG⟩ : ∃ G, G = w1.heap.size := ⟨_, rfl⟩
  rw [← hG] at HR2
  rw [← hG]
  have HG := Lib.hid hG
  clear hG hmk
  go_loopw [6, 22] (fun s6 s22 wr => ∃ k : Nat, k ≤ M ∧ s22 = .int .i64 (k : Int) ∧ Hid (RB w1 wr G (List.replicate k c ++ List.replicate (M - k) 0))) (fun _ s22 _ => M - (intOf s22).toNat)
  case atStart => exact ⟨0, by omega, rfl, by rw [Nat.sub_zero, List.replicate_zero, List.nil_append]; exact HR2⟩
  case round =>
    obtain ⟨k, hk, rfl, HR⟩ := hrel
    rename World => wr
    by_cases hkM : k < M
    · have hki : (k : Int) < (M : Int) := by omega
      obtain ⟨f1, f2, f3⟩ := fill_at (c := c) hkM
      have hcell := HR.out.cell k (by rw [f1]; exact hkM)
      have hfr := HR.out.fr k (by rw [f1]; exact hkM)
      rw [f2] at hcell
      have hcell : wr.cell? ⟨G, k, none⟩ = some (.int .u8 0) := hcell
      have HP := HR.out.put k c (by rw [f1]; exact hkM)
      rw [f3] at HP
      have HP := Lib.hid HP
      clear f1 f2 f3
      go_wp2_with fail
      go_roundw
      case rel => exact ⟨k + 1, by omega, by go_num, HP⟩
      case measure => simp [intOf]; omega
    · obtain rfl : k = M := by omega
      have hr := HR.out
      rw [Nat.sub_self, List.replicate_zero, List.append_nil] at hr
      have hl : (List.replicate k c).length = k := List.length_replicate
      have hby : ∀ x ∈ List.replicate k c, x < 256 := fun x hx => by rw [List.eq_of_mem_replicate hx]; exact hc
      have hbb := hr.bytes hby (by omega)
      rw [hl] at hbb
      have HY := Lib.hid hbb
      have HBR := Lib.hid (HB1.out.trans (hr.below.mono HB1.out.size))
      have hkk : ¬ ((k : Int) < (k : Int)) := by omega
      clear hr hbb hkM
      by_cases hbig : 65536 < k
      · have hbi : (65536 : Int) < (k : Int) := by omega
        have HD := Lib.hid (deflate_long (w := wr) (a := some ⟨G, 0, none⟩) (c := k) hbig)
        clear hbig hl hby
        go_wp2_with fail
        refine HD.out.mono ?_
        rintro e w3 ⟨rfl, hb3⟩
        have HB3 := Lib.hid (HBR.out.trans (hb3.mono HBR.out.size))
        clear hb3
        go_wp2_with fail
        go_ret
        exact ⟨rfl, HB3.out⟩
      · have hbi : ¬ (65536 : Int) < (k : Int) := by omega
        obtain ⟨m, hm⟩ : ∃ m, m = (dfl (List.replicate k c)).length := ⟨_, rfl⟩
        obtain ⟨hi1, hi2⟩ := SqRun.inf_run (n := k) (c := c) hc (by omega) (F := 8 * m + 1 + k) (by omega)
        rw [← hm] at hi1 hi2
        obtain ⟨z, hz⟩ : ∃ z : Nat, (k : Int) / 80 = (z : Int) := ⟨k / 80, by omega⟩
        have hz2 : (k : Int).tdiv 80 = (z : Int) := by rw [Int.tdiv_eq_ediv_of_nonneg (by omega)]; exact hz
        have hz3 : z ≤ 1000 := by omega
        have hzm : (m : Int) ≤ 8 + (z : Int) := by omega
        have hm5 : m ≤ 2000 := by omega
        have HI := Lib.hid hi1
        have HM := Lib.hid hm
        have HD := Lib.hid (deflate_any HY.out (by omega))
        have HL2 := Lib.hid hl
        clear hi1 hi2 hm hbig hl hby
        go_wp2_with fail
        refine HD.out.mono ?_
        rintro e w3 ⟨a3, c3, rfl, h3, hb3⟩
        rw [← HM.out] at h3
        rw [← HM.out]
        have HB3 := Lib.hid (HBR.out.trans (hb3.mono HBR.out.size))
        have HY3 := Lib.hid (HY.out.kept hb3)
        have HIN := Lib.hid (inflate_any h3 (HO.out.below HB3.out) (8 * m + 1 + k) k (by rw [← HM.out]; omega) (by omega) (by omega))
        clear h3 hb3
        go_wp2_with fail
        refine HIN.out.mono ?_
        intro e w4 hout
        obtain ⟨a4, c4, rfl, h4, hb4⟩ := hout.at2 HI.out HL2.out (by omega)
        have HB4 := Lib.hid (HB3.out.trans (hb4.mono HB3.out.size))
        have hs := same_any h4 (HY3.out.kept hb4)
        rw [beq_self_eq_true] at hs
        have HS := Lib.hid hs
        clear hout h4 hb4 hs
        go_wp2_with fail
        refine HS.out.mono ?_
        rintro e w5 ⟨rfl, rfl⟩
        go_wp2_with fail
        go_ret
        exact ⟨rfl, HB4.out⟩
end Go.Proofs.YtnfdojdppifmoaaDoor
