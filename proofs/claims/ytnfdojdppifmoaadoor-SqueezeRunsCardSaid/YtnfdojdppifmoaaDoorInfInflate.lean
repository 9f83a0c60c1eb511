/- Package inflate: Inflate, walked: what it answers is inf's, for any fuel that is enough. -/
import Derived.Test.YtnfdojdppifmoaaDoorInfBlock
namespace Go.Proofs.YtnfdojdppifmoaaDoor
open Go.RowKit PrefPlain BitsPlain InfPlain
set_option linter.unusedVariables false

section
variable {xs : List Nat} {most p : Nat} {o : List Nat} {F g : Nat}
theorem blk_one {last q : Nat} {r : List Nat} (hp : p ≤ 8 * xs.length) (h : run xs most (blockR F) p o = .ok (last, q, r)) : p + 1 ≤ q := by
  rw [blockR, run_bind, run_bits _ _ _ _ _ hp] at h
  by_cases hl : 8 * xs.length < p + 1
  · rw [if_pos hl] at h; cases h
  · rw [if_neg hl] at h
    exact (run_le _ h).1
/-- behind a block -/
def InfThen (xs : List Nat) (most F g : Nat) (r : Except Nat (Nat × Nat × List Nat)) : Except Nat (Unit × Nat × List Nat) :=
  match r with
  | .error e => .error e
  | .ok (last, q, o) => if last = 1 then .ok ((), q, o) else run xs most (infR F g) q o
theorem inf_step : run xs most (infR F (g + 1)) p o = InfThen xs most F g (run xs most (blockR F) p o) := by
  rw [infR, run_bind]
  unfold InfThen
  cases run xs most (blockR F) p o with
  | error e => rfl
  | ok r =>
    obtain ⟨last, q, o1⟩ := r
    show run xs most (if _ then _ else _) q o1 = if _ then _ else _
    split
    · rfl
    · rfl
end
/-- what Inflate's answer is -/
def InfOut (F : Nat) (xs : List Nat) (most : Nat) (w : World) (e : Ending) (w' : World) : Prop :=
  ∃ v, e = .returned (.tuple #[v, .int .i64 (((inf F xs most).2.1 : Nat) : Int), .int .i64 (((inf F xs most).2.2 : Nat) : Int)]) ∧ w'.ownsRow w.heap.size 5 1 v (inf F xs most).1.length (bv (inf F xs most).1) ∧ (∀ x ∈ (inf F xs most).1, x < 256) ∧ Below w.heap.size w w'
theorem own_less {w : World} {b0 b1 : Nat} {e : TypeId} {size : Nat} {v : Value} {n : Nat} {ys : List Value} (h : w.ownsRow b0 e size v n ys) (hb : b1 ≤ b0) : w.ownsRow b1 e size v n ys := by
  refine ⟨h.1, ?_⟩
  rcases h.2 with h0 | ⟨g, cap, cur, he, hg, rest⟩
  · exact .inl h0
  · exact .inr ⟨g, cap, cur, he, Nat.le_trans hb hg, rest⟩
theorem inf_is_ok {F : Nat} {xs : List Nat} {most q : Nat} {r : List Nat} (h : run xs most (infR F F) 0 [] = .ok ((), q, r)) : inf F xs most = (r, (q + 7) / 8, 0) := by unfold inf; rw [h]
theorem inf_is_no {F : Nat} {xs : List Nat} {most e : Nat} (h : run xs most (infR F F) 0 [] = .error e) : inf F xs most = ([], 0, e) := by unfold inf; rw [h]
/-- the loop over blocks -/
structure Bl (xs : List Nat) (most F g q : Nat) (o : List Nat) : Prop where
  run : run xs most (infR F F) 0 [] = run xs most (infR F g) q o
  fuel : 8 * xs.length < q + g

set_option maxHeartbeats 1000000 in
theorem inflate_neg (a : Option Addr) (n c : Nat) (m : Int) (hm : m < 0) (w : World) :
    Calls Tryd.prog 7 #[.slice a n c, .int .i64 m] w fun e w' => e = .returned (.tuple #[.slice none 0 0, .int .i64 0, .int .i64 1]) ∧ w = w' := by
  go_enter Tryd.func7, Tryd.ntmps7
  go_wp2_with fail
  exact bodyPost_ret (v := .tuple #[.slice none 0 0, .int .i64 0, .int .i64 1]) (by simp [results, Tryd.results7, go_sem]) rfl ⟨rfl, rfl⟩

set_option maxRecDepth 100000 in
set_option maxHeartbeats 2000000 in
theorem inflate_any {w : World} {a : Option Addr} {n c : Nat} {xs : List Nat} (h : BytesAt w a n c xs) (hO : Ordr w) (F most : Nat) (hF : 8 * xs.length < F) (hm : most ≤ 65536) (hn : n ≤ 100000) :
    Calls Tryd.prog 7 #[.slice a n c, .int .i64 (most : Int)] w fun e w' => InfOut F xs most w e w' := by
  have HN := Lib.hid (rnew_any h)
  have HO := Lib.hid hO
  have hlen := h.len
  have HLEN := Lib.hid hlen
  have HF := Lib.hid hF
  clear h hO hF hlen
  go_enter Tryd.func7, Tryd.ntmps7
  go_wp2_with fail
  refine HN.out.mono ?_
  rintro e w2 ⟨R, a', c', rfl, hr2, hb2, hRw, hfr⟩
  have hRl := hr2.lt
  obtain ⟨B, hB⟩ : ∃ B, B = w2.heap.size := ⟨_, rfl⟩
  obtain ⟨w3, hw3⟩ : ∃ w3, w3 = w2.alloc (.cells #[.pointer (some ⟨R, 0, none⟩), .slice none 0 0, .int .i64 (most : Int), .pointer none, .pointer none] 41) := ⟨_, rfl⟩
  have hb3 : Below w2.heap.size w2 w3 := by rw [hw3]; exact (Below.refl _ _).alloc (Nat.le_refl _) _
  have hs3 : w3.heap.size = B + 1 := by rw [hw3, hB]; simp
  have hi3 : InAt w3 B R (B + 1) a' n c' xs 0 (.slice none 0 0) [] most none none := by
    refine ⟨⟨by rw [hw3, hB]; exact heap_alloc_new w2 _⟩, ⟨(hb3.block R hRl).trans hr2.blk, hr2.src.kept hb3, hr2.apart, hr2.le⟩, own_nil_bytes _ _, (fun x hx => by cases hx), Nat.zero_le _, hm, Nat.le_of_eq hs3.symm, Nat.lt_succ_self _, by omega, by omega, fun b off s hp he => ?_⟩
    obtain ⟨b', off', he', hlt, _⟩ := hr2.src.cells hp
    rw [he] at he'
    cases he'
    exact ⟨by omega, by omega⟩
  have hB0 : 0 < B := by have := HO.out.pos; have := hb2.size; omega
  have hR0 : 0 < R := by have := HO.out.pos; omega
  have hb13 : Below w.heap.size w w3 := hb2.trans (hb3.mono hb2.size)
  have hO3 : Ordr w3 := fun r hr => (hb13.cell (p := ⟨0, r, none⟩) HO.out.pos).trans (HO.out r hr)
  have HI3 := Lib.hid hi3
  have HO3 := Lib.hid hO3
  have HB13 := Lib.hid hb13
  have HW3 := Lib.hid hw3
  have HBB := Lib.hid hB
  have HBW := Lib.hid (show w.heap.size ≤ B by have := hb2.size; omega)
  clear hr2 hb2 hfr hb3 hi3 hb13 hO3 hw3 hB hs3 hRl
  go_wp2_with fail
  rw [← HW3.out, ← HBB.out]
  go_loopg [] F (fun g wr => ∃ (g' q : Nat) (v' : Value) (o' : List Nat) (fl fd : Option Addr), g = g' ∧ Hid (Bl xs most F g' q o') ∧ Hid (InAt wr B R (B + 1) a' n c' xs q v' o' most fl fd) ∧ Hid (Fr w3 wr B R (.slice none 0 0)) ∧ Hid (Went w3 (.slice none 0 0) v') ∧ Hid (Fx wr B R v' fl fd))
  case atStart => exact ⟨F, 0, _, [], none, none, rfl, Lib.hid ⟨rfl, by have := HF.out; omega⟩, HI3, Lib.hid (Fr.refl _ _ _ _), Lib.hid (Went.refl _ _), Lib.hid (.inl rfl)⟩
  case round =>
    obtain ⟨g', q, v', o', fl, fd, hg, HBL, HI, HFR, HW, HX⟩ := hrel
    rename World => wr
    obtain ⟨g2, rfl⟩ : ∃ g2, g' = g2 + 1 := ⟨g' - 1, by have := HBL.out.fuel; have := HI.out.pl; omega⟩
    have HGG := Lib.hid hg
    have hq := HI.out.pl
    have hOr := HO3.out.fr HFR.out hB0 hR0 (by simp [Value.ownBlock])
    have HBK := iblock_any HI.out hOr hB0 hR0 HX.out F (by have := HF.out; omega)
    have E1 := HBL.out.run.trans (inf_step (xs := xs) (most := most) (F := F) (g := g2) (p := q) (o := o'))
    have hnz := nz_block F xs most q o'
    have hone := fun last q2 r => @blk_one xs most q o' F last q2 r hq
    obtain ⟨rb, hrb⟩ : ∃ rb, rb = run xs most (blockR F) q o' := ⟨_, rfl⟩
    rw [← hrb] at HBK E1 hnz hone
    have HBK2 := Lib.hid HBK
    have HE1 := Lib.hid E1
    have HNZ := Lib.hid hnz
    have HONE := Lib.hid hone
    clear hg hq hOr HBK E1 hnz hone hrb
    go_wp2_with fail
    refine HBK2.out.mono ?_
    rintro e w4 hsay
    cases rb with
    | error er =>
      obtain ⟨b, rfl, hf4⟩ := hsay
      have hez : ((er : Int) != 0) = true := by rw [bne_iff_ne]; have := HNZ.out er rfl; omega
      have hR := inf_is_no (show run xs most (infR F F) 0 [] = .error er from HE1.out)
      have HR := Lib.hid hR
      have hf34 := HFR.out.trans HW.out hf4
      have HB4 := Lib.hid (show Below w.heap.size w w4 from ⟨hf34.os.trans HB13.out.os, hf34.tape.trans HB13.out.tape, hf34.output.trans HB13.out.output, Nat.le_trans HB13.out.size hf34.size, fun k hk => (hf34.block k (Nat.lt_of_lt_of_le hk HB13.out.size) (by have := HBW.out; omega) (by omega) (by simp [Value.ownBlock])).trans (HB13.out.block k hk)⟩)
      clear hf4 hf34 hR
      go_wp2_with fail
      refine bodyPost_ret (v := .tuple #[.slice none 0 0, .int .i64 0, .int .i64 er]) (by simp [results, Tryd.results7, go_sem]) rfl ?_
      refine ⟨.slice none 0 0, ?_, ?_, ?_, HB4.out⟩
      · rw [HR.out]; rfl
      · rw [HR.out]; exact own_nil_bytes _ _
      · rw [HR.out]; intro x hx; cases hx
    | ok r =>
      obtain ⟨last, q4, o4⟩ := r
      obtain ⟨rfl, hf4, v4, fl4, fd4, hi4, hw4, hx4⟩ := hsay
      have hf34 := HFR.out.trans HW.out hf4
      have HI4 := Lib.hid hi4
      have HX4 := Lib.hid hx4
      have HW4 := Lib.hid (HW.out.trans HFR.out.size hw4)
      have HF34 := Lib.hid hf34
      have h1 := HONE.out last q4 o4 rfl
      by_cases hl : last = 1
      · subst hl
        have hR := inf_is_ok (show run xs most (infR F F) 0 [] = .ok ((), q4, o4) from HE1.out)
        have HR := Lib.hid hR
        have HB4 := Lib.hid (show Below w.heap.size w w4 from ⟨hf34.os.trans HB13.out.os, hf34.tape.trans HB13.out.tape, hf34.output.trans HB13.out.output, Nat.le_trans HB13.out.size hf34.size, fun k hk => (hf34.block k (Nat.lt_of_lt_of_le hk HB13.out.size) (by have := HBW.out; omega) (by omega) (by simp [Value.ownBlock])).trans (HB13.out.block k hk)⟩)
        have c0 := hi4.ib.c0
        have c1 := hi4.ib.c1
        have hq4 : q4 ≤ 800000 := by have := hi4.pl; have := HLEN.out; omega
        have hsum : IntKind.i64.wrap ((q4 : Int) + 7) = (q4 : Int) + 7 := IntWalk.i64_in _ (by omega)
        have HSUM := Lib.hid hsum
        have HAT := Lib.hid (fun k => show Calls Tryd.prog 13 #[.pointer (some ⟨R, 0, none⟩)] (w4.drewN k) fun e w' => e = .returned (.int .i64 (q4 : Int)) ∧ w' = w4.drewN k from (rat_any ((HI4.out.drewN k).rd)).mono fun e w' h => ⟨h.1, h.2.symm⟩)
        clear hf4 hf34 hi4 hw4 hx4 hR
        clear hsum
        go_wp2_with fail
        go_quiet ((first | (go_at_call 13; exact Calls.quiet_of_same (HAT.out _))))
        rename Nat => nq
        go_wp2_with fail
        refine bodyPost_ret (v := .tuple #[v4, .int .i64 (((q4 : Int) + 7) / 8), .int .i64 0]) (by simp [results, Tryd.results7, go_sem]) rfl ?_
        refine ⟨v4, ?_, ?_, ?_, ?_⟩
        · rw [HR.out]
          have e8 : (((q4 + 7) / 8 : Nat) : Int) = ((q4 : Int) + 7) / 8 := by omega
          show _ = Ending.returned (.tuple #[v4, .int .i64 (((q4 + 7) / 8 : Nat) : Int), .int .i64 0])
          rw [e8]
        · rw [HR.out]; exact own_less (HI4.out.drewN nq).own (by have := HBW.out; omega)
        · rw [HR.out]; exact HI4.out.byte
        · exact HB4.out.trans ⟨rfl, rfl, rfl, Nat.le_refl _, fun _ _ => rfl⟩
      · clear hf4 hf34 hi4 hw4 hx4
        have hlb : (last == 1) = false := by rw [beq_eq_false_iff_ne]; exact hl
        have HR := Lib.hid (show run xs most (infR F F) 0 [] = run xs most (infR F g2) q4 o4 by rw [HE1.out]; show (if last = 1 then _ else _) = _; rw [if_neg hl])
        clear hl
        go_wp2_with fail
        go_roundg g2
        case rel => exact ⟨g2, q4, v4, o4, fl4, fd4, rfl, Lib.hid ⟨HR.out, by have := HBL.out.fuel; omega⟩, HI4, HF34, HW4, HX4⟩
        case measure => have := HGG.out; omega
end Go.Proofs.YtnfdojdppifmoaaDoor
