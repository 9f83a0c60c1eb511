/- Package delta's Encode and the document's Check, Turn, Encode, walked; two rows compared. -/
import Derived.Test.YteggmbfhfoijoaaDoorDeltaTurn
import Derived.Deep.Onto
namespace Go.Proofs.YteggmbfhfoijoaaDoor
open Go.RowKit NumsPlain DeltaPlain
set_option linter.unusedVariables false

/-- what Encode answers -/
def eb (l : List Int) (way : Int) : List Nat := if chk l way = 0 then enc l way else []
theorem eb_ok {l : List Int} {way : Int} (h : chk l way = 0) : eb l way = enc l way := by unfold eb; rw [if_pos h]
theorem eb_no {l : List Int} {way : Int} (h : chk l way ≠ 0) : eb l way = [] := by unfold eb; rw [if_neg h]
theorem flat_snoc {ts : List Int} {k : Nat} (hk : k < ts.length) : (ts.take (k + 1)).flatMap pz = (ts.take k).flatMap pz ++ pz (ts.getD k 0) := by
  rw [← take_next hk, List.flatMap_append]; simp
theorem take_bound {ts : List Int} (h : ∀ x ∈ ts, -4611686018427387904 ≤ x ∧ x ≤ 4611686018427387904) (k : Nat) : ∀ x ∈ ts.take k, -4611686018427387904 ≤ x ∧ x ≤ 4611686018427387904 := fun x hx => h x (List.mem_of_mem_take hx)

/-- the bytes behind k numbers -/
def eb0 (N : Nat) (ts : List Int) (k : Nat) : List Nat := pu N ++ (ts.take k).flatMap pz
theorem eb0_succ {N k : Nat} {ts : List Int} (hk : k < ts.length) : eb0 N ts (k + 1) = eb0 N ts k ++ pu (zig (ts.getD k 0)) := by
  unfold eb0; rw [flat_snoc hk, List.append_assoc]; rfl
theorem eb0_full {N k : Nat} {ts : List Int} (hk : ts.length ≤ k) : eb0 N ts k = pu N ++ ts.flatMap pz := by
  unfold eb0; rw [List.take_of_length_le hk]
theorem eb0_zero (N : Nat) (ts : List Int) : eb0 N ts 0 = pu N := by simp [eb0]
theorem eb0_byte {N k : Nat} {ts : List Int} (hN : N < 18446744073709551616) (h : ∀ x ∈ ts, -4611686018427387904 ≤ x ∧ x ≤ 4611686018427387904) : ∀ y ∈ eb0 N ts k, y < 256 := by
  intro y hy
  rcases List.mem_append.1 hy with g | g
  · exact pu_bytes (by omega) y g
  · exact flat_byte (take_bound h k) y g
theorem eb0_len {N k : Nat} {ts : List Int} (hN : N < 18446744073709551616) (h : ∀ x ∈ ts, -4611686018427387904 ≤ x ∧ x ≤ 4611686018427387904) : (eb0 N ts k).length ≤ 10 + 10 * ts.length := by
  have h1 := pu_ten (n := N) (by omega)
  have h2 := flat_len (take_bound h k)
  have h3 : (ts.take k).length ≤ ts.length := by simp; omega
  simp only [eb0, List.length_append]; omega

set_option maxRecDepth 100000 in
set_option maxHeartbeats 2000000 in
theorem encode_any {w : World} {a : Option Addr} {n c : Nat} {zs : List Int} (h : IntsAt .i64 w a n c zs) (way : Int) :
    Calls Tryd.prog 28 #[.slice a n c, .int .i64 way] w fun e w' => ∃ a' n' c', e = .returned (.tuple #[.slice a' n' c', .int .i64 ((chk zs way : Nat) : Int)]) ∧
      w'.ownsRow w.heap.size 5 1 (.slice a' n' c') n' (bv (eb zs way)) ∧ BytesAt w' a' n' c' (eb zs way) ∧ Below w.heap.size w w' := by
  have HT := Lib.hid (turn_any h way)
  obtain ⟨q, hq⟩ : ∃ q, q = chk zs way := ⟨_, rfl⟩
  rw [← hq] at HT ⊢
  by_cases hq0 : q = 0
  · subst hq0
    obtain ⟨h0, h2, hl, hb⟩ := chk_ok hq.symm
    have htu := tu_ok hq.symm
    have heb := eb_ok hq.symm
    obtain ⟨ts, hts⟩ : ∃ ts, ts = tl zs way := ⟨_, rfl⟩
    have htb := tl_bound hb way
    rw [← hts] at htu htb
    have htl : ts.length = zs.length := by rw [hts, tl_length]
    have he : enc zs way = pu zs.length ++ ts.flatMap pz := by rw [hts]; rfl
    obtain ⟨N, hN⟩ : ∃ N, N = zs.length := ⟨_, rfl⟩
    rw [← hN] at htl he hl
    rw [he] at heb
    have hby : ∀ k, ∀ y ∈ eb0 N ts k, y < 256 := fun k => eb0_byte (by omega) htb
    have hlen : ∀ k, (eb0 N ts k).length ≤ 30000 := fun k => by
      have := eb0_len (N := N) (k := k) (by omega) htb
      omega
    have HTU := Lib.hid htu
    have HEB := Lib.hid heb
    have HTB := Lib.hid htb
    have HTL := Lib.hid htl
    have HBY := Lib.hid hby
    have HLEN := Lib.hid hlen
    clear h hq htu heb hts htb htl he hN hb hby hlen h0 h2
    go_enter Tryd.func28, Tryd.ntmps28
    go_wp2_with fail
    refine HT.out.mono ?_
    rintro e w1 ⟨a1, n1, c1, rfl, hi1, hb1⟩
    rw [HTU.out] at hi1
    obtain rfl : N = n1 := by rw [← hi1.len, HTL.out]
    have HI1 := Lib.hid hi1
    have HB1 := Lib.hid hb1
    have hcap := hi1.cap
    have hcm := hi1.capm
    have HP := Lib.hid (putu_any N (by omega) w1)
    clear hi1 hb1
    go_wp2_with fail
    refine HP.out.mono ?_
    rintro e w2 ⟨v2, rfl, hown2, hb2⟩
    have HO2 := Lib.hid (show w2.ownsRow w1.heap.size 5 1 v2 (eb0 N ts 0).length (bv (eb0 N ts 0)) by
      rw [eb0_zero]; exact hown2)
    have HB2 := Lib.hid hb2
    clear hown2 hb2
    go_wp2_with fail
    go_loopw [8, 26] (fun s8 s26 wr => ∃ k : Nat, k ≤ N ∧ s26 = .int .i64 k ∧ Hid (wr.ownsRow w1.heap.size 5 1 s8 (eb0 N ts k).length (bv (eb0 N ts k))) ∧ Hid (Below w1.heap.size w1 wr)) (fun _ s26 _ => N - (intOf s26).toNat)
    case atStart => exact ⟨0, by omega, rfl, HO2, HB2⟩
    case round =>
      obtain ⟨k, hk, rfl, HO, HB⟩ := hrel
      rename World => wr
      by_cases hkn : k < N
      · obtain ⟨b, off, rfl, hlt, hcell⟩ := (HI1.out.kept HB.out).cells (by omega)
        have hck := hcell k hkn
        obtain ⟨x, hx⟩ : ∃ x, x = ts.getD k 0 := ⟨_, rfl⟩
        rw [← hx] at hck
        have hxb : -4611686018427387904 ≤ x ∧ x ≤ 4611686018427387904 := by rw [hx]; exact getD_mem_or HTB.out (by omega) k
        have HX := Lib.hid (show eb0 N ts (k + 1) = eb0 N ts k ++ pu (zig x) by rw [hx]; exact eb0_succ (by rw [HTL.out]; exact hkn))
        have HPI := Lib.hid (puti x (by omega) (by omega) wr)
        have hl2 : (pu (zig x)).length ≤ 10 := pz_len hxb
        have hl1 := HLEN.out k
        clear hcell hx hxb
        go_wp2_with fail
        refine HPI.out.mono ?_
        rintro e w3 ⟨g3, c3, rfl, hg3, hy3, hb3⟩
        have HY3 := Lib.hid hy3
        have hgo := own_below HO.out hb3
        have HB3 := Lib.hid (HB.out.trans (hb3.mono HB.out.size))
        have hbs := HB3.out.size
        clear hy3 hb3
        go_wp2_with (at_builtin; refine wpList_append_bytes rfl (.tmp 30) (.tmp 32) rfl w1.heap.size _ _ _ rfl hgo _ _ _ _ rfl HY3.out (by omega) hbs ?_)
        intro v4 w4 hown4 hg4
        have HO4 := Lib.hid (show w4.ownsRow w1.heap.size 5 1 v4 (eb0 N ts (k + 1)).length (bv (eb0 N ts (k + 1))) by
          rw [HX.out, List.length_append]; exact hown4)
        have HB4 := Lib.hid (HB3.out.grown hg4 hbs (fun j hj => (hgo.lt j hj).1))
        clear hown4 hg4 hgo
        go_wp2_with fail
        go_roundw
        case rel => exact ⟨k + 1, by omega, by go_num, HO4, HB4⟩
        case measure => simp [intOf]; omega
      · have hkn2 : k = N := by omega
        have hfull : eb0 N ts k = pu N ++ ts.flatMap pz := eb0_full (by rw [HTL.out]; omega)
        have ho := HO.out
        have hby := HBY.out k
        have hll := HLEN.out k
        obtain ⟨E, hE⟩ : ∃ E, E = eb0 N ts k := ⟨_, rfl⟩
        rw [← hE] at ho hby hll
        have HF := Lib.hid (hE.trans hfull)
        obtain ⟨a4, c4, rfl, hy4, _⟩ := BytesAt.ofOwn ho hby (by omega)
        have HY4 := Lib.hid hy4
        have HO4 := Lib.hid ho
        clear ho hby hll hy4 hfull hkn2 hE
        go_wp2_with fail
        go_ret2
        refine ⟨a4, _, c4, rfl, ?_, ?_, HB1.out.trans (HB.out.mono HB1.out.size)⟩
        · rw [HEB.out, ← HF.out]; exact HO4.out.mono HB1.out.size
        · rw [HEB.out, ← HF.out]; exact HY4.out
  · have hno := eb_no (l := zs) (way := way) (by rw [← hq]; exact hq0)
    have HN := Lib.hid hno
    have hq1 : ((q : Int) != 0) = true := by rw [bne_iff_ne]; omega
    clear hq hno hq0 h
    go_enter Tryd.func28, Tryd.ntmps28
    go_wp2_with fail
    refine HT.out.mono ?_
    rintro e w1 ⟨a1, n1, c1, rfl, hi1, hb1⟩
    have HB1 := Lib.hid hb1
    clear hi1 hb1
    go_wp2_with fail
    go_ret2
    rw [HN.out]
    exact ⟨none, 0, 0, rfl, own_nil_bytes _ _, BytesAt.empty _ _ _ (by omega) (fun _ => rfl), HB1.out⟩
end Go.Proofs.YteggmbfhfoijoaaDoor
