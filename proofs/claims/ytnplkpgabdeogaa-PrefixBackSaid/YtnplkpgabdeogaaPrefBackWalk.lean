/- The walk of PrefixBack: what is written word by word is read so, for all lengths and symbols. -/
import Derived.Test.YtnplkpgabdeogaaPrefKraft
import Derived.Test.YtnplkpgabdeogaaBitsWriter2
namespace Go.Proofs.Ytnplkpgabdeogaa
open Go.RowKit PrefPlain BitsPlain
set_option linter.unusedVariables false

/-- the bits of a symbol's word -/
def wdb (L : List Int) (x : Int) : List Nat := codeOf (fw (cn L) (L.getD x.toNat 0).toNat + pl L x.toNat) (L.getD x.toNat 0).toNat (L.getD x.toNat 0).toNat
/-- of symbols' words, one behind the other -/
def encs (L : List Int) : List Int → List Nat
  | [] => []
  | x :: r => wdb L x ++ encs L r
theorem encs_app (L : List Int) : ∀ r q, encs L (r ++ q) = encs L r ++ encs L q
  | [], q => rfl
  | x :: r, q => by rw [List.cons_append, encs, encs, encs_app L r q, List.append_assoc]
theorem encs_snoc (L r : List Int) (x : Int) : encs L (r ++ [x]) = encs L r ++ wdb L x := by rw [encs_app]; simp [encs]
theorem wdb_len (L : List Int) (x : Int) : (wdb L x).length = (L.getD x.toNat 0).toNat := codeOf_length _ _ _
theorem hasW_nat {L : List Int} {x : Int} (h : hasW L x) (hok : okL L L.length) : ∃ s n : Nat, x = (s : Int) ∧ s < L.length ∧ 0 < n ∧ n ≤ 15 ∧ L.getD s 0 = (n : Int) := by
  obtain ⟨h1, h2, h3⟩ := h
  have := hok x.toNat (by omega)
  exact ⟨x.toNat, (L.getD x.toNat 0).toNat, by omega, by omega, by omega, by omega, by omega⟩
theorem encs_len {L : List Int} (hok : okL L L.length) : ∀ {r : List Int}, (∀ x ∈ r, hasW L x) → (encs L r).length ≤ 15 * r.length
  | [], _ => by simp [encs]
  | x :: r, h => by
    have ih := encs_len hok (r := r) (fun y hy => h y (List.mem_cons_of_mem _ hy))
    obtain ⟨s, n, rfl, hs, hn, hn15, hL⟩ := hasW_nat (h x List.mem_cons_self) hok
    have h2 := wdb_len L (s : Int)
    rw [Int.toNat_natCast, hL, Int.toNat_natCast] at h2
    rw [encs, List.length_append, List.length_cons]
    omega
theorem encs_at (L : List Int) {lst : List Int} {j : Nat} (hj : j < lst.length) : encs L lst = encs L (lst.take j) ++ (wdb L (lst.getD j 0) ++ encs L (lst.drop (j + 1))) := by
  have h1 : lst = lst.take j ++ (lst.getD j 0 :: lst.drop (j + 1)) := by
    have h2 := (List.take_append_drop j lst).symm
    rw [List.drop_eq_getElem_cons hj] at h2
    have h3 : lst.getD j 0 = lst[j] := by simp [hj]
    rw [h3]; exact h2
  have h4 := encs_app L (lst.take j) (lst.getD j 0 :: lst.drop (j + 1))
  rw [← h1] at h4
  rw [h4, encs]
theorem encs_next (L : List Int) {lst : List Int} {j : Nat} (hj : j < lst.length) : encs L (lst.take (j + 1)) = encs L (lst.take j) ++ wdb L (lst.getD j 0) := by
  rw [List.take_add_one, encs_app]
  simp [hj, encs]

theorem rn_at {L lst : List Int} {j : Nat} (hf : fitsB (cn L) (mo L L.length) = true) (hok : okL L L.length) (hb : Bin (encs L lst)) (hj : j < lst.length) (hh : hasW L (lst.getD j 0)) :
    rn L (pack (encs L lst)) (encs L (lst.take j)).length = (lst.getD j 0, 0, (wdb L (lst.getD j 0)).length) := by
  have he := encs_at L hj
  have hl := wdb_len L (lst.getD j 0)
  obtain ⟨s, n, hx, hs, hn, hn15, hL⟩ := hasW_nat hh hok
  rw [hx] at he hl ⊢
  have hw : wdb L (s : Int) = codeOf (fw (cn L) n + pl L s) n n := by unfold wdb; rw [Int.toNat_natCast, hL, Int.toNat_natCast]
  rw [hw, codeOf_length]
  obtain ⟨bl, hbl⟩ : ∃ bl, bl = encs L lst := ⟨_, rfl⟩
  rw [← hbl] at he hb ⊢
  refine rn_word hf hn hn15 hs hL ?_ (fun i hi => ?_)
  · rw [pack_length, he, hw]
    simp only [List.length_append, codeOf_length]
    omega
  · rw [bitAt_pack hb, he, hw]
    rw [List.getD_eq_getElem?_getD, List.getElem?_append_right (by omega), Nat.add_sub_cancel_left, List.getElem?_append_left (by rw [codeOf_length]; exact hi)]
    simp [codeOf, hi]

theorem own_touch {w w' : World} {base : Nat} {e : TypeId} {v : Value} {n : Nat} {xs : List Value} {B : Nat} {u : Value} (h : w.ownsRow base e 1 v n xs) (ht : Touch w w' B u) (hB : v.ownBlock ≠ some B) (hu : v.ownBlock = none ∨ v.ownBlock ≠ u.ownBlock) : w'.ownsRow base e 1 v n xs := by
  refine ⟨h.1, ?_⟩
  rcases h.2 with h0 | ⟨g, cap, cur, rfl, hb, hg, rest⟩
  · exact Or.inl h0
  · refine Or.inr ⟨g, cap, cur, rfl, hb, (ht.block g (Array.getElem?_eq_some_iff.1 hg).1 (fun e => hB (by rw [e]; rfl)) ?_).trans hg, rest⟩
    rcases hu with hu | hu
    · cases hu
    · exact hu
theorem own_neB {w : World} {base : Nat} {e t : TypeId} {v : Value} {n : Nat} {xs : List Value} {B : Nat} {cs : Array Value} (h : w.ownsRow base e 1 v n xs) (hb : w.heap[B]? = some (.cells cs t (0, 0))) (hne : t ≠ e) : v.ownBlock ≠ some B := by
  intro e1
  rcases h.2 with ⟨h0, _⟩ | ⟨g, cap, cur, h0, _, hh, _⟩
  · subst h0; cases e1
  · subst h0
    simp [Value.ownBlock] at e1
    subst e1
    rw [hb] at hh
    simp at hh
    exact hne hh.2
theorem WrAt.grown {w w' : World} {B base : Nat} {v : Value} {l : List Nat} (h : WrAt w B base v l) {r : Option Nat} (hg : w.grownBy w' r) (hB : some B ≠ r) (hv : v.ownBlock = none ∨ v.ownBlock ≠ r) : WrAt w' B base v l :=
  ⟨(hg.block B h.lt hB).trans h.blk, h.own.kept hg hv, h.bin⟩
theorem WrAt.alloc {w : World} {B base : Nat} {v : Value} {l : List Nat} (h : WrAt w B base v l) (o : Obj) : WrAt (w.alloc o) B base v l :=
  ⟨(Below.heap_alloc w o B h.lt).trans h.blk, h.own.alloc o, h.bin⟩

/-- what is written so far -/
structure In1 (w2 wr : World) (L : List Int) (WB k : Nat) (lst : List Int) (v vw : Value) : Prop where
  wri : WrAt wr WB w2.heap.size vw (encs L lst)
  own : wr.ownsRow w2.heap.size 3 1 v lst.length (iv .i64 lst)
  bel : Below w2.heap.size w2 wr
  has : ∀ x ∈ lst, hasW L x
  wf : ∀ x ∈ lst, (Lit.int .i64 x).wf = true
  le : lst.length ≤ k

theorem ne_u8_int : (3 : TypeId) ≠ 5 := by decide
theorem ne_wr_int : (43 : TypeId) ≠ 3 := by decide

theorem In1.wrote {w2 wr w5 w6 : World} {L : List Int} {WB k : Nat} {lst : List Int} {v vw v1 v2 : Value} {x : Int} (h : In1 w2 wr L WB k lst v vw) (hWB : WB = w2.heap.size)
    (hw5 : WrAt w5 WB w2.heap.size v1 (encs L lst ++ wdb L x)) (ht : Touch wr w5 WB vw) (hx : hasW L x) (hxw : (Lit.int .i64 x).wf = true) (o : Obj)
    (hown : (w5.alloc o).ownsRow w2.heap.size 3 1 v lst.length (iv .i64 lst) → w6.ownsRow w2.heap.size 3 1 v2 (lst.length + 1) (iv .i64 lst ++ [.int .i64 x])) (hg : (w5.alloc o).grownBy w6 v.ownBlock) : In1 w2 w6 L WB (k + 1) (lst ++ [x]) v2 v1 := by
  have o5 : w5.ownsRow w2.heap.size 3 1 v lst.length (iv .i64 lst) := own_touch h.own ht (own_neB h.own h.wri.blk ne_wr_int) (own_ne2 h.own h.wri.own ne_u8_int)
  have o5' := o5.alloc o
  have hb5 : Below w2.heap.size w2 w5 := ht.below h.bel (by omega) (fun j hj => (h.wri.own.lt j hj).1)
  have hb5' := hb5.alloc hb5.size o
  refine ⟨?_, ?_, ?_, ?_, ?_, ?_⟩
  · rw [encs_snoc]
    refine (hw5.alloc o).grown hg (fun e => own_neB o5' (hw5.alloc o).blk ne_wr_int e.symm) (own_ne2 (hw5.alloc o).own o5' (Ne.symm ne_u8_int))
  · have := hown o5'
    rw [List.length_append, iv_append]
    exact this
  · exact hb5'.grown hg hb5'.size (fun j hj => (o5'.lt j hj).1)
  · intro y hy
    rcases List.mem_append.1 hy with hy | hy
    · exact h.has y hy
    · rw [List.mem_singleton.1 hy]; exact hx
  · intro y hy
    rcases List.mem_append.1 hy with hy | hy
    · exact h.wf y hy
    · rw [List.mem_singleton.1 hy]; exact hxw
  · rw [List.length_append]; have := h.le; simp; omega

theorem mk_zero {L : List Int} (h : mk L = 0) : fitsB (cn L) (mo L L.length) = true := by
  unfold mk at h
  split at h
  · cases h
  · split at h
    · cases h
    · split at h
      · cases h
      · rename_i hh; simpa using hh

/-- the law's list, where the second loop stands -/
structure In2 (w6 w7 : World) (B R : Nat) (L lst : List Int) (av : Option Addr) (cv : Nat) : Prop where
  tab : ∀ w', w7.grownBy w' (some R) → TabAt w' B L
  ints : ∀ w', w7.grownBy w' (some R) → IntsAt .i64 w' av lst.length cv lst
  ne : B ≠ R

set_option maxRecDepth 100000 in
set_option maxHeartbeats 8000000 in
theorem prefixBack_walk (a0 : Option Addr) (len0 cap0 : Nat) (z0 : List Int) (a1 : Option Addr) (len1 cap1 : Nat) (z1 : List Int) (w : World) (w0 : IsRow .i64 8 w a0 len0 cap0 z0) (w1 : IsRow .i64 8 w a1 len1 cap1 z1) :
    Calls Try.prog 4 #[.slice a0 len0 cap0, .slice a1 len1 cap1] w fun e w' => e = .returned (.bool true) ∧ Below w.heap.size w w' := by
  obtain ⟨i0, hi, hz0, hz1, hz2⟩ := info_parts info_int
  have hz := w0.ints
  have hy := w1.ints
  obtain ⟨L, hL⟩ : ∃ L, L = z0.take len0 := ⟨_, rfl⟩
  obtain ⟨Y, hY⟩ : ∃ Y, Y = z1.take len1 := ⟨_, rfl⟩
  rw [← hL] at hz
  rw [← hY] at hy
  have HL := Lib.hid (lives5_any w)
  have HH := Lib.hid hz
  have HY := Lib.hid hy
  have hcap := hy.cap
  have hcm := hy.capm
  clear w0 w1 hz hy hL hY
  by_cases hbad : (320 : Int) < (len0 : Int) ∨ ((len0 : Int) ≤ 320 ∧ (300 : Int) < (len1 : Int))
  · rcases hbad with hb | ⟨hb, hb'⟩
    all_goals
      go_enter Try.func4, Try.ntmps4
      go_wp2_with fail
      refine HL.out.mono ?_
      rintro e w1 ⟨rfl, hb1⟩
      have HB1 := Lib.hid hb1
      have HL1 := Lib.hid (lives5_any w1)
      clear hb1
      go_wp2_with fail
      refine HL1.out.mono ?_
      rintro e w2 ⟨rfl, hb2⟩
      have HB2 := Lib.hid (HB1.out.trans (hb2.mono HB1.out.size))
      clear hb2
      go_wp2_with fail
      go_ret
      exact ⟨rfl, HB2.out⟩
  · have hb : (len0 : Int) ≤ 320 := by omega
    have hb' : (len1 : Int) ≤ 300 := by omega
    clear hbad
    go_enter Try.func4, Try.ntmps4
    go_wp2_with fail
    refine HL.out.mono ?_
    rintro e w1 ⟨rfl, hb1⟩
    have HB1 := Lib.hid hb1
    have HM := Lib.hid (make_any (HH.out.kept hb1))
    clear hb1
    obtain ⟨q, hq⟩ : ∃ q, q = mk L := ⟨_, rfl⟩
    rw [← hq] at HM
    have HQ := Lib.hid hq
    clear hq
    go_wp2_with fail
    refine HM.out.mono ?_
    rintro e w2 ⟨p, rfl, hb2, hp0, hp⟩
    have HB2 := Lib.hid (HB1.out.trans (hb2.mono HB1.out.size))
    have HP0 := Lib.hid hp0
    have HP := Lib.hid hp
    clear hb2 hp hp0
    by_cases hq0 : q = 0
    · subst hq0
      have hz : ((0 : Int) != 0) = false := by decide
      obtain ⟨B, rfl, hBw, hT⟩ := HP.out rfl
      have HT := Lib.hid hT
      have HF := Lib.hid (mk_zero HQ.out.symm)
      have HOK := Lib.hid hT.ok
      have HSH := Lib.hid hT.short
      have HYL := Lib.hid HY.out.len
      have hBl : B < w2.heap.size := by
        obtain ⟨_, _, _, _, h1, _⟩ := HT.out.tab
        exact h1.lt
      clear hT hBw
      go_wp2_with fail
      go_loopw [8, 45] (fun s8 s45 wr => ∃ (k : Nat) (lst : List Int) (v vw : Value), k ≤ len1 ∧ v = s8 ∧ s45 = .int .i64 k ∧ Hid (In1 w2 wr L w2.heap.size k lst v vw)) (fun _ s45 _ => len1 - (intOf s45).toNat)
      case atStart =>
        refine ⟨0, [], .slice none 0 0, .slice none 0 0, by omega, rfl, rfl, Lib.hid ⟨⟨heap_alloc_new w2 _, by rw [show pack (encs L []) = [] from by simp [encs, pack]]; exact World.ownsRow_nil _ _ _ _, (fun x hx => by cases hx)⟩, World.ownsRow_nil _ _ _ _, (Below.refl _ _).alloc (Nat.le_refl _) _, (fun x hx => by cases hx), (fun x hx => by cases hx), Nat.le_refl _⟩⟩
      case round =>
        obtain ⟨k, lst, v, vw, hk, rfl, rfl, HI⟩ := hrel
        rename World => wr
        by_cases hkn : k < len1
        · obtain ⟨b, off, rfl, hlt, hcell⟩ := ((HY.out.kept HB2.out).keep HI.out.bel (Nat.le_refl _)).cells (by omega)
          have hck := hcell k hkn
          obtain ⟨x, hx⟩ : ∃ x, x = Y.getD k 0 := ⟨_, rfl⟩
          rw [← hx] at hck
          have HTR := Lib.hid (HT.out.kept HI.out.bel)
          have hxw : (Lit.int .i64 x).wf = true := by
            refine HY.out.wf x ?_
            have hlen := HYL.out
            rw [hx, List.getD_eq_getElem?_getD, List.getElem?_eq_getElem (by omega)]
            exact List.getElem_mem _
          have HXW := Lib.hid hxw
          clear hcell hx hxw
          by_cases hxh : hasW L x
          · obtain ⟨s, n, rfl, hs, hn, hn15, hLs⟩ := hasW_nat hxh HOK.out
            have HW := Lib.hid (word_yes HTR.out s n hs hn hLs)
            have HXH := Lib.hid hxh
            obtain ⟨V, hV⟩ : ∃ V, V = fw (cn L) n + pl L s := ⟨_, rfl⟩
            rw [← hV] at HW
            have hle := HI.out.le
            have hel := encs_len HOK.out HI.out.has
            have hV32 : V < 4294967296 := by
              have h1 := fw_26 (cn L) (cn_le L HSH.out) hn15
              have h2 := (pl_ok hn hs hLs).1
              have h3 := sy_len L L.length n
              have h4 := HSH.out
              omega
            have hsz := HI.out.bel.size
            have HC := Lib.hid (wcode_any HI.out.wri hsz V hV32 n (by omega) (by omega))
            have hwd : wdb L (s : Int) = codeOf V n n := by unfold wdb; rw [Int.toNat_natCast, hLs, Int.toNat_natCast, hV]
            rw [← hwd] at HC
            clear hxh hLs hV hwd hel hV32 hs hn hn15
            go_wp2_with fail
            refine HW.out.mono ?_
            rintro e w4 ⟨rfl, rfl⟩
            go_wp2_with fail
            refine HC.out.mono ?_
            rintro e w5 ⟨rfl, v1, hw5, ht5, _⟩
            have HW5 := Lib.hid hw5
            have HT5 := Lib.hid ht5
            have ho5 : w5.ownsRow w2.heap.size 3 1 v lst.length (iv .i64 lst) := own_touch HI.out.own ht5 (own_neB HI.out.own HI.out.wri.blk ne_wr_int) (own_ne2 HI.out.own HI.out.wri.own ne_u8_int)
            have HO5 := Lib.hid (ho5.alloc (.cells #[.int .i64 (s : Int)] 3))
            have hs5 := ht5.size
            clear hw5 ht5 ho5
            go_wp2_with (at_builtin; refine wpList_append_own _ rfl (.tmp 62) (.tmp 64) 22 rfl w2.heap.size 3 i0 (.int .i64 0) 1 8 Try.underlying22 hi hz0 hz1 hz2 rfl (by decide) _ _ _ rfl HO5.out ⟨w5.heap.size, 0, none⟩ 1 1 [.int .i64 (s : Int)] rfl rfl (one_src _ _ _) (one_oneCell rfl) (by unfold maxLen; omega) (by omega) (by simp; omega) ?_)
            intro v2 w6 hown6 hg6 _
            have HI6 := Lib.hid (HI.out.wrote rfl HW5.out HT5.out HXH.out HXW.out _ (fun _ => hown6) hg6)
            clear hown6 hg6
            go_wp2_with fail
            go_roundw
            case rel => exact ⟨k + 1, _, v2, v1, by omega, rfl, by go_num, HI6⟩
            case measure => simp [intOf]; omega
          · have HW := Lib.hid (word_no HTR.out x hxh)
            have HI2 : Hid (In1 w2 wr L w2.heap.size (k + 1) lst v vw) := Lib.hid ⟨HI.out.wri, HI.out.own, HI.out.bel, HI.out.has, HI.out.wf, Nat.le_succ_of_le HI.out.le⟩
            clear hxh
            go_wp2_with fail
            refine HW.out.mono ?_
            rintro e w4 ⟨rfl, rfl⟩
            go_wp2_with fail
            go_roundw
            case rel => exact ⟨k + 1, lst, v, vw, by omega, rfl, by go_num, HI2⟩
            case measure => simp [intOf]; omega
        · have hle := HI.out.le
          have hel := encs_len HOK.out HI.out.has
          have HBN := Lib.hid HI.out.wri.bin
          have HHAS := Lib.hid HI.out.has
          have HWB := Lib.hid (wbytes_any HI.out.wri (by omega))
          obtain ⟨av, cv, rfl, hiv, hav⟩ := IntsAt.ofOwn HI.out.own HI.out.wf
          have HIV := Lib.hid hiv
          obtain ⟨m, hm⟩ : ∃ m, m = (pack (encs L lst)).length := ⟨_, rfl⟩
          have hm8 : (encs L lst).length ≤ 8 * m ∧ 8 * m < (encs L lst).length + 8 := by rw [hm, pack_length]; omega
          rw [← hm] at HWB
          obtain ⟨xs, hxs⟩ : ∃ xs, xs = pack (encs L lst) := ⟨_, rfl⟩
          rw [← hxs] at HWB
          have HXS := Lib.hid hxs
          have HM8 := Lib.hid hm8
          clear hiv hav hm hm8 hxs
          go_wp2_with fail
          refine HWB.out.mono ?_
          rintro e w5 ⟨a5, c5, rfl, hb5, hbel5, hfr5⟩
          have HRN := Lib.hid (rnew_any hb5)
          have HB5 := Lib.hid (HI.out.bel.trans (hbel5.mono HI.out.bel.size))
          have HIV5 := Lib.hid (HIV.out.kept hbel5)
          clear hb5 hbel5 hfr5
          go_wp2_with fail
          refine HRN.out.mono ?_
          rintro e w6 ⟨R, a', c', rfl, hrd, hb6, hR, hfr⟩
          have HRD := Lib.hid hrd
          have hB5s := HB5.out.size
          have hIn2 : In2 w5 w6 B R L lst av cv := by
            have hk : ∀ w', w6.grownBy w' (some R) → Below w5.heap.size w5 w' := fun w' hg => by
              have hk : Below w5.heap.size w6 w' := ⟨hg.os, hg.tape, hg.output, hg.size, fun i hi => hg.block i (Nat.lt_of_lt_of_le hi hb6.size) (fun e => by have := Option.some.inj e; omega)⟩
              exact hb6.trans hk
            exact ⟨fun w' hg => (HT.out.kept HB5.out).kept (hk w' hg), fun w' hg => HIV5.out.kept (hk w' hg), by omega⟩
          have HN2 := Lib.hid hIn2
          have HB6 := Lib.hid (HB2.out.trans ((HB5.out.trans (hb6.mono hB5s)).mono HB2.out.size))
          have hwR : w.heap.size ≤ R := by have := HB2.out.size; omega
          have hlc := HIV5.out.cap
          have hlm := HIV5.out.capm
          clear hrd hIn2 hb6 hR hfr hel
          go_wp2_with fail
          go_loopw [72] (fun s72 wq => ∃ j : Nat, j ≤ lst.length ∧ s72 = .int .i64 j ∧ Hid (RdAt wq R a' m c' xs (encs L (lst.take j)).length) ∧ Hid (w6.grownBy wq (some R))) (fun s72 _ => lst.length - (intOf s72).toNat)
          case atStart => exact ⟨0, by omega, rfl, HRD, Lib.hid (World.grownBy.refl _ _)⟩
          case round =>
            obtain ⟨j, hj, rfl, HR, HG⟩ := hrel
            rename World => wq
            by_cases hjn : j < lst.length
            · obtain ⟨b, off, rfl, hlt, hcell⟩ := (HN2.out.ints wq HG.out).cells (by omega)
              have hck := hcell j hjn
              have hh : hasW L (lst.getD j 0) := by
                refine HHAS.out _ ?_
                rw [List.getD_eq_getElem?_getD, List.getElem?_eq_getElem hjn]
                exact List.getElem_mem _
              have hrn := rn_at HF.out HOK.out HBN.out hjn hh
              rw [← HXS.out] at hrn
              have hnx := next_any (HN2.out.tab wq HG.out) HR.out HN2.out.ne (fun w' hg => HN2.out.tab w' (HG.out.trans' hg))
              rw [hrn] at hnx
              have hp' : (encs L (lst.take j)).length + (wdb L (lst.getD j 0)).length = (encs L (lst.take (j + 1))).length := by rw [encs_next L hjn, List.length_append]
              simp only [hp'] at hnx
              obtain ⟨y, hy⟩ : ∃ y, y = lst.getD j 0 := ⟨_, rfl⟩
              rw [← hy] at hnx hck
              have HNX := Lib.hid hnx
              have hyy : (y != y) = false := by simp
              clear hcell hh hrn hnx hp' hy
              go_wp2_with fail
              refine HNX.out.mono ?_
              rintro e w7 ⟨rfl, hr7, hg7⟩
              have HR7 := Lib.hid hr7
              have HG7 := Lib.hid (HG.out.trans' hg7)
              clear hr7 hg7
              go_wp2_with fail
              go_roundw
              case rel => exact ⟨j + 1, by omega, by go_num, HR7, HG7⟩
              case measure => simp [intOf]; omega
            · obtain rfl : j = lst.length := by omega
              have HRL := Lib.hid (rleft_any HR.out)
              rw [List.take_length] at HRL
              obtain ⟨u, hu⟩ : ∃ u, u = 8 * m - (encs L lst).length := ⟨_, rfl⟩
              have hu8 : (u : Int) < 8 := by have := HM8.out; omega
              rw [← hu] at HRL
              clear hu
              go_wp2_with fail
              refine HRL.out.mono ?_
              rintro e w7 ⟨rfl, d7, rfl⟩
              go_wp2_with fail
              go_ret
              exact ⟨rfl, HB6.out.grown (HG.out.trans' (grown_drewN _ d7 _)) HB6.out.size (fun j hj => by cases hj; exact hwR)⟩
    · have hq1 : ((q : Int) != 0) = true := by rw [bne_iff_ne]; omega
      obtain rfl := HP0.out hq0
      clear hq0
      go_wp2_with fail
      go_ret
      exact ⟨rfl, HB2.out⟩
end Go.Proofs.Ytnplkpgabdeogaa
