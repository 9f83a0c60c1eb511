/- Texts put together by packtpl2.py: Apnd, LabQuote, LabText, LabRText, LabSame, LabTwin, LabStrP. -/
import Derived.Test.YtbdgcfimbblncaaGreatDoorPkMR1
import Derived.Test.YtbdgcfimbblncaaGreatDoorPkMR7
import Derived.Maps.AppendAt
import Derived.Deep.RegionLaw
import Derived.BigRegion
import Derived.Laws.BitsAllLaws
import Derived.Deep.RegionHeld3
import Derived.BigQuiet
import Derived.Laws.StructEq
import Derived.SliceStrings
section PkMR8_0
/- append of bytes to bytes that the call owns, and where the new row lies; two rows kept apart. -/
namespace Go.Proofs.YtbdgcfimbblncaaGreatDoor
open Go.RowKit
set_option linter.unusedVariables false

theorem own_some2 {w : World} {base n : Nat} {e : TypeId} {size : Nat} {v : Value} {xs : List Value} (h : w.ownsRow base e size v n xs) (hn : 0 < n) : ∃ g c, v = .slice (some ⟨g, 0, none⟩) n c := by
  rcases h.2 with ⟨_, h0⟩ | ⟨g, cap, cur, he, _⟩
  · omega
  · exact ⟨g, cap, he⟩
theorem wpList_append_bytes_at {w : World} {ops : Array Oper} {rest : List Oper} {o : Oper} {a : Act} {Q : Exit → Act → World → Prop} (hgd : o.guard = none) (s x : Operand)
    (ho : o.op = .call { callee := .builtin .append, args := #[s, x], argTypes := #[30, 30] })
    (base : Nat) (v : Value) (n : Nat) (xs : List Nat) (hs : a.eval s = v) (hown : w.ownsRow base 5 1 v n (bv xs))
    (src : Option Addr) (m c : Nat) (ys : List Nat) (hx : a.eval x = .slice src m c) (hb : BytesAt w src m c ys)
    (h63 : n + m ≤ 140737488355328) (hbase : base ≤ w.heap.size)
    (h : ∀ v' w', w'.ownsRow base 5 1 v' (n + m) (bv (xs ++ ys)) → w.grownBy w' v.ownBlock → (v'.ownBlock = v.ownBlock ∨ v'.ownBlock = some w.heap.size) → wpList Tryz.prog ops Q rest (a.put o.dst v') w') : wpList Tryz.prog ops Q (o :: rest) a w := by
  obtain ⟨i0, hi, hz0, hz1, hz2⟩ := info_parts info_u8
  rcases src with _ | ad
  · have hc := hb.nl rfl
    have hm : m = 0 := by have := hb.cap; omega
    subst hm
    subst hc
    have hy : ys = [] := List.eq_nil_of_length_eq_zero hb.len
    subst hy
    refine wpList_append_own_none hgd s x 30 ho base 5 i0 1 Tryz.underlying30 hi v n (bv xs) hs hown hx ?_
    exact h v w (by simpa using hown) (World.grownBy.refl _ _) (.inl rfl)
  · refine wpList_append_own_at w hgd s x 30 ho base 5 i0 (.int .u8 0) 1 1 Tryz.underlying30 hi hz0 hz1 hz2 rfl (by decide) v n (bv xs) hs hown ad m c (bv ys) hx (by rw [bv_length, hb.len]; omega) hb.src (bv_oneCell _) (by unfold maxLen; omega) (by omega) hbase ?_
    intro v' w' h1 h2 _ h4
    exact h v' w' (by rw [bv_append]; exact h1) h2 h4

theorem step_append_own_at2 {P : Program} {ops : Array Oper} {o : Oper} {a : Act} {w : World} {K : Act → World → Prop} {Q : Exit → Act → World → Prop} {E : Prop}
    (hgd : o.guard = none) (s x : Operand) (t : TypeId) (ho : o.op = .call { callee := .builtin .append, args := #[s, x], argTypes := #[t, t] })
    (base : Nat) (e : TypeId) (i : TypeInfo) (z : Value) (size bytes : Nat) (ht : P.underlying t = some (.slice e)) (hi : P.info? e = some i) (hz : i.zero = some z)
    (hsize : i.size = size) (hby : i.bytes = bytes) (hzs : z.cells.size = size) (hsz : 0 < size)
    (v : Value) (n : Nat) (xs : List Value) (hs : a.eval s = v) (hown : w.ownsRow base e size v n xs)
    (ad : Addr) (m c : Nat) (news : List Value) (hx : a.eval x = .slice (some ad) m c) (hl : news.length = m * size) (hnews : ∀ j u, news[j]? = some u → w.cell? (ad.add j) = some u) (h1 : ∀ u ∈ news, u.oneCell' = true)
    (h63 : n + m ≤ maxLen) (hbytes : (n + m) * bytes ≤ 140737488355328) (hbase : base ≤ w.heap.size)
    (h : ∀ v' w', w'.ownsRow base e size v' (n + m) (xs ++ news) → w.grownBy w' v.ownBlock → (v'.ownBlock = v.ownBlock ∨ v'.ownBlock = some w.heap.size) → K (a.put o.dst v') w') :
    if Region.wanted o (yielded ops a.tmps) = true then Oper.wp P o a w K Q else E := by
  have hw : Region.wanted o (yielded ops a.tmps) = true := by simp [Region.wanted, hgd]
  rw [if_pos hw]
  obtain ⟨v', w', hr, h2, h3, h4, h5⟩ := run_append_own_at (P := P) w base t o.type e i z size bytes ht hi hz hsize hby hzs hsz v n xs hown ad m c news hl hnews h1 h63 hbytes hbase
  unfold Oper.wp execOp
  simp only [ho, resolve, invoke, builtin, Sem.run_bind, Sem.run_pure, Result.andThen_ok, List.map_toArray, List.map_cons, List.map_nil, hs, hx, hr]
  exact h v' w' h2 h3 h5

/-- what one row's block is, another one's isn't -/
def Apart (v u : Value) : Prop := v.ownBlock = none ∨ v.ownBlock ≠ u.ownBlock
theorem Apart.none (u : Value) : Apart (.slice none 0 0) u := .inl rfl
theorem Apart.symm {v u : Value} (h : Apart v u) : Apart u v := by
  unfold Apart at h ⊢
  cases hu : u.ownBlock with
  | none => exact .inl rfl
  | some k =>
    rcases h with h | h
    · rw [h]; exact .inr (by simp)
    · rw [hu] at h; exact .inr (fun e => h e.symm)
/-- v moved or not, u stays: still apart -/
theorem Apart.moved {s : Nat} {v v' u : Value} (h : Apart v u) (hat : v'.ownBlock = v.ownBlock ∨ v'.ownBlock = some s) (hu : ∀ k, u.ownBlock = some k → k < s) : Apart v' u := by
  rcases hat with e | e
  · unfold Apart; rw [e]; exact h
  · refine .inr (fun e2 => ?_)
    rw [e] at e2
    have := hu _ e2.symm
    omega
theorem Apart.keeps {w w' : World} {base n : Nat} {e : TypeId} {size : Nat} {v u : Value} {xs : List Value} (h : Apart u v) (hown : w.ownsRow base e size u n xs) (hg : w.grownBy w' v.ownBlock) : w'.ownsRow base e size u n xs := hown.kept hg h
end Go.Proofs.YtbdgcfimbblncaaGreatDoor
end PkMR8_0
section PkMR8_1
/- Package label's quoted, walked: a value as it stands in a text. -/
namespace Go.Proofs.YtbdgcfimbblncaaGreatDoor
open Go.RowKit LabPlain
set_option linter.unusedVariables false

/-- a digit of a byte; a byte, as it is written -/
def dg (n : Nat) : Nat := if n < 10 then 48 + n else 87 + n
def plainC (c : Nat) : Bool := decide (32 ≤ c) && decide (c ≤ 126) && decide (c ≠ 34) && decide (c ≠ 92)
def qb (c : Nat) : List Nat := if plainC c then [c] else [92, dg (c / 16), dg (c % 16)]
/-- the first k bytes of a value, as they are written -/
def qs (s : ByteArray) : Nat → List Nat
  | 0 => []
  | k + 1 => qs s k ++ qb (at_ s k)
theorem dg_lt (n : Nat) (h : n < 16) : dg n < 256 := by unfold dg; split <;> omega
theorem qb_byte {c : Nat} (h : c < 256) : ∀ x ∈ qb c, x < 256 := by
  intro x hx
  unfold qb at hx
  split at hx
  · simp at hx; omega
  · have h1 := dg_lt (c / 16) (by omega)
    have h2 := dg_lt (c % 16) (by omega)
    simp at hx
    omega
theorem qs_byte (s : ByteArray) : ∀ k, ∀ x ∈ qs s k, x < 256
  | 0, x, hx => by cases hx
  | k + 1, x, hx => by
    rcases List.mem_append.1 hx with h | h
    · exact qs_byte s k x h
    · exact qb_byte (at_lt s k) x h
theorem qs_len (s : ByteArray) : ∀ k, (qs s k).length ≤ 3 * k
  | 0 => by simp [qs]
  | k + 1 => by
    have := qs_len s k
    have h2 : (qb (at_ s k)).length ≤ 3 := by unfold qb; split <;> simp
    rw [qs, List.length_append]; omega
theorem dig_at : ∀ n, n < 16 → ((({ data := #[48, 49, 50, 51, 52, 53, 54, 55, 56, 57, 97, 98, 99, 100, 101, 102] } : ByteArray)[n]?).map UInt8.toNat) = some (dg n) := by decide

set_option maxRecDepth 100000 in
set_option maxHeartbeats 1000000 in
theorem quoted_any (s : ByteArray) (hs : s.size ≤ 1000) (w : World) :
    Calls Tryz.prog 139 #[.string s] w fun e w' => e = .returned (.string (bs (qs s s.size))) ∧ Below w.heap.size w w' := by
  obtain ⟨i0, hi, hz0, hz1, hz2⟩ := info_parts info_u8
  have HO0 := Lib.hid (own_nil_bytes w w.heap.size)
  go_enter Tryz.func139, Tryz.ntmps139
  go_wp2_with fail
  go_loopw [3, 8] (fun s3 s8 wr => ∃ (k m c : Nat) (a : Option Addr), k ≤ s.size ∧ s8 = .int .i64 (k : Int) ∧ s3 = .slice a m c ∧ Hid (m = (qs s k).length) ∧ Hid (wr.ownsRow w.heap.size 5 1 (.slice a m c) m (bv (qs s k))) ∧ Hid (Below w.heap.size w wr)) (fun _ s8 _ => s.size - (intOf s8).toNat)
  case atStart => exact ⟨0, 0, 0, none, by omega, rfl, rfl, Lib.hid rfl, HO0, Lib.hid (Below.refl _ _)⟩
  case round =>
    clear HO0
    obtain ⟨k, m, cp, a, hk, rfl, rfl, HM, HO, HB⟩ := hrel
    rename World => wr
    by_cases hks : k < s.size
    · obtain ⟨c, hc⟩ : ∃ c, c = at_ s k := ⟨_, rfl⟩
      have hsk : (s[k]'hks).toNat = c := by rw [hc, at_get s k hks]
      have hcl : c < 256 := by rw [hc]; exact at_lt s k
      have HCK := Lib.hid hc
      have hm3 : m ≤ 3000 := by have := qs_len s k; have := HM.out; omega
      have hbs := HB.out.size
      clear hc
      by_cases hp : plainC c = true
      · have hpp : 32 ≤ c ∧ c ≤ 126 ∧ c ≠ 34 ∧ c ≠ 92 := by simpa [plainC, and_assoc] using hp
        obtain ⟨p1, p2, p3, p4⟩ := hpp
        have HQ := Lib.hid (show qs s (k + 1) = qs s k ++ [c] by rw [qs, ← HCK.out]; unfold qb; rw [if_pos hp])
        have i1 : (32 : Int) ≤ (c : Int) := by omega
        have i2 : (c : Int) ≤ 126 := by omega
        have i3 : ((c : Int) == 34) = false := by rw [beq_eq_false_iff_ne]; omega
        have i4 : ((c : Int) == 92) = false := by rw [beq_eq_false_iff_ne]; omega
        clear p1 p2 p3 p4 hp
        have HOA := Lib.hid (HO.out.alloc (.cells #[.int .u8 (c : Int)] 5))
        go_wp2_with (at_builtin; refine wpList_append_own_at _ rfl (.tmp 37) (.tmp 39) 30 rfl w.heap.size 5 i0 (.int .u8 0) 1 1 Tryz.underlying30 hi hz0 hz1 hz2 rfl (by decide) _ _ _ rfl HOA.out ⟨wr.heap.size, 0, none⟩ 1 1 [.int .u8 (c : Int)] rfl rfl (one_src _ _ _) (one_oneCell rfl) (by unfold maxLen; omega) (by omega) (by simp; omega) ?_)
        intro v2 w2 ho2 hg2 _ _
        obtain ⟨g2, c2, rfl⟩ := own_some2 ho2 (by omega)
        have HB2 := Lib.hid (below_own (HB.out.alloc hbs (.cells #[.int .u8 (c : Int)] 5)) HOA.out hg2 (Nat.le_refl _) (by simp; omega))
        have HO2 := Lib.hid ho2
        clear ho2 hg2
        go_wp2_with fail
        go_roundw
        case rel => exact ⟨k + 1, m + 1, c2, _, by omega, by go_num, rfl, Lib.hid (by rw [HQ.out, List.length_append, ← HM.out]; rfl), Lib.hid (by rw [HQ.out, bv_append]; exact HO2.out), HB2⟩
        case measure => simp [intOf]; omega
      · have hp2 : plainC c = false := by simpa using hp
        have HQ := Lib.hid (show qs s (k + 1) = qs s k ++ [92, dg (c / 16), dg (c % 16)] by rw [qs, ← HCK.out]; unfold qb; rw [if_neg hp])
        have hpp : ((c : Int) < 32) ∨ ((32 : Int) ≤ (c : Int) ∧ (126 : Int) < (c : Int)) ∨ ((32 : Int) ≤ (c : Int) ∧ (c : Int) ≤ 126 ∧ ((c : Int) == 34) = true) ∨ ((32 : Int) ≤ (c : Int) ∧ (c : Int) ≤ 126 ∧ ((c : Int) == 34) = false ∧ ((c : Int) == 92) = true) := by
          simp [plainC] at hp2
          simp only [beq_iff_eq, beq_eq_false_iff_ne]
          omega
        have hand : bits .and .u8 (c : Int) 15 = ((c % 16 : Nat) : Int) := by
          have := u8_and_nat c 15 hcl (by omega)
          rw [nat_mask4] at this
          exact this
        obtain ⟨h, hh⟩ : ∃ h, h = c / 16 := ⟨_, rfl⟩
        obtain ⟨l, hl⟩ : ∃ l, l = c % 16 := ⟨_, rfl⟩
        have hdiv : (c : Int) / 16 = (h : Int) := by omega
        have hh16 : h < 16 := by omega
        have hl16 : l < 16 := by omega
        have hhi : (h : Int) < 16 := by omega
        have hli : (l : Int) < 16 := by omega
        rw [← hl] at hand HQ
        rw [← hh] at HQ
        obtain ⟨d1, hd1⟩ : ∃ d, d = dg h := ⟨_, rfl⟩
        obtain ⟨d2, hd2⟩ : ∃ d, d = dg l := ⟨_, rfl⟩
        have hx1 : ((({ data := #[48, 49, 50, 51, 52, 53, 54, 55, 56, 57, 97, 98, 99, 100, 101, 102] } : ByteArray)[h]'hh16).toNat : Nat) = d1 := by
          have := dig_at h hh16
          rw [ByteArray.getElem?_lt' _ _ hh16] at this
          rw [hd1]
          exact Option.some.inj this
        have hx2 : ((({ data := #[48, 49, 50, 51, 52, 53, 54, 55, 56, 57, 97, 98, 99, 100, 101, 102] } : ByteArray)[l]'hl16).toNat : Nat) = d2 := by
          have := dig_at l hl16
          rw [ByteArray.getElem?_lt' _ _ hl16] at this
          rw [hd2]
          exact Option.some.inj this
        have hd1l : d1 < 256 := by rw [hd1]; exact dg_lt _ hh16
        have hd2l : d2 < 256 := by rw [hd2]; exact dg_lt _ hl16
        rw [← hd1, ← hd2] at HQ
        have HLIT := Lib.hid (BytesAt.lit wr #[.int .u8 92, .int .u8 (d1 : Int), .int .u8 (d2 : Int)] [92, d1, d2] rfl (by intro x hx; simp at hx; omega) (by simp) (by simp)).drew
        have HOA := Lib.hid ((HO.out.alloc (.cells #[.int .u8 92, .int .u8 (d1 : Int), .int .u8 (d2 : Int)] 5)).drew)
        have HBA := Lib.hid ((HB.out.alloc hbs (.cells #[.int .u8 92, .int .u8 (d1 : Int), .int .u8 (d2 : Int)] 5)).drew)
        clear hp hp2 hh hl hd1 hd2
        rcases hpp with i1 | ⟨i1, i2⟩ | ⟨i1, i2, i3⟩ | ⟨i1, i2, i3, i4⟩
        all_goals
          go_wp2_with fail
          go_region_law (first | (refine step_append_own_at2 rfl (.tmp 28) (.tmp 35) 30 rfl w.heap.size 5 i0 (.int .u8 0) 1 1 Tryz.underlying30 hi hz0 hz1 hz2 rfl (by decide) _ _ _ rfl HOA.out ⟨wr.heap.size, 0, none⟩ 3 3 (bv [92, d1, d2]) rfl rfl HLIT.out.src (bv_oneCell _) (by unfold maxLen; omega) (by omega) (by simp; omega) ?_; intro v2 w2 ho2 hg2 hat2))
          all_goals
            obtain ⟨g2, c2, rfl⟩ := own_some2 ho2 (by omega)
            have HB2 := Lib.hid (below_own HBA.out HOA.out hg2 (Nat.le_refl _) (by simp; omega))
            have HO2 := Lib.hid ho2
            clear ho2 hg2 hat2
            go_wp2_with fail
            go_roundw
            case rel => exact ⟨k + 1, m + 3, c2, _, by omega, by go_num, rfl, Lib.hid (by rw [HQ.out, List.length_append, ← HM.out]; rfl), Lib.hid (by rw [HQ.out, bv_append]; exact HO2.out), HB2⟩
            case measure => simp [intOf]; omega
    · obtain rfl : k = s.size := by omega
      obtain ⟨a9, c9, he9, hba, _⟩ := BytesAt.ofOwn HO.out (qs_byte s _) (by have := qs_len s s.size; have := HM.out; omega)
      simp only [Value.slice.injEq, true_and] at he9
      obtain ⟨rfl, rfl⟩ := he9
      have hcv := hba.conv
      have HB9 := HB
      clear hks hba
      go_wp2_with fail
      go_ret
      exact ⟨rfl, HB9.out⟩
end Go.Proofs.YtbdgcfimbblncaaGreatDoor
end PkMR8_1
section PkMR8_2
/- Package label's Text, walked. -/
namespace Go.Proofs.YtbdgcfimbblncaaGreatDoor
open Go.RowKit LabPlain
set_option linter.unusedVariables false

/-- a label, as it is written -/
def labText (x : Lab) : ByteArray := x.1 ++ { data := #[61, 34] } ++ bs (qs x.2 x.2.size) ++ { data := #[34] }
/-- the first k labels, as they are written -/
def textTo (l : List Lab) : Nat → ByteArray
  | 0 => { data := #[123] }
  | k + 1 => (if k = 0 then textTo l k else textTo l k ++ { data := #[44] }) ++ labText (l.getD k lab0)
def textOf (l : List Lab) : ByteArray := textTo l l.length ++ { data := #[125] }
theorem bs_size (xs : List Nat) : (bs xs).size = xs.length := by
  have h : (bs xs).size = (bs xs).data.toList.length := by rw [Array.length_toList]; rfl
  rw [h]
  simp only [bs, strOfNums_data, List.length_map]
theorem labText_size {x : Lab} (h1 : x.1.size ≤ 8) (h2 : x.2.size ≤ 16) : (labText x).size ≤ 59 := by
  have := qs_len x.2 x.2.size
  unfold labText
  rw [ByteArray.size_append, ByteArray.size_append, ByteArray.size_append, bs_size, show ({ data := #[61, 34] } : ByteArray).size = 2 from rfl, show ({ data := #[34] } : ByteArray).size = 1 from rfl]
  omega
theorem isNm_size {s : ByteArray} (h : isNm s = true) : s.size ≤ 8 := by
  unfold isNm at h
  simp only [Bool.and_eq_true, decide_eq_true_eq] at h
  exact h.1.1.2
theorem set_at {l : List Lab} (h : isSet l = true) {k : Nat} (hk : k < l.length) : (l.getD k lab0).1.size ≤ 8 ∧ (l.getD k lab0).2.size ≤ 16 := by
  unfold isSet at h
  simp only [Bool.and_eq_true, decide_eq_true_eq] at h
  have := upTo_le h.2 hk
  exact ⟨isNm_size this.1, this.2.1⟩
theorem textTo_size {l : List Lab} (h : isSet l = true) : ∀ k, k ≤ l.length → (textTo l k).size ≤ 1 + 60 * k
  | 0, _ => by show (1 : Nat) ≤ _; omega
  | k + 1, hk => by
    have ih := textTo_size h k (by omega)
    have h2 := set_at h (k := k) (by omega)
    have h3 := labText_size h2.1 h2.2
    rw [textTo, ByteArray.size_append]
    split
    · omega
    · rw [ByteArray.size_append, show ({ data := #[44] } : ByteArray).size = 1 from rfl]; omega

set_option maxRecDepth 100000 in
set_option maxHeartbeats 1000000 in
theorem text_no {w : World} {a : Option Addr} {n c : Nat} {l : List Lab} (h : LabsAt w a n c l) (hs : isSet l = false) :
    Calls Tryz.prog 115 #[.slice a n c] w fun e w' => e = .returned (.tuple #[.string { data := #[] }, .int .i64 4]) ∧ Below w.heap.size w w' := by
  have hr := right_any h
  rw [hs] at hr
  have HR := Lib.hid hr
  clear h hr hs
  go_enter Tryz.func115, Tryz.ntmps115
  go_wp2_with fail
  refine HR.out.mono ?_
  rintro e w1 ⟨rfl, hb⟩
  have HB := Lib.hid hb
  clear hb
  go_wp2_with fail
  go_ret2
  exact ⟨rfl, HB.out⟩

set_option maxRecDepth 100000 in
set_option maxHeartbeats 2000000 in
theorem text_yes {w : World} {a : Option Addr} {n c : Nat} {l : List Lab} (h : LabsAt w a n c l) (hs : isSet l = true) :
    Calls Tryz.prog 115 #[.slice a n c] w fun e w' => e = .returned (.tuple #[.string (textOf l), .int .i64 0]) ∧ Below w.heap.size w w' := by
  have hr := right_any h
  rw [hs] at hr
  have HR := Lib.hid hr
  have HH := Lib.hid h
  have HS := Lib.hid hs
  have hlen := h.len
  have hcap := h.cap
  have hcapm := h.capm
  have h4 : n ≤ 4 := by unfold isSet at hs; simp only [Bool.and_eq_true, decide_eq_true_eq] at hs; omega
  have HL := Lib.hid hlen
  clear h hr hs hlen
  go_enter Tryz.func115, Tryz.ntmps115
  go_wp2_with fail
  refine HR.out.mono ?_
  rintro e w1 ⟨rfl, hb1⟩
  have HB1 := Lib.hid hb1
  clear hb1
  go_wp2_with fail
  go_loopw [4, 12] (fun s4 s12 wr => ∃ (k : Nat) (t : ByteArray), k ≤ n ∧ s12 = .int .i64 (k : Int) ∧ s4 = .string t ∧ Hid (t = textTo l k) ∧ Hid (Below w.heap.size w wr)) (fun _ s12 _ => n - (intOf s12).toNat)
  case atStart => exact ⟨0, _, by omega, rfl, rfl, Lib.hid rfl, HB1⟩
  case round =>
    clear HB1
    obtain ⟨k, t, hk, rfl, rfl, HT, HB⟩ := hrel
    rename World => wr
    have hts : t.size ≤ 300 := by have := textTo_size HS.out k (by have := HL.out; omega); rw [HT.out]; omega
    by_cases hkn : k < n
    · obtain ⟨b, off, rfl, hlt, hcell⟩ := (HH.out.kept HB.out).cells (by omega)
      obtain ⟨h1, h2⟩ := hcell k hkn
      have hsz := set_at HS.out (k := k) (by have := HL.out; omega)
      obtain ⟨x1, hx1⟩ : ∃ x, x = (l.getD k lab0).1 := ⟨_, rfl⟩
      obtain ⟨x2, hx2⟩ : ∃ x, x = (l.getD k lab0).2 := ⟨_, rfl⟩
      rw [← hx1] at h1 hsz
      rw [← hx2] at h2 hsz
      have HX := Lib.hid (And.intro hx1 hx2)
      have hs1 := hsz.1
      have hs2 := hsz.2
      clear hcell hx1 hx2 hsz
      obtain ⟨bx, hbx⟩ : ∃ bx, bx = wr.heap.size := ⟨_, rfl⟩
      obtain ⟨w2, hw2⟩ : ∃ w2, w2 = wr.alloc (.cells #[.string x1, .string x2] 150) := ⟨_, rfl⟩
      have hb2 : Below w.heap.size w w2 := by rw [hw2]; exact HB.out.alloc HB.out.size _
      have hblk : w2.heap[bx]? = some (.cells #[.string x1, .string x2] 150 (0, 0)) := by rw [hw2, hbx]; exact heap_alloc_new wr _
      have e1 : w2.cell? ⟨bx, 0, none⟩ = some (.string x1) := by rw [cell_of_row w2 bx 0 _ _ (0, 0) hblk]; rfl
      have e2 : w2.cell? ⟨bx, 1, none⟩ = some (.string x2) := by rw [cell_of_row w2 bx 1 _ _ (0, 0) hblk]; rfl
      have hbl : bx < w2.heap.size := (Array.getElem?_eq_some_iff.1 hblk).1
      have hq := quoted_any x2 (by omega) w2.drew
      obtain ⟨q, hqe⟩ : ∃ q, q = bs (qs x2 x2.size) := ⟨_, rfl⟩
      have hqs : q.size ≤ 48 := by rw [hqe, bs_size]; have := qs_len x2 x2.size; omega
      rw [← hqe] at hq
      have HQ := Lib.hid hq
      have HQE := Lib.hid hqe
      have HB2 := Lib.hid hb2
      have HW2 := Lib.hid hw2
      have HBX := Lib.hid hbx
      clear hw2 hbx hblk hq hqe hb2
      have f1 : ¬ 9223372036854775807 < x1.size + 2 := by omega
      have f2 : ¬ 9223372036854775807 < x1.size + 2 + q.size := by omega
      have f3 : ¬ 9223372036854775807 < x1.size + 2 + q.size + 1 := by omega
      have HLT := Lib.hid (show labText (l.getD k lab0) = x1 ++ { data := #[61, 34] } ++ q ++ { data := #[34] } by unfold labText; rw [← HX.out.1, ← HX.out.2, ← HQE.out])
      rcases Nat.eq_zero_or_pos k with rfl | hk0
      · rw [Nat.zero_mul, Nat.add_zero] at h1 h2
        have f4 : ¬ 9223372036854775807 < t.size + (x1.size + 2 + q.size + 1) := by omega
        have HTN := Lib.hid (show textTo l (0 + 1) = t ++ (x1 ++ { data := #[61, 34] } ++ q ++ { data := #[34] }) by rw [textTo, if_pos rfl, HLT.out, ← HT.out])
        go_wp2_with fail
        rw [← HW2.out, ← HBX.out]
        go_region_held3 (fun w' => w'.cell? ⟨bx, 0, none⟩ = some (.string x1) ∧ w'.cell? ⟨bx, 1, none⟩ = some (.string x2)) (first | go_keep | exact ⟨(hbq.cell (p := ⟨bx, 0, none⟩) hbl).trans e1, (hbq.cell (p := ⟨bx, 1, none⟩) hbl).trans e2⟩) (first | (go_at_call 139; refine HQ.out.mono ?_; rintro r w3 ⟨rfl, hbq⟩))
        have HB3 := Lib.hid (HB2.out.drew.trans (hbq.mono HB2.out.size))
        clear hbq
        go_wp2_with fail
        go_roundw
        case rel => exact ⟨1, _, by omega, by go_num, rfl, Lib.hid HTN.out.symm, HB3⟩
        case measure => simp [intOf]; omega
      · have hk0i : (1 : Int) ≤ (k : Int) := by omega
        have hk0j : (0 : Int) < (k : Int) := by omega
        have f0 : ¬ 9223372036854775807 < t.size + 1 := by omega
        have f4 : ¬ 9223372036854775807 < t.size + 1 + (x1.size + 2 + q.size + 1) := by omega
        have HTN := Lib.hid (show textTo l (k + 1) = t ++ { data := #[44] } ++ (x1 ++ { data := #[61, 34] } ++ q ++ { data := #[34] }) by rw [textTo, if_neg (by omega), HLT.out, ← HT.out])
        go_wp2_with fail
        rw [← HW2.out, ← HBX.out]
        go_region_held3 (fun w' => w'.cell? ⟨bx, 0, none⟩ = some (.string x1) ∧ w'.cell? ⟨bx, 1, none⟩ = some (.string x2)) (first | go_keep | exact ⟨(hbq.cell (p := ⟨bx, 0, none⟩) hbl).trans e1, (hbq.cell (p := ⟨bx, 1, none⟩) hbl).trans e2⟩) (first | (go_at_call 139; refine HQ.out.mono ?_; rintro r w3 ⟨rfl, hbq⟩))
        have HB3 := Lib.hid (HB2.out.drew.trans (hbq.mono HB2.out.size))
        clear hbq
        go_wp2_with fail
        go_roundw
        case rel => exact ⟨k + 1, _, by omega, by go_num, rfl, Lib.hid HTN.out.symm, HB3⟩
        case measure => simp [intOf]; omega
    · obtain rfl : k = n := by omega
      have f0 : ¬ 9223372036854775807 < t.size + 1 := by omega
      have HTX := Lib.hid (show textOf l = t ++ { data := #[125] } by unfold textOf; rw [HL.out, ← HT.out])
      clear hkn
      go_wp2_with fail
      go_ret2
      rw [HTX.out]
      exact ⟨rfl, HB.out⟩
end Go.Proofs.YtbdgcfimbblncaaGreatDoor
end PkMR8_2
section PkMR8_3
/- Labels: the reference's Byte, Value, Text, walked. -/
namespace Go.Proofs.YtbdgcfimbblncaaGreatDoor
open Go.RowKit LabPlain
set_option linter.unusedVariables false

theorem bs_append (xs ys : List Nat) : bs (xs ++ ys) = bs xs ++ bs ys := by
  apply toList_inj
  rw [ByteArray.toList_eq, ByteArray.toList_eq, ByteArray.data_append, Array.toList_append]
  simp only [bs, strOfNums_data, List.map_append]
theorem qb_len (c : Nat) : (qb c).length ≤ 3 := by unfold qb; split <;> simp

set_option maxRecDepth 100000 in
set_option maxHeartbeats 1000000 in
theorem byte_any (c : Nat) (hcl : c < 256) (w : World) :
    Calls Tryz.prog 133 #[.int .u8 (c : Int)] w fun e w' => e = .returned (.string (bs (qb c))) ∧ Below w.heap.size w w' := by
  by_cases hp : plainC c = true
  · have hpp : 32 ≤ c ∧ c ≤ 126 ∧ c ≠ 34 ∧ c ≠ 92 := by simpa [plainC, and_assoc] using hp
    obtain ⟨p1, p2, p3, p4⟩ := hpp
    have HQ := Lib.hid (show qb c = [c] by unfold qb; rw [if_pos hp])
    have i1 : (32 : Int) ≤ (c : Int) := by omega
    have i2 : (c : Int) ≤ 126 := by omega
    have i3 : ((c : Int) != 34) = true := by rw [bne_iff_ne]; omega
    have i4 : ((c : Int) != 92) = true := by rw [bne_iff_ne]; omega
    have hcv : (convert 30 9 (.slice (some ⟨w.heap.size, 0, none⟩) 1 1)).run Tryz.prog (w.alloc (.cells #[.int .u8 (c : Int)] 5)) = .ok (.string (bs [c])) (w.alloc (.cells #[.int .u8 (c : Int)] 5)) := (BytesAt.lit w #[.int .u8 (c : Int)] [c] rfl (by intro x hx; simp at hx; omega) (by simp) (by simp)).conv
    have HB := Lib.hid (show Below w.heap.size w (w.alloc (.cells #[.int .u8 (c : Int)] 5)) from (Below.refl _ _).alloc (Nat.le_refl _) _)
    clear p1 p2 p3 p4 hp
    go_enter Tryz.func133, Tryz.ntmps133
    go_wp2_with fail
    go_ret
    rw [HQ.out]; exact ⟨rfl, HB.out⟩
  · have hp2 : plainC c = false := by simpa using hp
    have HQ := Lib.hid (show qb c = [92, dg (c / 16), dg (c % 16)] by unfold qb; rw [if_neg hp])
    have hpp : ((c : Int) < 32) ∨ ((32 : Int) ≤ (c : Int) ∧ (126 : Int) < (c : Int)) ∨ ((32 : Int) ≤ (c : Int) ∧ (c : Int) ≤ 126 ∧ ((c : Int) != 34) = false) ∨ ((32 : Int) ≤ (c : Int) ∧ (c : Int) ≤ 126 ∧ ((c : Int) != 34) = true ∧ ((c : Int) != 92) = false) := by
      simp [plainC] at hp2
      simp only [bne_iff_ne, bne_eq_false_iff_eq]
      omega
    obtain ⟨h, hh⟩ : ∃ h, h = c / 16 := ⟨_, rfl⟩
    obtain ⟨l, hl⟩ : ∃ l, l = c % 16 := ⟨_, rfl⟩
    have hdiv : (c : Int) / 16 = (h : Int) := by omega
    have hmod : (c : Int) % 16 = (l : Int) := by omega
    have hdiv2 : (c : Int).tdiv 16 = (h : Int) := by rw [Int.tdiv_eq_ediv_of_nonneg (by omega)]; exact hdiv
    have hmod2 : (c : Int).tmod 16 = (l : Int) := by rw [Int.tmod_eq_emod_of_nonneg (by omega)]; exact hmod
    have hh16 : h < 16 := by omega
    have hl16 : l < 16 := by omega
    have hhi : (h : Int) < 16 := by omega
    have hli : (l : Int) < 16 := by omega
    rw [← hl, ← hh] at HQ
    obtain ⟨d1, hd1⟩ : ∃ d, d = dg h := ⟨_, rfl⟩
    obtain ⟨d2, hd2⟩ : ∃ d, d = dg l := ⟨_, rfl⟩
    have hx1 : ((({ data := #[48, 49, 50, 51, 52, 53, 54, 55, 56, 57, 97, 98, 99, 100, 101, 102] } : ByteArray)[h]'hh16).toNat : Nat) = d1 := by
      have := dig_at h hh16
      rw [ByteArray.getElem?_lt' _ _ hh16] at this
      rw [hd1]
      exact Option.some.inj this
    have hx2 : ((({ data := #[48, 49, 50, 51, 52, 53, 54, 55, 56, 57, 97, 98, 99, 100, 101, 102] } : ByteArray)[l]'hl16).toNat : Nat) = d2 := by
      have := dig_at l hl16
      rw [ByteArray.getElem?_lt' _ _ hl16] at this
      rw [hd2]
      exact Option.some.inj this
    have hd1l : d1 < 256 := by rw [hd1]; exact dg_lt _ hh16
    have hd2l : d2 < 256 := by rw [hd2]; exact dg_lt _ hl16
    rw [← hd1, ← hd2] at HQ
    have hcv : (convert 30 9 (.slice (some ⟨w.heap.size, 0, none⟩) 3 3)).run Tryz.prog (w.alloc (.cells #[.int .u8 92, .int .u8 (d1 : Int), .int .u8 (d2 : Int)] 5)).drew = .ok (.string (bs [92, d1, d2])) (w.alloc (.cells #[.int .u8 92, .int .u8 (d1 : Int), .int .u8 (d2 : Int)] 5)).drew := ((BytesAt.lit w #[.int .u8 92, .int .u8 (d1 : Int), .int .u8 (d2 : Int)] [92, d1, d2] rfl (by intro x hx; simp at hx; omega) (by simp) (by simp)).drew).conv
    have HB := Lib.hid (show Below w.heap.size w ((w.alloc (.cells #[.int .u8 92, .int .u8 (d1 : Int), .int .u8 (d2 : Int)] 5)).drew) from ((Below.refl _ _).alloc (Nat.le_refl _) _).drew)
    clear hp hp2 hh hl hd1 hd2
    rcases hpp with i1 | ⟨i1, i2⟩ | ⟨i1, i2, i3⟩ | ⟨i1, i2, i3, i4⟩
    all_goals
      go_enter Tryz.func133, Tryz.ntmps133
      go_wp2_with fail
      go_region
      go_wp2_with fail
      go_ret
      rw [HQ.out]; exact ⟨rfl, HB.out⟩


end Go.Proofs.YtbdgcfimbblncaaGreatDoor
end PkMR8_3
section PkMR8_4
/- Labels: the reference's Same and Twin, walked. -/
namespace Go.Proofs.YtbdgcfimbblncaaGreatDoor
open Go.RowKit LabPlain
set_option linter.unusedVariables false

theorem labs_ext {l m : List Lab} (hl : l.length = m.length) (h : ∀ i, i < l.length → l.getD i lab0 = m.getD i lab0) : l = m := by
  refine List.ext_getElem hl fun i h1 h2 => ?_
  have := h i h1
  simpa [h1, h2] using this
@[go_sem] theorem eq_lab (x1 x2 y1 y2 : ByteArray) (w : World) : (Op.equalIn 10000 150 (.agg #[.string x1, .string x2]) (.agg #[.string y1, .string y2])).run Tryz.prog w = .ok (x1.toList == y1.toList && x2.toList == y2.toList) w := by
  have us := Tryz.underlying9
  have ag := Tryz.isAgg9
  have zs := Tryz.sizeOf9
  have hS : Tryz.prog.underlying 150 = some (.struct (Tryz.prog.fieldsOf 150)) := by kernel_rfl
  have hp : Tryz.prog.stoodInHeld 150 = false := by kernel_rfl
  rw [show (10000 : Nat) = 9999 + 1 from rfl, run_equalIn_agg w 9999 150 _ _ hS hp]
  simp only [Program.fieldsOf, Tryz.underlying150]
  go_simp
  cases h1 : (x1.toList == y1.toList) <;> cases h2 : (x2.toList == y2.toList) <;> simp_all
@[go_sem] theorem guard_lab (x y : Operand) (xs ys : Array Value) (w : World) : (eqGuard .neq 150 x y (.agg xs) (.agg ys)).run Tryz.prog w = .ok () w := run_eqGuard_agg w .neq 150 x y xs ys (by kernel_rfl)
@[go_sem] theorem neq_lab (x1 x2 y1 y2 : ByteArray) (w : World) : (binOp .neq 150 (.agg #[.string x1, .string x2]) (.agg #[.string y1, .string y2])).run Tryz.prog w = .ok (.bool (!(x1.toList == y1.toList && x2.toList == y2.toList))) w := by
  rw [run_neq_struct, eq_lab]; rfl

/-- the cells of labels, in a row -/
def lcells (l : List Lab) : List Value := l.flatMap fun x => [.string x.1, .string x.2]
theorem lcells_len (l : List Lab) : (lcells l).length = l.length * 2 := by
  induction l with
  | nil => rfl
  | cons x r ih =>
    have : lcells (x :: r) = .string x.1 :: .string x.2 :: lcells r := rfl
    rw [this, List.length_cons, List.length_cons, ih, List.length_cons]; omega
theorem lcells_at : ∀ (l : List Lab) (i : Nat), i < l.length → (lcells l)[i * 2]? = some (.string (l.getD i lab0).1) ∧ (lcells l)[i * 2 + 1]? = some (.string (l.getD i lab0).2)
  | x :: r, 0, _ => ⟨rfl, rfl⟩
  | x :: r, i + 1, h => by
    have hc : lcells (x :: r) = .string x.1 :: .string x.2 :: lcells r := rfl
    have := lcells_at r i (by simpa using h)
    rw [hc, show (i + 1) * 2 = i * 2 + 1 + 1 from by omega]
    simpa using this
theorem lcells_one (l : List Lab) : ∀ u ∈ lcells l, u.oneCell' = true := by
  intro u hu
  obtain ⟨x, _, hx⟩ := List.mem_flatMap.1 hu
  simp at hx
  rcases hx with rfl | rfl <;> rfl
theorem lab_info : (Tryz.prog.info? 150).map (fun i => (i.zero, i.size, i.bytes)) = some (some (.agg #[.string ByteArray.empty, .string ByteArray.empty]), 2, 32) := by kernel_rfl
theorem LabsAt.src {w : World} {ad : Addr} {n c : Nat} {l : List Lab} (h : LabsAt w (some ad) n c l) : ∀ j u, (lcells l)[j]? = some u → w.cell? (ad.add j) = some u := by
  intro j u hj
  have hlt : j < n * 2 := by
    have := (List.getElem?_eq_some_iff.1 hj).1
    rw [lcells_len, h.len] at this; exact this
  obtain ⟨b, off, ha, _, hc⟩ := h.cells (by omega)
  cases ha
  have hadd : (⟨b, off, none⟩ : Addr).add j = ⟨b, off + j, none⟩ := by unfold Addr.add; split <;> simp_all
  rw [hadd]
  have hlt2 : j / 2 < l.length := by rw [h.len]; omega
  have h1 := hc (j / 2) (by omega)
  have h2 := lcells_at l (j / 2) hlt2
  rcases Nat.mod_two_eq_zero_or_one j with g | g
  · have e : j / 2 * 2 = j := by omega
    rw [e] at h1 h2
    rw [h1.1, ← h2.1, hj]
  · have e : j / 2 * 2 + 1 = j := by omega
    rw [show off + j / 2 * 2 + 1 = off + (j / 2 * 2 + 1) from by omega, e] at h1
    rw [e] at h2
    rw [h1.2, ← h2.2, hj]
/-- labels that a call owns -/
theorem LabsAt.ofOwn {w : World} {base n : Nat} {v : Value} {l : List Lab} (h : w.ownsRow base 150 2 v n (lcells l)) (hn : l.length = n) (hs : ∀ x ∈ l, x.1.size ≤ 140737488355328 ∧ x.2.size ≤ 140737488355328) : ∃ a c, v = .slice a n c ∧ LabsAt w a n c l := by
  rcases h.2 with ⟨rfl, h0⟩ | ⟨g, cap, cur, rfl, hg, hh, hnc, hcap, hsz, htake⟩
  · subst h0
    obtain rfl : l = [] := List.eq_nil_of_length_eq_zero hn
    exact ⟨none, 0, rfl, LabsAt.empty w none 0 (by omega) (fun _ => rfl)⟩
  · refine ⟨_, cap, rfl, hn, hnc, by unfold maxLen at hcap; exact hcap, (fun e => by cases e), hs, fun hp => ⟨g, 0, rfl, (Array.getElem?_eq_some_iff.1 hh).1, fun i hi => ?_⟩⟩
    have h2 := lcells_at l i (by omega)
    have hcu : ∀ j, j < n * 2 → w.cell? ⟨g, 0 + j, none⟩ = (lcells l)[j]? := by
      intro j hj
      rw [Nat.zero_add, cell_of_row w _ _ _ _ (0, 0) hh, ← htake, List.getElem?_take_of_lt hj, Array.getElem?_toList]
    rw [show 0 + i * 2 + 1 = 0 + (i * 2 + 1) from by omega, hcu _ (by omega), hcu _ (by omega)]
    exact h2
end Go.Proofs.YtbdgcfimbblncaaGreatDoor
end PkMR8_4
section PkMR8_5
/- Labels: the reference's Twin, walked. -/
namespace Go.Proofs.YtbdgcfimbblncaaGreatDoor
open Go.RowKit LabPlain
set_option linter.unusedVariables false

end Go.Proofs.YtbdgcfimbblncaaGreatDoor
end PkMR8_5
section PkMR8_6
/- Put together out of XLabStrs, XLabTwicePlain. -/
section SecLabStrP0
/- Slices of strings; slices.Contains, and package label's and the reference's Part, walked. -/
namespace Go.Proofs.YtbdgcfimbblncaaGreatDoor
open Go.RowKit LabPlain Go.ChangeShapes Go.WideShapes
set_option linter.unusedVariables false

structure StrsAt (w : World) (a : Option Addr) (n c : Nat) (ss : List ByteArray) : Prop where
  len : ss.length = n
  cap : n ≤ c
  capm : c ≤ 9223372036854775807
  nl : a = none → c = 0
  cells : 0 < n → ∃ b off, a = some ⟨b, off, none⟩ ∧ b < w.heap.size ∧ ∀ i, i < n → w.cell? ⟨b, off + i, none⟩ = some (.string (ss.getD i ByteArray.empty))
theorem StrsAt.keep {w w' : World} {a : Option Addr} {n c : Nat} {ss : List ByteArray} (h : StrsAt w a n c ss) {B : Nat} (hb : Below B w w') (hB : w.heap.size ≤ B) : StrsAt w' a n c ss :=
  ⟨h.len, h.cap, h.capm, h.nl, fun hn => by
    obtain ⟨b, off, ha, hlt, hc⟩ := h.cells hn
    exact ⟨b, off, ha, Nat.lt_of_lt_of_le hlt hb.size, fun i hi => (hb.cell (p := ⟨b, off + i, none⟩) (Nat.lt_of_lt_of_le hlt hB)).trans (hc i hi)⟩⟩
theorem StrsAt.kept {w w' : World} {a : Option Addr} {n c : Nat} {ss : List ByteArray} (h : StrsAt w a n c ss) (hb : Below w.heap.size w w') : StrsAt w' a n c ss := h.keep hb (Nat.le_refl _)
theorem StrsAt.empty (w : World) (a : Option Addr) (c : Nat) (hc : c ≤ 9223372036854775807) (ha : a = none → c = 0) : StrsAt w a 0 c [] :=
  ⟨rfl, Nat.zero_le _, hc, ha, fun h => absurd h (Nat.lt_irrefl 0)⟩
theorem open_strs {H : Type} {enc : TypeId × Value → H} {W : World} {fuel : Nat} {a : Option Addr} {len cap : Nat} {x : DataW H × List MemPlace}
    (hf : DataW.trod enc Tryz.prog W 0 (fun _ => true) true fuel 46 [.slice a len cap] = some x) : ∃ z : List ByteArray, StrsAt W a len cap z := by
  rcases open_strings Tryz.underlying46 Tryz.underlying9 (by kernel_rfl) hf with ⟨hcs, _⟩ | ⟨x0, l, c, ss, hcs, _, hl, hm, hlen, _, hc, _⟩
  · simp at hcs
    obtain ⟨rfl, rfl, rfl⟩ := hcs
    exact ⟨[], StrsAt.empty W none 0 (by omega) (fun _ => rfl)⟩
  · simp at hcs
    obtain ⟨rfl, rfl, rfl⟩ := hcs
    have hlen2 : ss.length = cap := by simpa using hlen
    refine ⟨ss.take len, by rw [List.length_take]; omega, hl, by unfold maxLen at hm; exact hm, (fun e => by cases e), fun hp => ?_⟩
    obtain ⟨b, off, spot⟩ := x0
    have hc0 := hc 0 (by omega)
    have hspot : spot = none := by simpa [Addr.add] using World.cell?_spot hc0
    subst hspot
    have h4 : ∀ (b off j : Nat), (⟨b, off, none⟩ : Addr).add j = ⟨b, off + j, none⟩ := by intro b off j; unfold Addr.add; split <;> simp_all
    refine ⟨b, off, rfl, ?_, fun i hi => ?_⟩
    · have := World.block_lt_of_cell? W _ hc0
      simpa [Addr.add] using this
    · have h1 := hc i (by omega)
      rw [h4] at h1
      rw [h1, List.getD_eq_getElem?_getD, List.getD_eq_getElem?_getD, List.getElem?_take_of_lt hi]

/-- is a text among them? -/
def memB (ss : List ByteArray) (x : ByteArray) : Bool := ss.any fun y => decide (y = x)
theorem memB_yes {ss : List ByteArray} {x : ByteArray} {k : Nat} (hk : k < ss.length) (h : ss.getD k ByteArray.empty = x) : memB ss x = true := by
  unfold memB
  rw [List.any_eq_true]
  refine ⟨ss[k], List.getElem_mem hk, decide_eq_true ?_⟩
  simpa [hk] using h
theorem memB_no {ss : List ByteArray} {x : ByteArray} (h : ∀ i, i < ss.length → ss.getD i ByteArray.empty ≠ x) : memB ss x = false := by
  unfold memB
  rw [List.any_eq_false]
  intro y hy
  obtain ⟨i, hi, rfl⟩ := List.getElem_of_mem hy
  have := h i hi
  simpa [hi] using this


/-- the labels of some names, out of the first k -/
def partTo (l : List Lab) (ss : List ByteArray) : Nat → List Lab
  | 0 => []
  | k + 1 => partTo l ss k ++ (if memB ss (l.getD k lab0).1 then [l.getD k lab0] else [])
theorem partTo_len (l : List Lab) (ss : List ByteArray) : ∀ k, (partTo l ss k).length ≤ k
  | 0 => Nat.le_refl _
  | k + 1 => by
    have := partTo_len l ss k
    rw [partTo, List.length_append]
    split <;> simp <;> omega
theorem partTo_mem (l : List Lab) (ss : List ByteArray) : ∀ k, k ≤ l.length → ∀ x ∈ partTo l ss k, x ∈ l
  | 0, _, x, h => by cases h
  | k + 1, hk, x, h => by
    rw [partTo] at h
    rcases List.mem_append.1 h with h | h
    · exact partTo_mem l ss k (by omega) x h
    · split at h
      · rw [List.mem_singleton] at h; rw [h]; exact lab_mem (by omega)
      · cases h
theorem lcells_append (l m : List Lab) : lcells (l ++ m) = lcells l ++ lcells m := by unfold lcells; rw [List.flatMap_append]

theorem two_src (w : World) (x y : Value) (t : TypeId) : ∀ j u, ([x, y] : List Value)[j]? = some u → (w.alloc (.cells #[x, y] t)).cell? ((⟨w.heap.size, 0, none⟩ : Addr).add j) = some u := by
  intro j u hj
  have hblk := heap_alloc_new w (.cells #[x, y] t)
  have hadd : (⟨w.heap.size, 0, none⟩ : Addr).add j = ⟨w.heap.size, 0 + j, none⟩ := by unfold Addr.add; split <;> simp_all
  rw [hadd, Nat.zero_add, cell_of_row _ _ _ _ _ (0, 0) hblk, ← hj]
  simp
end Go.Proofs.YtbdgcfimbblncaaGreatDoor
end SecLabStrP0
section SecLabStrP1
/- Parting labels twice, plainly; the part of a set is a set. -/
namespace Go.Proofs.YtbdgcfimbblncaaGreatDoor
open LabPlain
set_option linter.unusedVariables false

theorem memB_iff (ss : List ByteArray) (z : ByteArray) : memB ss z = true ↔ z ∈ ss := by
  unfold memB
  rw [List.any_eq_true]
  exact ⟨fun ⟨y, hy, h⟩ => by rw [← of_decide_eq_true h]; exact hy, fun h => ⟨z, h, decide_eq_true rfl⟩⟩
theorem mem_getD (ss : List ByteArray) (z : ByteArray) : z ∈ ss ↔ ∃ i, i < ss.length ∧ z = ss.getD i ByteArray.empty := by
  constructor
  · intro h
    obtain ⟨i, hi, rfl⟩ := List.getElem_of_mem h
    exact ⟨i, hi, by simp [hi]⟩
  · rintro ⟨i, hi, rfl⟩
    have : ss.getD i ByteArray.empty = ss[i] := by simp [hi]
    rw [this]; exact List.getElem_mem hi
def inTo (x : ByteArray) (bs : List ByteArray) : Nat → List ByteArray
  | 0 => []
  | j + 1 => inTo x bs j ++ (if x = bs.getD j ByteArray.empty then [x] else [])
def outTo (us bs : List ByteArray) : Nat → List ByteArray
  | 0 => []
  | i + 1 => outTo us bs i ++ inTo (us.getD i ByteArray.empty) bs bs.length
theorem inTo_len (x : ByteArray) (bs : List ByteArray) : ∀ j, (inTo x bs j).length ≤ j
  | 0 => Nat.le_refl _
  | j + 1 => by
    have := inTo_len x bs j
    rw [inTo, List.length_append]
    split <;> simp <;> omega
theorem outTo_len (us bs : List ByteArray) : ∀ i, (outTo us bs i).length ≤ bs.length * i
  | 0 => Nat.le_refl _
  | i + 1 => by
    have := outTo_len us bs i
    have h2 := inTo_len (us.getD i ByteArray.empty) bs bs.length
    rw [outTo, List.length_append, Nat.mul_succ]; omega
theorem in_mem (x z : ByteArray) (bs : List ByteArray) : ∀ j, z ∈ inTo x bs j ↔ z = x ∧ ∃ i, i < j ∧ x = bs.getD i ByteArray.empty
  | 0 => ⟨fun h => (by cases h), fun ⟨_, i, hi, _⟩ => absurd hi (Nat.not_lt_zero _)⟩
  | j + 1 => by
    rw [inTo, List.mem_append, in_mem x z bs j]
    constructor
    · rintro (⟨rfl, i, hi, he⟩ | h)
      · exact ⟨rfl, i, by omega, he⟩
      · split at h
        · rename_i he; rw [List.mem_singleton] at h; exact ⟨h, j, by omega, he⟩
        · cases h
    · rintro ⟨rfl, i, hi, he⟩
      rcases Nat.lt_or_ge i j with g | g
      · exact .inl ⟨rfl, i, g, he⟩
      · obtain rfl : i = j := by omega
        right; rw [if_pos he]; exact List.mem_singleton.2 rfl
theorem out_mem (z : ByteArray) (us bs : List ByteArray) : ∀ i, z ∈ outTo us bs i ↔ ∃ k, k < i ∧ z ∈ inTo (us.getD k ByteArray.empty) bs bs.length
  | 0 => ⟨fun h => (by cases h), fun ⟨i, hi, _⟩ => absurd hi (Nat.not_lt_zero _)⟩
  | i + 1 => by
    rw [outTo, List.mem_append, out_mem z us bs i]
    constructor
    · rintro (⟨k, hk, he⟩ | h)
      · exact ⟨k, by omega, he⟩
      · exact ⟨i, by omega, h⟩
    · rintro ⟨k, hk, he⟩
      rcases Nat.lt_or_ge k i with g | g
      · exact .inl ⟨k, g, he⟩
      · obtain rfl : k = i := by omega
        exact .inr he
theorem both_mem (us bs : List ByteArray) (z : ByteArray) : memB (outTo us bs us.length) z = (memB us z && memB bs z) := by
  rw [Bool.eq_iff_iff, Bool.and_eq_true, memB_iff, memB_iff, memB_iff, out_mem]
  constructor
  · rintro ⟨k, hk, h⟩
    obtain ⟨h1, i, hi, h2⟩ := (in_mem _ _ _ _).1 h
    exact ⟨(mem_getD _ _).2 ⟨k, hk, h1⟩, (mem_getD _ _).2 ⟨i, hi, by rw [h1]; exact h2⟩⟩
  · rintro ⟨h1, h2⟩
    obtain ⟨k, hk, h1⟩ := (mem_getD _ _).1 h1
    obtain ⟨i, hi, h2⟩ := (mem_getD _ _).1 h2
    exact ⟨k, hk, (in_mem _ _ _ _).2 ⟨h1, i, hi, by rw [← h1]; exact h2⟩⟩
theorem partTo_filter (l : List Lab) (ss : List ByteArray) : ∀ k, k ≤ l.length → partTo l ss k = (l.take k).filter (fun x => memB ss x.1)
  | 0, _ => by simp [partTo]
  | k + 1, hk => by
    have hg : l.getD k lab0 = l[k]'hk := by simp [show k < l.length from hk]
    rw [partTo, partTo_filter l ss k (by omega), List.take_succ_eq_append_getElem hk, List.filter_append, hg]
    congr 1
    cases h : memB ss (l[k]'hk).1 <;> simp [h]
theorem part_filter (l : List Lab) (ss : List ByteArray) : partTo l ss l.length = l.filter (fun x => memB ss x.1) := by
  rw [partTo_filter l ss _ (Nat.le_refl _), List.take_length]
theorem part_twice (l : List Lab) (us bs : List ByteArray) : partTo (partTo l us l.length) bs (partTo l us l.length).length = partTo l (outTo us bs us.length) l.length := by
  rw [part_filter, part_filter, part_filter, List.filter_filter]
  congr 1
  funext x
  rw [both_mem, Bool.and_comm]
theorem isSet_iff (l : List Lab) : isSet l = true ↔ l.length ≤ 4 ∧ (∀ x ∈ l, isNm x.1 = true ∧ x.2.size ≤ 16) ∧ l.Pairwise (fun x y => ltB x.1 y.1 = true) := by
  unfold isSet
  rw [Bool.and_eq_true, decide_eq_true_eq]
  constructor
  · rintro ⟨h4, h⟩
    refine ⟨h4, fun x hx => ?_, ?_⟩
    · obtain ⟨i, hi, rfl⟩ := List.getElem_of_mem hx
      have := upTo_le h hi
      rw [show l.getD i lab0 = l[i] by simp [hi]] at this
      exact ⟨this.1, this.2.1⟩
    · rw [List.pairwise_iff_getElem]
      intro i j hi hj hij
      have := upTo_lt h (j - (i + 1)) i (by omega)
      rw [show i + 1 + (j - (i + 1)) = j from by omega, show l.getD i lab0 = l[i] by simp [hi], show l.getD j lab0 = l[j] by simp [hj]] at this
      exact this
  · rintro ⟨h4, h1, h2⟩
    refine ⟨h4, ?_⟩
    have : ∀ k, k ≤ l.length → upTo l k = true := by
      intro k
      induction k with
      | zero => intro _; rfl
      | succ k ih =>
        intro hk
        have hm := h1 _ (List.getElem_mem (show k < l.length from hk))
        rw [upTo, ih (by omega), show l.getD k lab0 = l[k]'hk by simp [show k < l.length from hk], hm.1, decide_eq_true hm.2]
        rcases Nat.eq_zero_or_pos k with g | g
        · subst g; rfl
        · have := (List.pairwise_iff_getElem.1 h2) (k - 1) k (by omega) hk (by omega)
          rw [show l.getD (k - 1) lab0 = l[k - 1]'(by omega) by simp [show k - 1 < l.length by omega], this]; simp
    exact this _ (Nat.le_refl _)
theorem part_set {l : List Lab} (h : isSet l = true) (ss : List ByteArray) : isSet (partTo l ss l.length) = true := by
  rw [part_filter]
  obtain ⟨h4, h1, h2⟩ := (isSet_iff l).1 h
  exact (isSet_iff _).2 ⟨Nat.le_trans (List.length_filter_le _ _) h4, fun x hx => h1 x (List.mem_filter.1 hx).1, h2.filter _⟩
end Go.Proofs.YtbdgcfimbblncaaGreatDoor
end SecLabStrP1
end PkMR8_6
