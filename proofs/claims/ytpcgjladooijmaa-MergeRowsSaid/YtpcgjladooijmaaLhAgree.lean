/- What comes of merging depends on what the rows say only. Plain. -/
import Derived.Test.YtpcgjladooijmaaLhRows
namespace Go.Proofs.Ytpcgjladooijmaa
open Go.ChangeShapes Go.WideShapes Go.Deep Go.RowKit LabPlain RecPlain
set_option linter.unusedVariables false

abbrev Say := Int × Int × List Lab × ByteArray × Int × Bool × Int × Int × Int
def rkS (s : Say) : Int := ((s.2.1 * 36893488147419103232 + s.2.2.2.2.2.2.1) * 36893488147419103232 + s.2.2.2.2.2.2.2.1) * 36893488147419103232 + s.2.2.2.2.2.2.2.2
theorem rank_says (x : RowV) : x.rank = rkS x.says := rfl
theorem says_pw_le {l : List RowV} : l.Pairwise (fun a b => a.rank ≤ b.rank) ↔ (l.map RowV.says).Pairwise (fun a b => rkS a ≤ rkS b) := by rw [List.pairwise_map]; rfl
theorem says_pw_lt {l : List RowV} : l.Pairwise (fun a b => a.rank < b.rank) ↔ (l.map RowV.says).Pairwise (fun a b => rkS a < rkS b) := by rw [List.pairwise_map]; rfl
theorem strict_perm {l m : List Say} (hp : l.Perm m) (hl : l.Pairwise (fun a b => rkS a < rkS b)) (hm : m.Pairwise (fun a b => rkS a ≤ rkS b)) : m.Pairwise (fun a b => rkS a < rkS b) := by
  have h1 : l.Pairwise (fun a b => rkS a ≠ rkS b) := hl.imp (fun h e => by omega)
  have h2 : m.Pairwise (fun a b => rkS a ≠ rkS b) := (hp.pairwise_iff (fun h e => h e.symm)).1 h1
  exact (hm.and h2).imp (fun h => by have := h.1; have := h.2; omega)
theorem strict_eq : ∀ {l m : List Say}, l.Perm m → l.Pairwise (fun a b => rkS a < rkS b) → m.Pairwise (fun a b => rkS a < rkS b) → l = m
  | [], m, hp, _, _ => hp.nil_eq
  | x :: l, [], hp, _, _ => absurd hp.length_eq (by simp)
  | x :: l, y :: m, hp, hl, hm => by
    have hxy : x = y := by
      have h1 : x ∈ y :: m := hp.mem_iff.1 (by simp)
      have h2 : y ∈ x :: l := hp.mem_iff.2 (by simp)
      rcases List.mem_cons.1 h1 with e | e
      · exact e
      · rcases List.mem_cons.1 h2 with e2 | e2
        · exact e2.symm
        · have a := (List.pairwise_cons.1 hl).1 y e2
          have b := (List.pairwise_cons.1 hm).1 x e
          omega
    subst hxy
    rw [strict_eq hp.cons_inv (List.pairwise_cons.1 hl).2 (List.pairwise_cons.1 hm).2]
/-- what merge.Rows hands out -/
def MrOut (ls : List LsV) (N : Nat) (rs : List RowV) (er : Int) : Prop :=
  (er = 4 ∧ N = 0 ∧ ∃ x ∈ ls, rises x.rs = false) ∨
  ((∀ x ∈ ls, rises x.rs = true) ∧ ∃ out : List RowV, out.Perm (ls.flatMap LsV.rs) ∧ out.Pairwise (fun a b => a.rank ≤ b.rank) ∧ ((er = 18 ∧ N = 0 ∧ rises out = false) ∨ (er = 0 ∧ rises out = true ∧ rs.map RowV.says = out.map RowV.says)))
theorem rises_iff {l : List RowV} (hf : ∀ x ∈ l, x.fits) : rises l = true ↔ (l.map RowV.says).Pairwise (fun a b => rkS a < rkS b) := by
  rw [← says_pw_lt]
  exact ⟨rises_pw hf, pw_rises hf⟩
theorem mr_agree {ls ls' : List LsV} {N N' : Nat} {rs rs' : List RowV} {er er' : Int} (hn : rs.length = N) (hn' : rs'.length = N')
    (hm : (∃ x ∈ ls, rises x.rs = false) ↔ ∃ x ∈ ls', rises x.rs = false) (hp : ((ls.flatMap LsV.rs).map RowV.says).Perm ((ls'.flatMap LsV.rs).map RowV.says))
    (hf : ∀ x ∈ ls.flatMap LsV.rs, x.fits) (hf' : ∀ x ∈ ls'.flatMap LsV.rs, x.fits) (h : MrOut ls N rs er) (h' : MrOut ls' N' rs' er') : er = er' ∧ rs.map RowV.says = rs'.map RowV.says := by
  have hno : ∀ {l : List LsV}, (∀ x ∈ l, rises x.rs = true) → ¬ ∃ x ∈ l, rises x.rs = false := fun h1 h2 => by
    obtain ⟨x, hx, e⟩ := h2
    rw [h1 x hx] at e; cases e
  have hnil : ∀ {l : List RowV} {n : Nat}, l.length = n → n = 0 → l = [] := fun h1 h2 => List.eq_nil_of_length_eq_zero (h1.trans h2)
  rcases h with ⟨h1, h2, h3⟩ | ⟨h1, out, h2, h3, h4⟩
  · rcases h' with ⟨k1, k2, k3⟩ | ⟨k1, _⟩
    · rw [hnil hn h2, hnil hn' k2]
      exact ⟨by rw [h1, k1], rfl⟩
    · exact absurd (hm.1 h3) (hno k1)
  · rcases h' with ⟨k1, k2, k3⟩ | ⟨k1, out', k2, k3, k4⟩
    · exact absurd (hm.2 k3) (hno h1)
    · have hfo : ∀ x ∈ out, x.fits := fun x hx => hf x (h2.mem_iff.1 hx)
      have hfo' : ∀ x ∈ out', x.fits := fun x hx => hf' x (k2.mem_iff.1 hx)
      have hpp : (out.map RowV.says).Perm (out'.map RowV.says) := ((h2.map _).trans hp).trans (k2.map _).symm
      have hiff : rises out = true ↔ rises out' = true := by
        rw [rises_iff hfo, rises_iff hfo']
        exact ⟨fun e => strict_perm hpp e (says_pw_le.1 k3), fun e => strict_perm hpp.symm e (says_pw_le.1 h3)⟩
      rcases h4 with ⟨a1, a2, a3⟩ | ⟨a1, a2, a3⟩
      · rcases k4 with ⟨b1, b2, b3⟩ | ⟨b1, b2, b3⟩
        · rw [hnil hn a2, hnil hn' b2]
          exact ⟨by rw [a1, b1], rfl⟩
        · rw [hiff.2 b2] at a3; cases a3
      · rcases k4 with ⟨b1, b2, b3⟩ | ⟨b1, b2, b3⟩
        · rw [hiff.1 a2] at b3; cases b3
        · refine ⟨by rw [a1, b1], ?_⟩
          rw [a3, b3]
          exact strict_eq hpp ((rises_iff hfo).1 a2) ((rises_iff hfo').1 b2)
theorem flat_fits {w : World} {a : Option Addr} {n c : Nat} {ls : List LsV} (h : ListsAt w a n c ls) : ∀ x ∈ ls.flatMap LsV.rs, x.fits := fun x hx => by
  obtain ⟨y, hy, hxy⟩ := List.mem_flatMap.1 hx
  exact (h.rows y hy).fits x hxy
theorem sameRs_of {l m : List RowV} (h : l.map RowV.says = m.map RowV.says) : sameRs l m = true := by
  have hl : l.length = m.length := by simpa using congrArg List.length h
  unfold sameRs
  rw [decide_eq_true hl, Bool.true_and]
  refine sameTo_yes fun j hj => ?_
  have h1 := congrArg (fun t => t[j]?) h
  simp only [List.getElem?_map] at h1
  have hj2 : j < m.length := by omega
  rw [List.getElem?_eq_getElem hj, List.getElem?_eq_getElem hj2] at h1
  simpa [hj, hj2] using h1
end Go.Proofs.Ytpcgjladooijmaa
