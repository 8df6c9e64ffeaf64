/- Contracts: layer 7's awake. WRITTEN BY gen_Yn.py. -/
import Derived.Test.YtnnacofjogfkeaaDoorYl
import Derived.Test.YtnnacofjogfkeaaDoorGQ
import Derived.Test.YtnnacofjogfkeaaDoorUo
import Derived.Test.YtnnacofjogfkeaaDoorUp
namespace Go.Proofs.YtnnacofjogfkeaaDoor
open Go Go.RowKit Pl Co
set_option linter.unusedVariables false
set_option linter.unusedSimpArgs false

theorem complete_le {v k : Nat} (w : World) (h2 : 2 ≤ k) (hkv : k ≤ v) (h60 : v ≤ 60) (hc : ch v k ≤ 4096) : Calls Tryd.prog 11 #[.int .i64 (v : Int), .int .i64 (k : Int)] w (dsPost v (comb v v k) w) :=
  (complete_ok v k w h2 hkv h60).mono fun e w' hp => by
    obtain ⟨hb, ⟨_, x, rfl, hf⟩ | ⟨hg, _⟩⟩ := hp
    · exact ⟨x, rfl, hf.gs, hb⟩
    · omega
theorem complete_gt {v k : Nat} (w : World) (h2 : 2 ≤ k) (hkv : k ≤ v) (h60 : v ≤ 60) (hc : 4096 < ch v k) : Calls Tryd.prog 11 #[.int .i64 (v : Int), .int .i64 (k : Int)] w (derrPost 7 w) :=
  (complete_ok v k w h2 hkv h60).mono fun e w' hp => by
    obtain ⟨hb, ⟨hl, _⟩ | ⟨_, rfl⟩⟩ := hp
    · omega
    · exact ⟨rfl, hb⟩
theorem choose_some {d k : Nat} {L : List (List Nat)} (w : World) (hK : Kd w) (hP : Pd w) (h4 : 4 ≤ k) (h16 : k ≤ 16) (hkd : k ≤ d) (h60 : d ≤ 60) (hc : cho d k = some L) : Calls Tryd.prog 18 #[.int .i64 (d : Int), .int .i64 (k : Int)] w (dsPost d L w) :=
  (dcho_ok d k w hK hP h4 h16 hkd h60).mono fun e w' hp => by
    unfold rchPost at hp
    rw [hc] at hp
    obtain ⟨x, rfl, hf, hb⟩ := hp
    exact ⟨x, rfl, hf.gs, hb⟩
theorem choose_none {d k : Nat} (w : World) (hK : Kd w) (hP : Pd w) (h4 : 4 ≤ k) (h16 : k ≤ 16) (hkd : k ≤ d) (h60 : d ≤ 60) (hc : cho d k = none) : Calls Tryd.prog 18 #[.int .i64 (d : Int), .int .i64 (k : Int)] w (derrPost 7 w) :=
  (dcho_ok d k w hK hP h4 h16 hkd h60).mono fun e w' hp => by
    unfold rchPost at hp
    rw [hc] at hp
    exact hp
theorem chain8 (f : Nat → Nat) (h0 : f 0 = 1) (h : ∀ k, f (k + 1) * (k + 1) = f k * (40 - k)) : 4096 < f 8 := by
  have h1 := h 0
  have h2 := h 1
  have h3 := h 2
  have h4 := h 3
  have h5 := h 4
  have h6 := h 5
  have h7 := h 6
  have h8 := h 7
  simp only [Nat.reduceAdd, Nat.reduceSub] at h1 h2 h3 h4 h5 h6 h7 h8
  omega
theorem ch_40_8 : 4096 < ch 40 8 := chain8 (ch 40) (ch_0 40) (ch_step 40)
theorem cho_40_8 : cho 40 8 = none := (cho_none (by decide) (show ∀ j, j < 7 → ¬ (dT j = 40 ∧ kT j = 8) by decide)).trans (if_neg (Nat.not_le.2 ch_40_8))
theorem cho_13_4 : cho 13 4 = some ((List.range (cN 3)).map (line 3)) := cho_tp (k := 0) (by decide) rfl
theorem bal_42 : Bal 4 (comb 4 4 2) 2 3 1 := bal_comb (v := 4) (k := 2) (by decide) (by decide) (by decide) (by decide) (by decide)
theorem bal_13 : Bal 13 ((List.range (cN 3)).map (line 3)) 4 4 1 := bal_proj (q := 3) (by decide)

theorem lit_c4 (x : World) : Gs (((((((x.alloc (.cells #[.int .i64 0, .int .i64 1] 3)).alloc (.cells #[.int .i64 0, .int .i64 2] 3)).alloc (.cells #[.int .i64 0, .int .i64 3] 3)).alloc (.cells #[.int .i64 1, .int .i64 2] 3)).alloc (.cells #[.int .i64 1, .int .i64 3] 3)).alloc (.cells #[.int .i64 2, .int .i64 3] 3)).alloc (.cells #[.slice (some ⟨x.heap.size, 0, none⟩) 2 2, .slice (some ⟨x.heap.size + 1, 0, none⟩) 2 2, .slice (some ⟨x.heap.size + 1 + 1, 0, none⟩) 2 2, .slice (some ⟨x.heap.size + 1 + 1 + 1, 0, none⟩) 2 2, .slice (some ⟨x.heap.size + 1 + 1 + 1 + 1, 0, none⟩) 2 2, .slice (some ⟨x.heap.size + 1 + 1 + 1 + 1 + 1, 0, none⟩) 2 2] 40)) (.slice (some ⟨x.heap.size + 1 + 1 + 1 + 1 + 1 + 1, 0, none⟩) 6 6) [[0, 1], [0, 2], [0, 3], [1, 2], [1, 3], [2, 3]] ∧ Below x.heap.size x (((((((x.alloc (.cells #[.int .i64 0, .int .i64 1] 3)).alloc (.cells #[.int .i64 0, .int .i64 2] 3)).alloc (.cells #[.int .i64 0, .int .i64 3] 3)).alloc (.cells #[.int .i64 1, .int .i64 2] 3)).alloc (.cells #[.int .i64 1, .int .i64 3] 3)).alloc (.cells #[.int .i64 2, .int .i64 3] 3)).alloc (.cells #[.slice (some ⟨x.heap.size, 0, none⟩) 2 2, .slice (some ⟨x.heap.size + 1, 0, none⟩) 2 2, .slice (some ⟨x.heap.size + 1 + 1, 0, none⟩) 2 2, .slice (some ⟨x.heap.size + 1 + 1 + 1, 0, none⟩) 2 2, .slice (some ⟨x.heap.size + 1 + 1 + 1 + 1, 0, none⟩) 2 2, .slice (some ⟨x.heap.size + 1 + 1 + 1 + 1 + 1, 0, none⟩) 2 2] 40)) := by
  have b0 : Below x.heap.size x (x.alloc (.cells #[.int .i64 0, .int .i64 1] 3)) := (Below.refl _ _).alloc (Nat.le_refl _) _
  have b1 : Below (x.alloc (.cells #[.int .i64 0, .int .i64 1] 3)).heap.size (x.alloc (.cells #[.int .i64 0, .int .i64 1] 3)) ((x.alloc (.cells #[.int .i64 0, .int .i64 1] 3)).alloc (.cells #[.int .i64 0, .int .i64 2] 3)) := (Below.refl _ _).alloc (Nat.le_refl _) _
  have b2 : Below ((x.alloc (.cells #[.int .i64 0, .int .i64 1] 3)).alloc (.cells #[.int .i64 0, .int .i64 2] 3)).heap.size ((x.alloc (.cells #[.int .i64 0, .int .i64 1] 3)).alloc (.cells #[.int .i64 0, .int .i64 2] 3)) (((x.alloc (.cells #[.int .i64 0, .int .i64 1] 3)).alloc (.cells #[.int .i64 0, .int .i64 2] 3)).alloc (.cells #[.int .i64 0, .int .i64 3] 3)) := (Below.refl _ _).alloc (Nat.le_refl _) _
  have b3 : Below (((x.alloc (.cells #[.int .i64 0, .int .i64 1] 3)).alloc (.cells #[.int .i64 0, .int .i64 2] 3)).alloc (.cells #[.int .i64 0, .int .i64 3] 3)).heap.size (((x.alloc (.cells #[.int .i64 0, .int .i64 1] 3)).alloc (.cells #[.int .i64 0, .int .i64 2] 3)).alloc (.cells #[.int .i64 0, .int .i64 3] 3)) ((((x.alloc (.cells #[.int .i64 0, .int .i64 1] 3)).alloc (.cells #[.int .i64 0, .int .i64 2] 3)).alloc (.cells #[.int .i64 0, .int .i64 3] 3)).alloc (.cells #[.int .i64 1, .int .i64 2] 3)) := (Below.refl _ _).alloc (Nat.le_refl _) _
  have b4 : Below ((((x.alloc (.cells #[.int .i64 0, .int .i64 1] 3)).alloc (.cells #[.int .i64 0, .int .i64 2] 3)).alloc (.cells #[.int .i64 0, .int .i64 3] 3)).alloc (.cells #[.int .i64 1, .int .i64 2] 3)).heap.size ((((x.alloc (.cells #[.int .i64 0, .int .i64 1] 3)).alloc (.cells #[.int .i64 0, .int .i64 2] 3)).alloc (.cells #[.int .i64 0, .int .i64 3] 3)).alloc (.cells #[.int .i64 1, .int .i64 2] 3)) (((((x.alloc (.cells #[.int .i64 0, .int .i64 1] 3)).alloc (.cells #[.int .i64 0, .int .i64 2] 3)).alloc (.cells #[.int .i64 0, .int .i64 3] 3)).alloc (.cells #[.int .i64 1, .int .i64 2] 3)).alloc (.cells #[.int .i64 1, .int .i64 3] 3)) := (Below.refl _ _).alloc (Nat.le_refl _) _
  have b5 : Below (((((x.alloc (.cells #[.int .i64 0, .int .i64 1] 3)).alloc (.cells #[.int .i64 0, .int .i64 2] 3)).alloc (.cells #[.int .i64 0, .int .i64 3] 3)).alloc (.cells #[.int .i64 1, .int .i64 2] 3)).alloc (.cells #[.int .i64 1, .int .i64 3] 3)).heap.size (((((x.alloc (.cells #[.int .i64 0, .int .i64 1] 3)).alloc (.cells #[.int .i64 0, .int .i64 2] 3)).alloc (.cells #[.int .i64 0, .int .i64 3] 3)).alloc (.cells #[.int .i64 1, .int .i64 2] 3)).alloc (.cells #[.int .i64 1, .int .i64 3] 3)) ((((((x.alloc (.cells #[.int .i64 0, .int .i64 1] 3)).alloc (.cells #[.int .i64 0, .int .i64 2] 3)).alloc (.cells #[.int .i64 0, .int .i64 3] 3)).alloc (.cells #[.int .i64 1, .int .i64 2] 3)).alloc (.cells #[.int .i64 1, .int .i64 3] 3)).alloc (.cells #[.int .i64 2, .int .i64 3] 3)) := (Below.refl _ _).alloc (Nat.le_refl _) _
  have b6 : Below ((((((x.alloc (.cells #[.int .i64 0, .int .i64 1] 3)).alloc (.cells #[.int .i64 0, .int .i64 2] 3)).alloc (.cells #[.int .i64 0, .int .i64 3] 3)).alloc (.cells #[.int .i64 1, .int .i64 2] 3)).alloc (.cells #[.int .i64 1, .int .i64 3] 3)).alloc (.cells #[.int .i64 2, .int .i64 3] 3)).heap.size ((((((x.alloc (.cells #[.int .i64 0, .int .i64 1] 3)).alloc (.cells #[.int .i64 0, .int .i64 2] 3)).alloc (.cells #[.int .i64 0, .int .i64 3] 3)).alloc (.cells #[.int .i64 1, .int .i64 2] 3)).alloc (.cells #[.int .i64 1, .int .i64 3] 3)).alloc (.cells #[.int .i64 2, .int .i64 3] 3)) (((((((x.alloc (.cells #[.int .i64 0, .int .i64 1] 3)).alloc (.cells #[.int .i64 0, .int .i64 2] 3)).alloc (.cells #[.int .i64 0, .int .i64 3] 3)).alloc (.cells #[.int .i64 1, .int .i64 2] 3)).alloc (.cells #[.int .i64 1, .int .i64 3] 3)).alloc (.cells #[.int .i64 2, .int .i64 3] 3)).alloc (.cells #[.slice (some ⟨x.heap.size, 0, none⟩) 2 2, .slice (some ⟨x.heap.size + 1, 0, none⟩) 2 2, .slice (some ⟨x.heap.size + 1 + 1, 0, none⟩) 2 2, .slice (some ⟨x.heap.size + 1 + 1 + 1, 0, none⟩) 2 2, .slice (some ⟨x.heap.size + 1 + 1 + 1 + 1, 0, none⟩) 2 2, .slice (some ⟨x.heap.size + 1 + 1 + 1 + 1 + 1, 0, none⟩) 2 2] 40)) := (Below.refl _ _).alloc (Nat.le_refl _) _
  have e7 := Below.refl (((((((x.alloc (.cells #[.int .i64 0, .int .i64 1] 3)).alloc (.cells #[.int .i64 0, .int .i64 2] 3)).alloc (.cells #[.int .i64 0, .int .i64 3] 3)).alloc (.cells #[.int .i64 1, .int .i64 2] 3)).alloc (.cells #[.int .i64 1, .int .i64 3] 3)).alloc (.cells #[.int .i64 2, .int .i64 3] 3)).alloc (.cells #[.slice (some ⟨x.heap.size, 0, none⟩) 2 2, .slice (some ⟨x.heap.size + 1, 0, none⟩) 2 2, .slice (some ⟨x.heap.size + 1 + 1, 0, none⟩) 2 2, .slice (some ⟨x.heap.size + 1 + 1 + 1, 0, none⟩) 2 2, .slice (some ⟨x.heap.size + 1 + 1 + 1 + 1, 0, none⟩) 2 2, .slice (some ⟨x.heap.size + 1 + 1 + 1 + 1 + 1, 0, none⟩) 2 2] 40)).heap.size (((((((x.alloc (.cells #[.int .i64 0, .int .i64 1] 3)).alloc (.cells #[.int .i64 0, .int .i64 2] 3)).alloc (.cells #[.int .i64 0, .int .i64 3] 3)).alloc (.cells #[.int .i64 1, .int .i64 2] 3)).alloc (.cells #[.int .i64 1, .int .i64 3] 3)).alloc (.cells #[.int .i64 2, .int .i64 3] 3)).alloc (.cells #[.slice (some ⟨x.heap.size, 0, none⟩) 2 2, .slice (some ⟨x.heap.size + 1, 0, none⟩) 2 2, .slice (some ⟨x.heap.size + 1 + 1, 0, none⟩) 2 2, .slice (some ⟨x.heap.size + 1 + 1 + 1, 0, none⟩) 2 2, .slice (some ⟨x.heap.size + 1 + 1 + 1 + 1, 0, none⟩) 2 2, .slice (some ⟨x.heap.size + 1 + 1 + 1 + 1 + 1, 0, none⟩) 2 2] 40))
  have e6 := b6.trans (e7.mono b6.size)
  have e5 := b5.trans (e6.mono b5.size)
  have e4 := b4.trans (e5.mono b4.size)
  have e3 := b3.trans (e4.mono b3.size)
  have e2 := b2.trans (e3.mono b2.size)
  have e1 := b1.trans (e2.mono b1.size)
  have e0 := b0.trans (e1.mono b0.size)
  have r0 : Row (x.alloc (.cells #[.int .i64 0, .int .i64 1] 3)) (x.heap.size) 3 #[.int .i64 0, .int .i64 1] := by
    have := row_new' x #[.int .i64 0, .int .i64 1] 3
    exact this
  have n0 := ns_lit (l := [0, 1]) (r0.go e1) rfl (by decide) rfl
  have r1 : Row ((x.alloc (.cells #[.int .i64 0, .int .i64 1] 3)).alloc (.cells #[.int .i64 0, .int .i64 2] 3)) (x.heap.size + 1) 3 #[.int .i64 0, .int .i64 2] := by
    have := row_new' (x.alloc (.cells #[.int .i64 0, .int .i64 1] 3)) #[.int .i64 0, .int .i64 2] 3
    simp only [World.size_alloc] at this
    exact this
  have n1 := ns_lit (l := [0, 2]) (r1.go e2) rfl (by decide) rfl
  have r2 : Row (((x.alloc (.cells #[.int .i64 0, .int .i64 1] 3)).alloc (.cells #[.int .i64 0, .int .i64 2] 3)).alloc (.cells #[.int .i64 0, .int .i64 3] 3)) (x.heap.size + 1 + 1) 3 #[.int .i64 0, .int .i64 3] := by
    have := row_new' ((x.alloc (.cells #[.int .i64 0, .int .i64 1] 3)).alloc (.cells #[.int .i64 0, .int .i64 2] 3)) #[.int .i64 0, .int .i64 3] 3
    simp only [World.size_alloc] at this
    exact this
  have n2 := ns_lit (l := [0, 3]) (r2.go e3) rfl (by decide) rfl
  have r3 : Row ((((x.alloc (.cells #[.int .i64 0, .int .i64 1] 3)).alloc (.cells #[.int .i64 0, .int .i64 2] 3)).alloc (.cells #[.int .i64 0, .int .i64 3] 3)).alloc (.cells #[.int .i64 1, .int .i64 2] 3)) (x.heap.size + 1 + 1 + 1) 3 #[.int .i64 1, .int .i64 2] := by
    have := row_new' (((x.alloc (.cells #[.int .i64 0, .int .i64 1] 3)).alloc (.cells #[.int .i64 0, .int .i64 2] 3)).alloc (.cells #[.int .i64 0, .int .i64 3] 3)) #[.int .i64 1, .int .i64 2] 3
    simp only [World.size_alloc] at this
    exact this
  have n3 := ns_lit (l := [1, 2]) (r3.go e4) rfl (by decide) rfl
  have r4 : Row (((((x.alloc (.cells #[.int .i64 0, .int .i64 1] 3)).alloc (.cells #[.int .i64 0, .int .i64 2] 3)).alloc (.cells #[.int .i64 0, .int .i64 3] 3)).alloc (.cells #[.int .i64 1, .int .i64 2] 3)).alloc (.cells #[.int .i64 1, .int .i64 3] 3)) (x.heap.size + 1 + 1 + 1 + 1) 3 #[.int .i64 1, .int .i64 3] := by
    have := row_new' ((((x.alloc (.cells #[.int .i64 0, .int .i64 1] 3)).alloc (.cells #[.int .i64 0, .int .i64 2] 3)).alloc (.cells #[.int .i64 0, .int .i64 3] 3)).alloc (.cells #[.int .i64 1, .int .i64 2] 3)) #[.int .i64 1, .int .i64 3] 3
    simp only [World.size_alloc] at this
    exact this
  have n4 := ns_lit (l := [1, 3]) (r4.go e5) rfl (by decide) rfl
  have r5 : Row ((((((x.alloc (.cells #[.int .i64 0, .int .i64 1] 3)).alloc (.cells #[.int .i64 0, .int .i64 2] 3)).alloc (.cells #[.int .i64 0, .int .i64 3] 3)).alloc (.cells #[.int .i64 1, .int .i64 2] 3)).alloc (.cells #[.int .i64 1, .int .i64 3] 3)).alloc (.cells #[.int .i64 2, .int .i64 3] 3)) (x.heap.size + 1 + 1 + 1 + 1 + 1) 3 #[.int .i64 2, .int .i64 3] := by
    have := row_new' (((((x.alloc (.cells #[.int .i64 0, .int .i64 1] 3)).alloc (.cells #[.int .i64 0, .int .i64 2] 3)).alloc (.cells #[.int .i64 0, .int .i64 3] 3)).alloc (.cells #[.int .i64 1, .int .i64 2] 3)).alloc (.cells #[.int .i64 1, .int .i64 3] 3)) #[.int .i64 2, .int .i64 3] 3
    simp only [World.size_alloc] at this
    exact this
  have n5 := ns_lit (l := [2, 3]) (r5.go e6) rfl (by decide) rfl
  have rr : Row (((((((x.alloc (.cells #[.int .i64 0, .int .i64 1] 3)).alloc (.cells #[.int .i64 0, .int .i64 2] 3)).alloc (.cells #[.int .i64 0, .int .i64 3] 3)).alloc (.cells #[.int .i64 1, .int .i64 2] 3)).alloc (.cells #[.int .i64 1, .int .i64 3] 3)).alloc (.cells #[.int .i64 2, .int .i64 3] 3)).alloc (.cells #[.slice (some ⟨x.heap.size, 0, none⟩) 2 2, .slice (some ⟨x.heap.size + 1, 0, none⟩) 2 2, .slice (some ⟨x.heap.size + 1 + 1, 0, none⟩) 2 2, .slice (some ⟨x.heap.size + 1 + 1 + 1, 0, none⟩) 2 2, .slice (some ⟨x.heap.size + 1 + 1 + 1 + 1, 0, none⟩) 2 2, .slice (some ⟨x.heap.size + 1 + 1 + 1 + 1 + 1, 0, none⟩) 2 2] 40)) (x.heap.size + 1 + 1 + 1 + 1 + 1 + 1) 40 #[.slice (some ⟨x.heap.size, 0, none⟩) 2 2, .slice (some ⟨x.heap.size + 1, 0, none⟩) 2 2, .slice (some ⟨x.heap.size + 1 + 1, 0, none⟩) 2 2, .slice (some ⟨x.heap.size + 1 + 1 + 1, 0, none⟩) 2 2, .slice (some ⟨x.heap.size + 1 + 1 + 1 + 1, 0, none⟩) 2 2, .slice (some ⟨x.heap.size + 1 + 1 + 1 + 1 + 1, 0, none⟩) 2 2] := by
    have := row_new' ((((((x.alloc (.cells #[.int .i64 0, .int .i64 1] 3)).alloc (.cells #[.int .i64 0, .int .i64 2] 3)).alloc (.cells #[.int .i64 0, .int .i64 3] 3)).alloc (.cells #[.int .i64 1, .int .i64 2] 3)).alloc (.cells #[.int .i64 1, .int .i64 3] 3)).alloc (.cells #[.int .i64 2, .int .i64 3] 3)) #[.slice (some ⟨x.heap.size, 0, none⟩) 2 2, .slice (some ⟨x.heap.size + 1, 0, none⟩) 2 2, .slice (some ⟨x.heap.size + 1 + 1, 0, none⟩) 2 2, .slice (some ⟨x.heap.size + 1 + 1 + 1, 0, none⟩) 2 2, .slice (some ⟨x.heap.size + 1 + 1 + 1 + 1, 0, none⟩) 2 2, .slice (some ⟨x.heap.size + 1 + 1 + 1 + 1 + 1, 0, none⟩) 2 2] 40
    simp only [World.size_alloc] at this
    exact this
  refine ⟨gs_lit (us := [.slice (some ⟨x.heap.size, 0, none⟩) 2 2, .slice (some ⟨x.heap.size + 1, 0, none⟩) 2 2, .slice (some ⟨x.heap.size + 1 + 1, 0, none⟩) 2 2, .slice (some ⟨x.heap.size + 1 + 1 + 1, 0, none⟩) 2 2, .slice (some ⟨x.heap.size + 1 + 1 + 1 + 1, 0, none⟩) 2 2, .slice (some ⟨x.heap.size + 1 + 1 + 1 + 1 + 1, 0, none⟩) 2 2]) (L := [[0, 1], [0, 2], [0, 3], [1, 2], [1, 3], [2, 3]]) rr rfl rfl (by decide) fun k h h' => ?_, e0⟩
  match k, h with
  | 0, _ => exact n0
  | 1, _ => exact n1
  | 2, _ => exact n2
  | 3, _ => exact n3
  | 4, _ => exact n4
  | 5, _ => exact n5
set_option maxHeartbeats 4000000 in
set_option maxRecDepth 100000 in
theorem awake7 (w : World) (hK : Kd w) (hP : Pd w) : Calls Tryd.prog 10 #[] w (aw6Post w) := by
  have HK0 := Lib.hid hK
  have HP0 := Lib.hid hP
  have C1 := Lib.hid (complete_le (v := 4) (k := 2) w (by decide) (by decide) (by decide) (by decide))
  have C2 := Lib.hid fun W (h : Kd W) (p : Pd W) => choose_some W h p (by decide) (by decide) (by decide) (by decide) cho_13_4
  have C3 := Lib.hid fun W (h : Kd W) (p : Pd W) => choose_none W h p (by decide) (by decide) (by decide) (by decide) cho_40_8
  clear hK hP
  go_enter Tryd.func10, Tryd.ntmps10
  go_wp2_with fail
  refine (C1.out).mono ?_
  rintro e x2 ⟨v1, rfl, hg3, hb1⟩
  obtain ⟨A1, k1, rfl⟩ := slform hg3
  rw [show (comb 4 4 2).length = 6 by rfl] at hg3 ⊢
  have hq4 : Below w.heap.size w x2 := hb1
  have K_5 := Lib.hid (Kd.below HK0.out hq4)
  have P_6 := Lib.hid (Pd.below HP0.out hq4)
  have HB_7 : Hid (Below w.heap.size w x2) := Lib.hid (hq4)
  clear hq4
  have G1_ := Lib.hid hg3
  unfold dv
  have hba : Below x2.heap.size x2 (x2.alloc (.cells #[.int .i64 4, .slice A1 6 k1] 25)) := (Below.refl _ _).alloc (Nat.le_refl _) _
  have RW1 := Lib.hid (row_new' x2 #[.int .i64 4, .slice A1 6 k1] 25)
  clear hb1 hg3
  go_wp2_with fail
  obtain ⟨D1, hD1⟩ : ∃ D, x2.heap.size = D := ⟨_, rfl⟩
  rw [hD1] at RW1 ⊢
  obtain ⟨y8, hy⟩ : ∃ y, (x2.alloc (.cells #[.int .i64 4, .slice A1 6 k1] 25)) = y := ⟨_, rfl⟩
  rw [hy] at RW1 hba ⊢
  have hq9 : Below x2.heap.size x2 y8 := hba
  have K_10 := Lib.hid (Kd.below K_5.out hq9)
  have P_11 := Lib.hid (Pd.below P_6.out hq9)
  have G1_12 := Lib.hid (Gs.to G1_.out hq9)
  have HB_13 : Hid (Below w.heap.size w y8) := Lib.hid (HB_7.out.trans (hq9.mono HB_7.out.size))
  clear hq9
  clear hy hba hD1
  have S16 : Hid (Calls Tryd.prog 16 #[.agg #[.int .i64 4, .slice A1 6 k1]] y8 (bel (.tuple #[.int .i64 3, .int .i64 1, .int .i64 0]) y8)) := Lib.hid (check_bal bal_42 _ y8 G1_12.out)
  refine S16.out.mono ?_
  rintro e x15 ⟨rfl, hb14⟩
  have hq17 : Below y8.heap.size y8 x15 := hb14
  have K_18 := Lib.hid (Kd.below K_10.out hq17)
  have P_19 := Lib.hid (Pd.below P_11.out hq17)
  have G1_20 := Lib.hid (Gs.to G1_12.out hq17)
  have R1_21 := Lib.hid (Row.go RW1.out hq17)
  have HB_22 : Hid (Below w.heap.size w x15) := Lib.hid (HB_13.out.trans (hq17.mono HB_13.out.size))
  clear hq17
  clear hb14 S16
  go_wp2_with fail
  refine (C2.out _ K_18.out P_19.out).mono ?_
  rintro e x24 ⟨v2, rfl, hg25, hb23⟩
  obtain ⟨A2, k2, rfl⟩ := slform hg25
  rw [show ((List.range (cN 3)).map (line 3)).length = 13 by rw [List.length_map, List.length_range]; rfl] at hg25 ⊢
  have hq26 : Below x15.heap.size x15 x24 := hb23
  have K_27 := Lib.hid (Kd.below K_18.out hq26)
  have P_28 := Lib.hid (Pd.below P_19.out hq26)
  have G1_29 := Lib.hid (Gs.to G1_20.out hq26)
  have R1_30 := Lib.hid (Row.go R1_21.out hq26)
  have HB_31 : Hid (Below w.heap.size w x24) := Lib.hid (HB_22.out.trans (hq26.mono HB_22.out.size))
  clear hq26
  have G2_ := Lib.hid hg25
  unfold dv
  have hba : Below x24.heap.size x24 (x24.alloc (.cells #[.int .i64 13, .slice A2 13 k2] 25)) := (Below.refl _ _).alloc (Nat.le_refl _) _
  have RW2 := Lib.hid (row_new' x24 #[.int .i64 13, .slice A2 13 k2] 25)
  clear hb23 hg25
  go_wp2_with fail
  obtain ⟨D2, hD2⟩ : ∃ D, x24.heap.size = D := ⟨_, rfl⟩
  rw [hD2] at RW2 ⊢
  obtain ⟨y32, hy⟩ : ∃ y, (x24.alloc (.cells #[.int .i64 13, .slice A2 13 k2] 25)) = y := ⟨_, rfl⟩
  rw [hy] at RW2 hba ⊢
  have hq33 : Below x24.heap.size x24 y32 := hba
  have K_34 := Lib.hid (Kd.below K_27.out hq33)
  have P_35 := Lib.hid (Pd.below P_28.out hq33)
  have G1_36 := Lib.hid (Gs.to G1_29.out hq33)
  have R1_37 := Lib.hid (Row.go R1_30.out hq33)
  have G2_38 := Lib.hid (Gs.to G2_.out hq33)
  have HB_39 : Hid (Below w.heap.size w y32) := Lib.hid (HB_31.out.trans (hq33.mono HB_31.out.size))
  clear hq33
  clear hy hba hD2
  have S42 : Hid (Calls Tryd.prog 16 #[.agg #[.int .i64 13, .slice A2 13 k2]] y32 (bel (.tuple #[.int .i64 4, .int .i64 1, .int .i64 0]) y32)) := Lib.hid (check_bal bal_13 _ y32 G2_38.out)
  refine S42.out.mono ?_
  rintro e x41 ⟨rfl, hb40⟩
  have hq43 : Below y32.heap.size y32 x41 := hb40
  have K_44 := Lib.hid (Kd.below K_34.out hq43)
  have P_45 := Lib.hid (Pd.below P_35.out hq43)
  have G1_46 := Lib.hid (Gs.to G1_36.out hq43)
  have R1_47 := Lib.hid (Row.go R1_37.out hq43)
  have G2_48 := Lib.hid (Gs.to G2_38.out hq43)
  have R2_49 := Lib.hid (Row.go RW2.out hq43)
  have HB_50 : Hid (Below w.heap.size w x41) := Lib.hid (HB_39.out.trans (hq43.mono HB_39.out.size))
  clear hq43
  clear hb40 S42
  go_wp2_with fail
  refine (C3.out _ K_44.out P_45.out).mono ?_
  rintro e x52 ⟨rfl, hb51⟩
  have hq53 : Below x41.heap.size x41 x52 := hb51
  have K_54 := Lib.hid (Kd.below K_44.out hq53)
  have P_55 := Lib.hid (Pd.below P_45.out hq53)
  have G1_56 := Lib.hid (Gs.to G1_46.out hq53)
  have R1_57 := Lib.hid (Row.go R1_47.out hq53)
  have G2_58 := Lib.hid (Gs.to G2_48.out hq53)
  have R2_59 := Lib.hid (Row.go R2_49.out hq53)
  have HB_60 : Hid (Below w.heap.size w x52) := Lib.hid (HB_50.out.trans (hq53.mono HB_50.out.size))
  clear hq53
  clear hb51
  have hba : Below x52.heap.size x52 (x52.alloc (.cells #[.int .i64 0, .slice none 0 0] 25)) := (Below.refl _ _).alloc (Nat.le_refl _) _
  obtain ⟨y61, hy⟩ : ∃ y, (x52.alloc (.cells #[.int .i64 0, .slice none 0 0] 25)) = y := ⟨_, rfl⟩
  have HY := Lib.hid hy
  rw [hy] at hba
  clear hy
  have hq62 : Below x52.heap.size x52 y61 := hba
  have G1_63 := Lib.hid (Gs.to G1_56.out hq62)
  have R1_64 := Lib.hid (Row.go R1_57.out hq62)
  have G2_65 := Lib.hid (Gs.to G2_58.out hq62)
  have R2_66 := Lib.hid (Row.go R2_59.out hq62)
  have HB_67 : Hid (Below w.heap.size w y61) := Lib.hid (HB_60.out.trans (hq62.mono HB_60.out.size))
  clear hq62
  clear hba
  have c1 := R1_64.out.cell 0
  have c2 := R1_64.out.cell 1
  rw [← HY.out] at c1 c2
  go_wp2_with fail
  clear c1 c2
  have L1 := lit_c4 (x52.alloc (.cells #[.int .i64 0, .slice none 0 0] 25))
  simp only [World.size_alloc] at L1
  have hs9 : y61.heap.size = x52.heap.size + 1 := by rw [← HY.out, World.size_alloc]
  obtain ⟨y68, hy⟩ : ∃ y, ((((((((x52.alloc (.cells #[.int .i64 0, .slice none 0 0] 25)).alloc (.cells #[.int .i64 0, .int .i64 1] 3)).alloc (.cells #[.int .i64 0, .int .i64 2] 3)).alloc (.cells #[.int .i64 0, .int .i64 3] 3)).alloc (.cells #[.int .i64 1, .int .i64 2] 3)).alloc (.cells #[.int .i64 1, .int .i64 3] 3)).alloc (.cells #[.int .i64 2, .int .i64 3] 3)).alloc (.cells #[.slice (some ⟨x52.heap.size + 1, 0, none⟩) 2 2, .slice (some ⟨x52.heap.size + 1 + 1, 0, none⟩) 2 2, .slice (some ⟨x52.heap.size + 1 + 1 + 1, 0, none⟩) 2 2, .slice (some ⟨x52.heap.size + 1 + 1 + 1 + 1, 0, none⟩) 2 2, .slice (some ⟨x52.heap.size + 1 + 1 + 1 + 1 + 1, 0, none⟩) 2 2, .slice (some ⟨x52.heap.size + 1 + 1 + 1 + 1 + 1 + 1, 0, none⟩) 2 2] 40)) = y := ⟨_, rfl⟩
  rw [hy] at L1 ⊢
  rw [HY.out, ← hs9] at L1
  clear hy
  have hq69 : Below y61.heap.size y61 y68 := L1.2
  have G1_70 := Lib.hid (Gs.to G1_63.out hq69)
  have R1_71 := Lib.hid (Row.go R1_64.out hq69)
  have G2_72 := Lib.hid (Gs.to G2_65.out hq69)
  have R2_73 := Lib.hid (Row.go R2_66.out hq69)
  have HB_74 : Hid (Below w.heap.size w y68) := Lib.hid (HB_67.out.trans (hq69.mono HB_67.out.size))
  clear hq69
  have LG1 := L1.1
  rw [hs9] at LG1
  clear L1 hs9
  have S1 : Hid (Calls Tryd.prog 13 #[.agg #[.int .i64 4, .slice A1 6 k1], .agg #[.int .i64 4, .slice (some ⟨x52.heap.size + 1 + 1 + 1 + 1 + 1 + 1 + 1, 0, none⟩) 6 6]] y68 (bel (.bool true) y68)) := Lib.hid (same_any 4 _ _ _ y68 (by have h := G1_70.out; rw [show comb 4 4 2 = [[0, 1], [0, 2], [0, 3], [1, 2], [1, 3], [2, 3]] by decide +kernel] at h; exact h) LG1)
  clear LG1
  refine S1.out.mono ?_
  rintro e x75 ⟨rfl, hb76⟩
  have hq77 : Below y68.heap.size y68 x75 := hb76
  have G1_78 := Lib.hid (Gs.to G1_70.out hq77)
  have R1_79 := Lib.hid (Row.go R1_71.out hq77)
  have G2_80 := Lib.hid (Gs.to G2_72.out hq77)
  have R2_81 := Lib.hid (Row.go R2_73.out hq77)
  have HB_82 : Hid (Below w.heap.size w x75) := Lib.hid (HB_74.out.trans (hq77.mono HB_74.out.size))
  clear hq77
  clear hb76
  have c3 := R2_81.out.cell 0
  have c4 := R2_81.out.cell 1
  go_wp2_with fail
  have SH : Hid (Calls Tryd.prog 21 #[.agg #[.int .i64 13, .slice A2 13 k2], .int .i64 0, .int .i64 1] x75 (bel (.int .i64 1) x75)) := Lib.hid (by have h := shared_in (D := 13) (a := 0) (b := 1) (by decide) (by decide) _ x75 G2_80.out; rw [bal_13.prs 0 1 (by decide) (by decide) (by decide)] at h; exact h)
  refine SH.out.mono ?_
  rintro e x84 ⟨rfl, hb83⟩
  have hq85 : Below x75.heap.size x75 x84 := hb83
  have G1_86 := Lib.hid (Gs.to G1_78.out hq85)
  have R1_87 := Lib.hid (Row.go R1_79.out hq85)
  have G2_88 := Lib.hid (Gs.to G2_80.out hq85)
  have R2_89 := Lib.hid (Row.go R2_81.out hq85)
  have HB_90 : Hid (Below w.heap.size w x84) := Lib.hid (HB_82.out.trans (hq85.mono HB_82.out.size))
  clear hq85
  clear hb83 c3 c4
  go_wp2_with fail
  go_ret
  exact ⟨rfl, HB_90.out⟩
end Go.Proofs.YtnnacofjogfkeaaDoor
