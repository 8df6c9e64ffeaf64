/- Literal matrices of bytes in memory. -/
import Derived.Test.YtfhgalfdlkdliaaSl
namespace Go.Proofs.Ytfhgalfdlkdliaa
open Go Go.RowKit

theorem bs_lit (w : World) (x y n : Nat) (hn : w.heap.size = n) (hx : x < 256) (hy : y < 256) : Bs (w.alloc (.cells #[.int .u8 (x : Int), .int .u8 (y : Int)] 5)) (.slice (some ⟨n, 0, none⟩) 2 2) [x, y] := by
  subst hn
  refine Bs.of_row (t := 5) (heap_alloc_new w _) rfl ⟨by decide, by decide⟩ (by intro z hz; simp at hz; omega) fun k hk => ?_
  match k, hk with
  | 0, _ => rfl
  | 1, _ => rfl
theorem ms_lit2 (w : World) (n : Nat) (hn : w.heap.size = n) (a b c d : Nat) (ha : a < 256) (hb : b < 256) (hc : c < 256) (hd : d < 256) :
    Ms (((w.alloc (.cells #[.int .u8 (a : Int), .int .u8 (b : Int)] 5)).alloc (.cells #[.int .u8 (c : Int), .int .u8 (d : Int)] 5)).alloc (.cells #[.slice (some ⟨n, 0, none⟩) 2 2, .slice (some ⟨n + 1, 0, none⟩) 2 2] 27)) (.slice (some ⟨n + 2, 0, none⟩) 2 2) [[a, b], [c, d]] := by
  have h1 := ((bs_lit w a b n hn ha hb).alloc (.cells #[.int .u8 (c : Int), .int .u8 (d : Int)] 5)).alloc (.cells #[.slice (some ⟨n, 0, none⟩) 2 2, .slice (some ⟨n + 1, 0, none⟩) 2 2] 27)
  have h2 := (bs_lit (w.alloc (.cells #[.int .u8 (a : Int), .int .u8 (b : Int)] 5)) c d (n + 1) (by simp [hn]) hc hd).alloc (.cells #[.slice (some ⟨n, 0, none⟩) 2 2, .slice (some ⟨n + 1, 0, none⟩) 2 2] 27)
  have hz : (((w.alloc (.cells #[.int .u8 (a : Int), .int .u8 (b : Int)] 5)).alloc (.cells #[.int .u8 (c : Int), .int .u8 (d : Int)] 5)).heap.size) = n + 2 := by simp [hn]
  have hrow := heap_alloc_new ((w.alloc (.cells #[.int .u8 (a : Int), .int .u8 (b : Int)] 5)).alloc (.cells #[.int .u8 (c : Int), .int .u8 (d : Int)] 5)) (.cells #[.slice (some ⟨n, 0, none⟩) 2 2, .slice (some ⟨n + 1, 0, none⟩) 2 2] 27)
  rw [hz] at hrow
  refine ⟨_, 2, rfl, ⟨Nat.le_refl 2, by decide⟩, fun h => (by cases h), fun _ => ⟨n + 2, 0, rfl, fun k hk => ?_⟩⟩
  rw [cell_of_row _ _ _ _ _ _ hrow]
  match k, hk with
  | 0, _ => exact ⟨_, rfl, h1⟩
  | 1, _ => exact ⟨_, rfl, h2⟩
theorem ms_lit3 (w : World) (n : Nat) (hn : w.heap.size = n) (a b c d e f : Nat) (ha : a < 256) (hb : b < 256) (hc : c < 256) (hd : d < 256) (he : e < 256) (hf : f < 256) :
    Ms ((((w.alloc (.cells #[.int .u8 (a : Int), .int .u8 (b : Int)] 5)).alloc (.cells #[.int .u8 (c : Int), .int .u8 (d : Int)] 5)).alloc (.cells #[.int .u8 (e : Int), .int .u8 (f : Int)] 5)).alloc (.cells #[.slice (some ⟨n, 0, none⟩) 2 2, .slice (some ⟨n + 1, 0, none⟩) 2 2, .slice (some ⟨n + 2, 0, none⟩) 2 2] 27)) (.slice (some ⟨n + 3, 0, none⟩) 3 3) [[a, b], [c, d], [e, f]] := by
  have h1 := (((bs_lit w a b n hn ha hb).alloc (.cells #[.int .u8 (c : Int), .int .u8 (d : Int)] 5)).alloc (.cells #[.int .u8 (e : Int), .int .u8 (f : Int)] 5)).alloc (.cells #[.slice (some ⟨n, 0, none⟩) 2 2, .slice (some ⟨n + 1, 0, none⟩) 2 2, .slice (some ⟨n + 2, 0, none⟩) 2 2] 27)
  have h2 := ((bs_lit (w.alloc (.cells #[.int .u8 (a : Int), .int .u8 (b : Int)] 5)) c d (n + 1) (by simp [hn]) hc hd).alloc (.cells #[.int .u8 (e : Int), .int .u8 (f : Int)] 5)).alloc (.cells #[.slice (some ⟨n, 0, none⟩) 2 2, .slice (some ⟨n + 1, 0, none⟩) 2 2, .slice (some ⟨n + 2, 0, none⟩) 2 2] 27)
  have h3 := (bs_lit ((w.alloc (.cells #[.int .u8 (a : Int), .int .u8 (b : Int)] 5)).alloc (.cells #[.int .u8 (c : Int), .int .u8 (d : Int)] 5)) e f (n + 2) (by simp [hn]) he hf).alloc (.cells #[.slice (some ⟨n, 0, none⟩) 2 2, .slice (some ⟨n + 1, 0, none⟩) 2 2, .slice (some ⟨n + 2, 0, none⟩) 2 2] 27)
  have hz : ((((w.alloc (.cells #[.int .u8 (a : Int), .int .u8 (b : Int)] 5)).alloc (.cells #[.int .u8 (c : Int), .int .u8 (d : Int)] 5)).alloc (.cells #[.int .u8 (e : Int), .int .u8 (f : Int)] 5)).heap.size) = n + 3 := by simp [hn]
  have hrow := heap_alloc_new (((w.alloc (.cells #[.int .u8 (a : Int), .int .u8 (b : Int)] 5)).alloc (.cells #[.int .u8 (c : Int), .int .u8 (d : Int)] 5)).alloc (.cells #[.int .u8 (e : Int), .int .u8 (f : Int)] 5)) (.cells #[.slice (some ⟨n, 0, none⟩) 2 2, .slice (some ⟨n + 1, 0, none⟩) 2 2, .slice (some ⟨n + 2, 0, none⟩) 2 2] 27)
  rw [hz] at hrow
  refine ⟨_, 3, rfl, ⟨Nat.le_refl 3, by decide⟩, fun h => (by cases h), fun _ => ⟨n + 3, 0, rfl, fun k hk => ?_⟩⟩
  rw [cell_of_row _ _ _ _ _ _ hrow]
  match k, hk with
  | 0, _ => exact ⟨_, rfl, h1⟩
  | 1, _ => exact ⟨_, rfl, h2⟩
  | 2, _ => exact ⟨_, rfl, h3⟩
end Go.Proofs.Ytfhgalfdlkdliaa
