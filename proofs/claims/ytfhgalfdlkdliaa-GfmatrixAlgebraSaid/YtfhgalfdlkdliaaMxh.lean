/- Contract: the reference's product of matrices. -/
import Derived.Test.YtfhgalfdlkdliaaMxg
namespace Go.Proofs.Ytfhgalfdlkdliaa
open Go Go.RowKit Lin

/-- Row i times column j, as far as the first k products. -/
def mulE (a b : List (List Nat)) (i j k : Nat) : Nat := xs k (fun l => Gf.mul (el a i l) (el b l j))
def mulL (r c n : Nat) (a b : List (List Nat)) : List (List Nat) := gridL r c fun i j => mulE a b i j n
theorem mulE_lt {r n : Nat} {a : List (List Nat)} (h : Rect r n a) (b : List (List Nat)) (i j k : Nat) : mulE a b i j k < 256 := xs_lt _ _ fun l _ => Gf.mul_lt _ _ (h.by i l)
theorem mulL_rect {r n c : Nat} {a : List (List Nat)} (h : Rect r n a) (b : List (List Nat)) : Rect r c (mulL r c n a b) := gridL_rect fun i j => mulE_lt h b i j n
theorem mulL_row {r c n : Nat} {a b : List (List Nat)} {i : Nat} (hi : i < r) : (mulL r c n a b).getD i [] = (List.range c).map fun j => mulE a b i j n := range_getD _ _ _ _ hi

theorem mulL_el {r c n : Nat} {a b : List (List Nat)} {i j : Nat} (hi : i < r) (hj : j < c) : el (mulL r c n a b) i j = mulE a b i j n := gridL_el hi hj
end Go.Proofs.Ytfhgalfdlkdliaa
