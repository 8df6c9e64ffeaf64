/- Media: what the operations do to the sectors. -/
import Derived.Test.YtbaclcpnnompnaaKa
import Derived.Test.YtbaclcpnnompnaaGA
namespace Go.Proofs.Ytbaclcpnnompnaa
/-- A shadow's sectors lie behind the sector, and there are such sectors. -/
theorem Geo.shadow_in {R B T S O : Nat} (h : Geo.GV (R : Int) B T S O) (a : Int) : ∀ x ∈ Geo.shadow R B T S O a, 0 ≤ a ∧ a < x ∧ x < ((R + B * (T * S) : Nat) : Int) := by
  intro x hx
  unfold Geo.shadow at hx
  by_cases ha : a < R ∨ ((R + B * (T * S) : Nat) : Int) ≤ a
  · rw [Geo.shn_out (by rw [Geo.loc_out h ha]; decide)] at hx
    cases hx
  · obtain ⟨n, rfl⟩ : ∃ n : Nat, a = ((R + n : Nat) : Int) := ⟨(a - R).toNat, by omega⟩
    have hn : n < B * (T * S) := by omega
    rw [Geo.shn_in h hn] at hx
    simp only [Geo.shd, List.mem_map, List.mem_range] at hx
    obtain ⟨i, hi, rfl⟩ := hx
    have g := Geo.gv_nat h
    have hz := Nat.mod_lt n (show S > 0 by omega)
    have e := Geo.shd_num (S := S) (T := T) n (i + 1)
    have b := Geo.num_lt (B := B) (T := T) (S := S) (x := n / (T * S)) (y := n / S % T + (i + 1)) (z := n % S) (Geo.div_lt hn) (by omega) hz
    rw [← e] at b
    have p : 0 < (i + 1) * S := Nat.mul_pos (by omega) (by omega)
    have q : ((i : Int) + 1) * (S : Int) = (((i + 1) * S : Nat) : Int) := by push_cast; rfl
    rw [q]
    omega
theorem Geo.shadow_len {R B T S O : Nat} (h : Geo.GV (R : Int) B T S O) (a : Int) : (Geo.shadow R B T S O a).length ≤ 3 := by
  have g := Geo.gv_nat h
  unfold Geo.shadow
  rw [Geo.shd_len]
  by_cases ha : a < R ∨ ((R + B * (T * S) : Nat) : Int) ≤ a
  · rw [Geo.shn_out (by rw [Geo.loc_out h ha]; decide)]; omega
  · obtain ⟨n, rfl⟩ : ∃ n : Nat, a = ((R + n : Nat) : Int) := ⟨(a - R).toNat, by omega⟩
    rw [Geo.shn_in h (by omega)]; omega
namespace Med
theorem kill_take (l : List (Int × ByteArray)) (sh : List Int) {k : Nat} (h : k < sh.length) (f : List (Int × ByteArray) → List Int → List (Int × ByteArray)) (hf : ∀ l sh i, f l (sh ++ [i]) = (f l sh).set i.toNat (2, ByteArray.empty)) : f l (sh.take (k + 1)) = (f l (sh.take k)).set (sh.getD k 0).toNat (2, ByteArray.empty) := by
  rw [List.take_succ_eq_append_getElem h, hf, getD_in h]
/-- A sector: its state and its bytes. -/
abbrev Sec := Int × ByteArray
def blank : Sec := (0, ByteArray.empty)
def dead : Sec := (2, ByteArray.empty)
/-- Sectors are destroyed. -/
def kill (l : List Sec) (sh : List Int) : List Sec := sh.foldl (fun l i => l.set i.toNat dead) l
theorem kill_snoc (l : List Sec) (sh : List Int) (i : Int) : kill l (sh ++ [i]) = (kill l sh).set i.toNat dead := by simp [kill]
theorem kill_len (sh : List Int) : ∀ l : List Sec, (kill l sh).length = l.length := by
  induction sh with
  | nil => intro l; rfl
  | cons i sh ih => intro l; show (kill (l.set i.toNat dead) sh).length = _; rw [ih]; simp
theorem kill_off (sh : List Int) (j : Nat) : ∀ l : List Sec, (∀ i ∈ sh, i.toNat ≠ j) → (kill l sh)[j]? = l[j]? := by
  induction sh with
  | nil => intro l _; rfl
  | cons i sh ih =>
    intro l h
    show (kill (l.set i.toNat dead) sh)[j]? = _
    rw [ih _ fun x hx => h x (List.mem_cons_of_mem _ hx), List.getElem?_set_ne (h i List.mem_cons_self)]
/-- What is not written is not written behind it. -/
theorem kill_not (sh : List Int) (j : Nat) : ∀ l : List Sec, (∀ s, l[j]? = some s → s.1 ≠ 1) → ∀ s, (kill l sh)[j]? = some s → s.1 ≠ 1 := by
  induction sh with
  | nil => intro l h; exact h
  | cons i sh ih =>
    intro l h
    show ∀ s, (kill (l.set i.toNat dead) sh)[j]? = some s → _
    refine ih _ fun s hs => ?_
    rw [List.getElem?_set] at hs
    split at hs
    · split at hs
      · injection hs with hs; subst hs; decide
      · cases hs
    · exact h s hs
def put (sh : List Int) (l : List Sec) (a : Int) (b : ByteArray) : List Sec := kill (l.set a.toNat (1, b)) sh
theorem put_len (sh : List Int) (l : List Sec) (a : Int) (b : ByteArray) : (put sh l a b).length = l.length := by unfold put; rw [kill_len]; simp
/-- Sectors become blank. -/
def wipe (l : List Sec) (f k : Nat) : List Sec := (List.range k).foldl (fun l i => l.set (f + i) blank) l
theorem wipe_zero (l : List Sec) (f : Nat) : wipe l f 0 = l := rfl
theorem wipe_succ (l : List Sec) (f k : Nat) : wipe l f (k + 1) = (wipe l f k).set (f + k) blank := by simp [wipe, List.range_succ]
theorem wipe_len (l : List Sec) (f : Nat) : ∀ k, (wipe l f k).length = l.length := by
  intro k
  induction k with
  | zero => rfl
  | succ k ih => rw [wipe_succ]; simp [ih]
theorem wipe_off (l : List Sec) (f j : Nat) : ∀ k, (j < f ∨ f + k ≤ j) → (wipe l f k)[j]? = l[j]? := by
  intro k
  induction k with
  | zero => intro _; rfl
  | succ k ih => intro h; rw [wipe_succ, List.getElem?_set_ne (by omega), ih (by omega)]
theorem wipe_in (l : List Sec) (f j : Nat) : ∀ k, f ≤ j → j < f + k → j < l.length → (wipe l f k)[j]? = some blank := by
  intro k
  induction k with
  | zero => intro h1 h2; omega
  | succ k ih =>
    intro h1 h2 h3
    rw [wipe_succ, List.getElem?_set]
    by_cases e : f + k = j
    · rw [if_pos e, wipe_len, if_pos (by omega)]
    · rw [if_neg e, ih h1 (by omega) h3]
/-! ### What the methods return -/
def at_ (l : List Sec) (a : Int) : Sec := l.getD a.toNat blank
def st (l : List Sec) (a : Int) : Int := if 0 ≤ a ∧ a < l.length then (at_ l a).1 else 0
def rdE (l : List Sec) (a : Int) : Int := if 0 ≤ a ∧ a < l.length then (if (at_ l a).1 = 1 then 0 else 15) else 2
def rdB (l : List Sec) (a : Int) : ByteArray := if rdE l a = 0 then (at_ l a).2 else ByteArray.empty
def wrE (l : List Sec) (a : Int) (n : Nat) : Int := if 0 ≤ a ∧ a < l.length then (if 64 < n then 7 else 0) else 2
def wr (sh : List Int) (l : List Sec) (a : Int) (n : Nat) (b : ByteArray) : List Sec := if wrE l a n = 0 then put sh l a b else l
def erE (B : Nat) (x : Int) : Int := if 0 ≤ x ∧ x < B then 0 else 2
def er (R B T S : Nat) (l : List Sec) (x : Int) : List Sec := if 0 ≤ x ∧ x < B then wipe l (R + x.toNat * (T * S)) (T * S) else l
theorem wr_len (sh : List Int) (l : List Sec) (a : Int) (n : Nat) (b : ByteArray) : (wr sh l a n b).length = l.length := by
  unfold wr; split
  · exact put_len _ _ _ _
  · rfl
theorem er_len (R B T S : Nat) (l : List Sec) (x : Int) : (er R B T S l x).length = l.length := by
  unfold er; split
  · exact wipe_len _ _ _
  · rfl
/-- An operation: whether it erases, where, its bytes. -/
structure Op where
  erase : Bool
  pos : Int
  bytes : List Nat
def opE (B : Nat) (l : List Sec) (o : Op) : Int := if o.erase = true then erE B o.pos else wrE l o.pos o.bytes.length
def opL (R B T S O : Nat) (l : List Sec) (o : Op) : List Sec := if o.erase = true then er R B T S l o.pos else wr (Geo.shadow R B T S O o.pos) l o.pos o.bytes.length (strOf o.bytes)
theorem opL_len (R B T S O : Nat) (l : List Sec) (o : Op) : (opL R B T S O l o).length = l.length := by
  unfold opL; split
  · exact er_len _ _ _ _ _ _
  · exact wr_len _ _ _ _ _
def play (R B T S O : Nat) (l : List Sec) (os : List Op) : List Sec := os.foldl (opL R B T S O) l
theorem play_snoc (R B T S O : Nat) (l : List Sec) (os : List Op) (o : Op) : play R B T S O l (os ++ [o]) = opL R B T S O (play R B T S O l os) o := by simp [play]
theorem play_len (R B T S O : Nat) (os : List Op) : ∀ l : List Sec, (play R B T S O l os).length = l.length := by
  induction os with
  | nil => intro l; rfl
  | cons o os ih => intro l; show (play R B T S O (opL R B T S O l o) os).length = _; rw [ih, opL_len]
theorem play_take (R B T S O : Nat) (l : List Sec) (os : List Op) {k : Nat} (h : k < os.length) : play R B T S O l (os.take (k + 1)) = opL R B T S O (play R B T S O l (os.take k)) os[k] := by
  rw [List.take_succ_eq_append_getElem h, play_snoc]
/-- Sector a is as before. -/
theorem same_at {l k : List Sec} {a : Nat} (hl : k.length = l.length) (h : k[a]? = l[a]?) : st k a = st l a ∧ rdE k a = rdE l a ∧ rdB k a = rdB l a := by
  have e : at_ k (a : Int) = at_ l (a : Int) := by
    simp only [at_, Int.toNat_natCast, List.getD_eq_getElem?_getD, h]
  have e2 : rdE k a = rdE l a := by unfold rdE; rw [e, hl]
  refine ⟨by unfold st; rw [e, hl], e2, by unfold rdB; rw [e2, e]⟩
/-! ### Strings and bytes -/
def bOf (s : ByteArray) : List Nat := s.data.toList.map (·.toNat)
theorem bOf_len (s : ByteArray) : (bOf s).length = s.size := by simp [bOf]
theorem bOf_lt (s : ByteArray) : ∀ x ∈ bOf s, x < 256 := by
  intro x hx
  obtain ⟨y, _, rfl⟩ := List.mem_map.1 hx
  exact y.toNat_lt
theorem strOf_bOf (s : ByteArray) : strOf (bOf s) = s := by
  have h : (strOf (bOf s)).data.toList = s.data.toList := by
    rw [← ByteArray.toList_eq, strOf_toList, bOf, List.map_map]
    conv => rhs; rw [← List.map_id s.data.toList]
    exact List.map_congr_left fun y _ => by simp
  have h2 : (strOf (bOf s)).data = s.data := Array.ext' h
  cases s; cases hq : strOf _; simp_all
theorem bOf_strOf {l : List Nat} (h : ∀ x ∈ l, x < 256) : bOf (strOf l) = l := by
  unfold bOf
  rw [← ByteArray.toList_eq, strOf_toList, List.map_map]
  conv => rhs; rw [← List.map_id l]
  exact List.map_congr_left fun x hx => by have := h x hx; simp; omega
theorem bOf_at {s : ByteArray} {k : Nat} (h : k < s.size) : ((s.data.toList.getD k 0).toNat : Nat) = (bOf s).getD k 0 := by
  have h2 : k < s.data.toList.length := by simpa using h
  rw [getD_in h2, getD_in (by rw [bOf_len]; exact h)]
  simp [bOf]
theorem strOf_size (l : List Nat) : (strOf l).size = l.length := by
  have h := congrArg List.length (strOf_toList l)
  rw [ByteArray.toList_eq, List.length_map] at h
  simpa using h
theorem bOf_empty : bOf ByteArray.empty = [] := rfl
end Med
end Go.Proofs.Ytbaclcpnnompnaa
