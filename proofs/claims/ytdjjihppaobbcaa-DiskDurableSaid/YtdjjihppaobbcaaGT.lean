/- Joined: Mda Mdb Mdc Mdd Mde. -/
import Derived.Test.YtdjjihppaobbcaaGS
import Derived.Test.YtdjjihppaobbcaaGA
import Derived.Test.YtdjjihppaobbcaaChg
import Derived.Lib.ConvBytes
import Derived.Laws.AppendOwn
import Derived.StillTailTactics
import Derived.StillTail
namespace Go.Proofs.Ytdjjihppaobbcaa
/-- A shadow's sectors lie behind the sector, and there are such sectors. -/
theorem Geo.shadow_in {R B T S O : Nat} (h : Geo.GV (R : Int) B T S O) (a : Int) : ∀ x ∈ Geo.shadow R B T S O a, 0 ≤ a ∧ a < x ∧ x < ((R + B * (T * S) : Nat) : Int) := by
  intro x hx
  unfold Geo.shadow at hx
  by_cases ha : a < R ∨ ((R + B * (T * S) : Nat) : Int) ≤ a
  · rw [Geo.shn_out (by rw [Geo.loc_out h ha]; decide)] at hx
    cases hx
  · obtain ⟨n, rfl⟩ : ∃ n : Nat, a = ((R + n : Nat) : Int) := ⟨(a - R).toNat, by omega⟩
    have hn : n < B * (T * S) := by omega
    rw [Geo.shn_in h hn] at hx
    simp only [Geo.shd, List.mem_map, List.mem_range] at hx
    obtain ⟨i, hi, rfl⟩ := hx
    have g := Geo.gv_nat h
    have hz := Nat.mod_lt n (show S > 0 by omega)
    have e := Geo.shd_num (S := S) (T := T) n (i + 1)
    have b := Geo.num_lt (B := B) (T := T) (S := S) (x := n / (T * S)) (y := n / S % T + (i + 1)) (z := n % S) (Geo.div_lt hn) (by omega) hz
    rw [← e] at b
    have p : 0 < (i + 1) * S := Nat.mul_pos (by omega) (by omega)
    have q : ((i : Int) + 1) * (S : Int) = (((i + 1) * S : Nat) : Int) := by push_cast; rfl
    rw [q]
    omega
theorem Geo.shadow_len {R B T S O : Nat} (h : Geo.GV (R : Int) B T S O) (a : Int) : (Geo.shadow R B T S O a).length ≤ 3 := by
  have g := Geo.gv_nat h
  unfold Geo.shadow
  rw [Geo.shd_len]
  by_cases ha : a < R ∨ ((R + B * (T * S) : Nat) : Int) ≤ a
  · rw [Geo.shn_out (by rw [Geo.loc_out h ha]; decide)]; omega
  · obtain ⟨n, rfl⟩ : ∃ n : Nat, a = ((R + n : Nat) : Int) := ⟨(a - R).toNat, by omega⟩
    rw [Geo.shn_in h (by omega)]; omega
namespace Med
theorem kill_take (l : List (Int × ByteArray)) (sh : List Int) {k : Nat} (h : k < sh.length) (f : List (Int × ByteArray) → List Int → List (Int × ByteArray)) (hf : ∀ l sh i, f l (sh ++ [i]) = (f l sh).set i.toNat (2, ByteArray.empty)) : f l (sh.take (k + 1)) = (f l (sh.take k)).set (sh.getD k 0).toNat (2, ByteArray.empty) := by
  rw [List.take_succ_eq_append_getElem h, hf, getD_in h]
/-- A sector: its state and its bytes. -/
abbrev Sec := Int × ByteArray
def blank : Sec := (0, ByteArray.empty)
def dead : Sec := (2, ByteArray.empty)
/-- Sectors are destroyed. -/
def kill (l : List Sec) (sh : List Int) : List Sec := sh.foldl (fun l i => l.set i.toNat dead) l
theorem kill_snoc (l : List Sec) (sh : List Int) (i : Int) : kill l (sh ++ [i]) = (kill l sh).set i.toNat dead := by simp [kill]
theorem kill_len (sh : List Int) : ∀ l : List Sec, (kill l sh).length = l.length := by
  induction sh with
  | nil => intro l; rfl
  | cons i sh ih => intro l; show (kill (l.set i.toNat dead) sh).length = _; rw [ih]; simp
theorem kill_off (sh : List Int) (j : Nat) : ∀ l : List Sec, (∀ i ∈ sh, i.toNat ≠ j) → (kill l sh)[j]? = l[j]? := by
  induction sh with
  | nil => intro l _; rfl
  | cons i sh ih =>
    intro l h
    show (kill (l.set i.toNat dead) sh)[j]? = _
    rw [ih _ fun x hx => h x (List.mem_cons_of_mem _ hx), List.getElem?_set_ne (h i List.mem_cons_self)]
/-- What is not written is not written behind it. -/
theorem kill_not (sh : List Int) (j : Nat) : ∀ l : List Sec, (∀ s, l[j]? = some s → s.1 ≠ 1) → ∀ s, (kill l sh)[j]? = some s → s.1 ≠ 1 := by
  induction sh with
  | nil => intro l h; exact h
  | cons i sh ih =>
    intro l h
    show ∀ s, (kill (l.set i.toNat dead) sh)[j]? = some s → _
    refine ih _ fun s hs => ?_
    rw [List.getElem?_set] at hs
    split at hs
    · split at hs
      · injection hs with hs; subst hs; decide
      · cases hs
    · exact h s hs
def put (sh : List Int) (l : List Sec) (a : Int) (b : ByteArray) : List Sec := kill (l.set a.toNat (1, b)) sh
theorem put_len (sh : List Int) (l : List Sec) (a : Int) (b : ByteArray) : (put sh l a b).length = l.length := by unfold put; rw [kill_len]; simp
/-- Sectors become blank. -/
def wipe (l : List Sec) (f k : Nat) : List Sec := (List.range k).foldl (fun l i => l.set (f + i) blank) l
theorem wipe_zero (l : List Sec) (f : Nat) : wipe l f 0 = l := rfl
theorem wipe_succ (l : List Sec) (f k : Nat) : wipe l f (k + 1) = (wipe l f k).set (f + k) blank := by simp [wipe, List.range_succ]
theorem wipe_len (l : List Sec) (f : Nat) : ∀ k, (wipe l f k).length = l.length := by
  intro k
  induction k with
  | zero => rfl
  | succ k ih => rw [wipe_succ]; simp [ih]
theorem wipe_off (l : List Sec) (f j : Nat) : ∀ k, (j < f ∨ f + k ≤ j) → (wipe l f k)[j]? = l[j]? := by
  intro k
  induction k with
  | zero => intro _; rfl
  | succ k ih => intro h; rw [wipe_succ, List.getElem?_set_ne (by omega), ih (by omega)]
theorem wipe_in (l : List Sec) (f j : Nat) : ∀ k, f ≤ j → j < f + k → j < l.length → (wipe l f k)[j]? = some blank := by
  intro k
  induction k with
  | zero => intro h1 h2; omega
  | succ k ih =>
    intro h1 h2 h3
    rw [wipe_succ, List.getElem?_set]
    by_cases e : f + k = j
    · rw [if_pos e, wipe_len, if_pos (by omega)]
    · rw [if_neg e, ih h1 (by omega) h3]
/-! ### What the methods return -/
def at_ (l : List Sec) (a : Int) : Sec := l.getD a.toNat blank
def st (l : List Sec) (a : Int) : Int := if 0 ≤ a ∧ a < l.length then (at_ l a).1 else 0
def rdE (l : List Sec) (a : Int) : Int := if 0 ≤ a ∧ a < l.length then (if (at_ l a).1 = 1 then 0 else 15) else 2
def rdB (l : List Sec) (a : Int) : ByteArray := if rdE l a = 0 then (at_ l a).2 else ByteArray.empty
def wrE (l : List Sec) (a : Int) (n : Nat) : Int := if 0 ≤ a ∧ a < l.length then (if 64 < n then 7 else 0) else 2
def wr (sh : List Int) (l : List Sec) (a : Int) (n : Nat) (b : ByteArray) : List Sec := if wrE l a n = 0 then put sh l a b else l
def erE (B : Nat) (x : Int) : Int := if 0 ≤ x ∧ x < B then 0 else 2
def er (R B T S : Nat) (l : List Sec) (x : Int) : List Sec := if 0 ≤ x ∧ x < B then wipe l (R + x.toNat * (T * S)) (T * S) else l
theorem wr_len (sh : List Int) (l : List Sec) (a : Int) (n : Nat) (b : ByteArray) : (wr sh l a n b).length = l.length := by
  unfold wr; split
  · exact put_len _ _ _ _
  · rfl
theorem er_len (R B T S : Nat) (l : List Sec) (x : Int) : (er R B T S l x).length = l.length := by
  unfold er; split
  · exact wipe_len _ _ _
  · rfl
/-- An operation: whether it erases, where, its bytes. -/
structure Op where
  erase : Bool
  pos : Int
  bytes : List Nat
def opE (B : Nat) (l : List Sec) (o : Op) : Int := if o.erase = true then erE B o.pos else wrE l o.pos o.bytes.length
def opL (R B T S O : Nat) (l : List Sec) (o : Op) : List Sec := if o.erase = true then er R B T S l o.pos else wr (Geo.shadow R B T S O o.pos) l o.pos o.bytes.length (strOf o.bytes)
theorem opL_len (R B T S O : Nat) (l : List Sec) (o : Op) : (opL R B T S O l o).length = l.length := by
  unfold opL; split
  · exact er_len _ _ _ _ _ _
  · exact wr_len _ _ _ _ _
def play (R B T S O : Nat) (l : List Sec) (os : List Op) : List Sec := os.foldl (opL R B T S O) l
theorem play_snoc (R B T S O : Nat) (l : List Sec) (os : List Op) (o : Op) : play R B T S O l (os ++ [o]) = opL R B T S O (play R B T S O l os) o := by simp [play]
theorem play_len (R B T S O : Nat) (os : List Op) : ∀ l : List Sec, (play R B T S O l os).length = l.length := by
  induction os with
  | nil => intro l; rfl
  | cons o os ih => intro l; show (play R B T S O (opL R B T S O l o) os).length = _; rw [ih, opL_len]
theorem play_take (R B T S O : Nat) (l : List Sec) (os : List Op) {k : Nat} (h : k < os.length) : play R B T S O l (os.take (k + 1)) = opL R B T S O (play R B T S O l (os.take k)) os[k] := by
  rw [List.take_succ_eq_append_getElem h, play_snoc]
/-- Sector a is as before. -/
theorem same_at {l k : List Sec} {a : Nat} (hl : k.length = l.length) (h : k[a]? = l[a]?) : st k a = st l a ∧ rdE k a = rdE l a ∧ rdB k a = rdB l a := by
  have e : at_ k (a : Int) = at_ l (a : Int) := by
    simp only [at_, Int.toNat_natCast, List.getD_eq_getElem?_getD, h]
  have e2 : rdE k a = rdE l a := by unfold rdE; rw [e, hl]
  refine ⟨by unfold st; rw [e, hl], e2, by unfold rdB; rw [e2, e]⟩
/-! ### Strings and bytes -/
def bOf (s : ByteArray) : List Nat := s.data.toList.map (·.toNat)
theorem bOf_len (s : ByteArray) : (bOf s).length = s.size := by simp [bOf]
theorem bOf_lt (s : ByteArray) : ∀ x ∈ bOf s, x < 256 := by
  intro x hx
  obtain ⟨y, _, rfl⟩ := List.mem_map.1 hx
  exact y.toNat_lt
theorem strOf_bOf (s : ByteArray) : strOf (bOf s) = s := by
  have h : (strOf (bOf s)).data.toList = s.data.toList := by
    rw [← ByteArray.toList_eq, strOf_toList, bOf, List.map_map]
    conv => rhs; rw [← List.map_id s.data.toList]
    exact List.map_congr_left fun y _ => by simp
  have h2 : (strOf (bOf s)).data = s.data := Array.ext' h
  cases s; cases hq : strOf _; simp_all
theorem bOf_strOf {l : List Nat} (h : ∀ x ∈ l, x < 256) : bOf (strOf l) = l := by
  unfold bOf
  rw [← ByteArray.toList_eq, strOf_toList, List.map_map]
  conv => rhs; rw [← List.map_id l]
  exact List.map_congr_left fun x hx => by have := h x hx; simp; omega
theorem bOf_at {s : ByteArray} {k : Nat} (h : k < s.size) : ((s.data.toList.getD k 0).toNat : Nat) = (bOf s).getD k 0 := by
  have h2 : k < s.data.toList.length := by simpa using h
  rw [getD_in h2, getD_in (by rw [bOf_len]; exact h)]
  simp [bOf]
theorem strOf_size (l : List Nat) : (strOf l).size = l.length := by
  have h := congrArg List.length (strOf_toList l)
  rw [ByteArray.toList_eq, List.length_map] at h
  simpa using h
theorem bOf_empty : bOf ByteArray.empty = [] := rfl
end Med
end Go.Proofs.Ytdjjihppaobbcaa
namespace Go.Proofs.Ytdjjihppaobbcaa
open Go Go.RowKit
set_option linter.unusedVariables false
set_option linter.unusedSimpArgs false
open Med
/-- Block X is just these sectors, two cells each, and perhaps more cells behind them. -/
def Sx (w : World) (X : Nat) (ts : TypeId) (c : Nat) (l : List Sec) : Prop :=
  ∃ cs, Row w X ts cs ∧ cs.size = c * 2 ∧ l.length ≤ c ∧ c ≤ maxLen ∧ ∀ k (h : k < l.length), cs[k * 2]? = some (.int .i64 l[k].1) ∧ cs[k * 2 + 1]? = some (.string l[k].2)
section
variable {w w' : World} {X c : Nat} {ts : TypeId} {l : List Sec}
theorem Sx.lt (h : Sx w X ts c l) : X < w.heap.size := by obtain ⟨_, h, _⟩ := h; exact h.lt
theorem Sx.block (h : Sx w X ts c l) (hb : w'.heap[X]? = w.heap[X]?) : Sx w' X ts c l := by
  obtain ⟨cs, h1, h2⟩ := h
  exact ⟨cs, hb.trans h1, h2⟩
theorem Sx.cap (h : Sx w X ts c l) : l.length ≤ c ∧ c ≤ maxLen := by obtain ⟨_, _, _, h1, h2, _⟩ := h; exact ⟨h1, h2⟩
theorem Sx.c0 (h : Sx w X ts c l) {k : Nat} (hk : k < l.length) : w.cell? ⟨X, k * 2, none⟩ = some (.int .i64 l[k].1) := by
  obtain ⟨cs, hr, _, _, _, hc⟩ := h; rw [hr.cell]; exact (hc k hk).1
theorem Sx.c1 (h : Sx w X ts c l) {k : Nat} (hk : k < l.length) : w.cell? ⟨X, k * 2 + 1, none⟩ = some (.string l[k].2) := by
  obtain ⟨cs, hr, _, _, _, hc⟩ := h; rw [hr.cell]; exact (hc k hk).2
theorem Sx.frz (h : Sx w X ts c l) (i : Nat) : w.frozen? ⟨X, i, none⟩ = false := by obtain ⟨_, h, _⟩ := h; exact h.frozen i
/-- A sector is set. -/
theorem Sx.set (h : Sx w X ts c l) (k : Nat) (s : Sec) : Sx ((w.setCell ⟨X, k * 2, none⟩ (.int .i64 s.1)).setCell ⟨X, k * 2 + 1, none⟩ (.string s.2)) X ts c (l.set k s) := by
  obtain ⟨cs, hr, hs, hl, hm, hc⟩ := h
  refine ⟨_, (hr.store (k * 2) (.int .i64 s.1)).store (k * 2 + 1) (.string s.2), by simpa using hs, by simpa using hl, hm, fun j hj => ?_⟩
  have hj' : j < l.length := by simpa using hj
  obtain ⟨a0, a1⟩ := hc j hj'
  by_cases e : k = j
  · subst e
    rw [List.getElem_set_self]
    refine ⟨?_, ?_⟩
    · rw [Array.getElem?_setIfInBounds_ne (by omega), Array.getElem?_setIfInBounds_self_of_lt (by omega)]
    · rw [Array.getElem?_setIfInBounds_self_of_lt (by simp; omega)]
  · rw [List.getElem_set_ne e]
    refine ⟨?_, ?_⟩
    · rw [Array.getElem?_setIfInBounds_ne (by omega), Array.getElem?_setIfInBounds_ne (by omega)]; exact a0
    · rw [Array.getElem?_setIfInBounds_ne (by omega), Array.getElem?_setIfInBounds_ne (by omega)]; exact a1
end
/-- A medium: its struct is block M, its sectors are block X. -/
structure Md (tm ts : TypeId) (w : World) (M X c R B T S O : Nat) (l : List Sec) : Prop where
  v : Geo.GV (R : Int) B T S O
  len : l.length = R + B * (T * S)
  row : Row w M tm #[.int .i64 (R : Int), .int .i64 (B : Int), .int .i64 (T : Int), .int .i64 (S : Int), .int .i64 (O : Int), .slice (some ⟨X, 0, none⟩) l.length c]
  sx : Sx w X ts c l
  ne : M ≠ X
  sh : ∀ s ∈ l, s.2.size ≤ 64
section
variable {w w' : World} {M X c R B T S O : Nat} {tm ts : TypeId} {l : List Sec}
theorem Md.chg {o : Nat → Prop} (h : Md tm ts w M X c R B T S O l) (hc : Chg o w w') (h1 : ¬ o M) (h2 : ¬ o X) : Md tm ts w' M X c R B T S O l :=
  ⟨h.v, h.len, (hc.block M h.row.lt h1).trans h.row, h.sx.block (hc.block X h.sx.lt h2), h.ne, h.sh⟩
theorem Md.fw (h : Md tm ts w M X c R B T S O l) (hb : Below w.heap.size w w') : Md tm ts w' M X c R B T S O l := h.chg (below_chg hb fun _ => False) id id
theorem Md.small (h : Md tm ts w M X c R B T S O l) : l.length ≤ 100000 ∧ 1 ≤ l.length := by
  have g := Geo.gv_nat h.v
  have a := Geo.bts_le g.2.2.1 g.2.2.2.2.1 g.2.2.2.2.2.2.1
  have b := Nat.mul_le_mul g.2.1 (Geo.ts_pos g.2.2.2.1 g.2.2.2.2.2.1)
  have := h.len
  simp only [Nat.one_mul] at b
  have b' : 0 < B * (T * S) := by omega
  omega
/-- A sector is set. -/
theorem Md.set (h : Md tm ts w M X c R B T S O l) (k : Nat) (s : Sec) (hs : s.2.size ≤ 64) : Md tm ts ((w.setCell ⟨X, k * 2, none⟩ (.int .i64 s.1)).setCell ⟨X, k * 2 + 1, none⟩ (.string s.2)) M X c R B T S O (l.set k s) :=
  ⟨h.v, by simpa using h.len, by
    rw [List.length_set]
    exact (Below.heap_setCell _ ⟨X, k * 2 + 1, none⟩ _ M h.ne).trans ((Below.heap_setCell _ ⟨X, k * 2, none⟩ _ M h.ne).trans h.row), h.sx.set k s, h.ne, fun x hx => by
    rcases List.mem_or_eq_of_mem_set hx with h2 | rfl
    · exact h.sh x h2
    · exact hs⟩
theorem Md.setChg (w : World) (X k : Nat) (u v : Value) : Chg (fun j => j = X) w ((w.setCell ⟨X, k * 2, none⟩ u).setCell ⟨X, k * 2 + 1, none⟩ v) :=
  ((Chg.refl (fun j => j = X) w).setCell (p := ⟨X, k * 2, none⟩) rfl u).setCell (p := ⟨X, k * 2 + 1, none⟩) rfl v
theorem Md.c5 (h : Md tm ts w M X c R B T S O l) : w.cell? ⟨M, 5, none⟩ = some (.slice (some ⟨X, 0, none⟩) l.length c) := by rw [h.row.cell]; rfl
theorem Md.geo (h : Md tm ts w M X c R B T S O l) : w.cell? ⟨M, 0, none⟩ = some (.int .i64 (R : Int)) ∧ w.cell? ⟨M, 1, none⟩ = some (.int .i64 (B : Int)) ∧ w.cell? ⟨M, 2, none⟩ = some (.int .i64 (T : Int)) ∧ w.cell? ⟨M, 3, none⟩ = some (.int .i64 (S : Int)) ∧ w.cell? ⟨M, 4, none⟩ = some (.int .i64 (O : Int)) := by
  refine ⟨?_, ?_, ?_, ?_, ?_⟩ <;> (rw [h.row.cell]; rfl)
theorem Md.rng (h : Md tm ts w M X c R B T S O l) : w.rangeAt M 0 [.int .i64 (R : Int), .int .i64 (B : Int), .int .i64 (T : Int), .int .i64 (S : Int), .int .i64 (O : Int)] := fun j v hv => by
  rw [Nat.zero_add, h.row.cell]
  match j, hv with
  | 0, hv => simpa using hv
  | 1, hv => simpa using hv
  | 2, hv => simpa using hv
  | 3, hv => simpa using hv
  | 4, hv => simpa using hv
  | j + 5, hv => simp at hv
end
/-- A value is returned, and nothing changes. -/
def qPost (v : Value) (w : World) (e : Ending) (w' : World) : Prop := e = .returned v ∧ w = w'
/-- The value reads as the bytes l; it is nil, or lies in new memory that may be written. -/
def OwF (w : World) (K : Nat) (v : Value) (l : List Nat) : Prop :=
  Bs w v l ∧ ((v = .slice none 0 0 ∧ l = []) ∨ ∃ g c cs fr, v = .slice (some ⟨g, 0, none⟩) l.length c ∧ K ≤ g ∧ w.heap[g]? = some (.cells cs 5 fr) ∧ l.length ≤ fr.1 ∧ l.length ≤ cs.size)
theorem OwF.nil_ (w : World) (K : Nat) : OwF w K (.slice none 0 0) [] := ⟨Bs.nil_ w, Or.inl ⟨rfl, rfl⟩⟩
theorem bytes_below (w : World) (e : TypeId) (s : ByteArray) : Below w.heap.size w (Lib.bytesWorld w e s) :=
  ⟨rfl, rfl, rfl, by rw [Lib.bytesWorld_size]; omega, fun k hk => Lib.bytesWorld_at_old w e s k hk⟩
theorem bytes_own (w : World) (s : ByteArray) (hs : s.size ≤ 64) : OwF (Lib.bytesWorld w 5 s) w.heap.size (.slice (some ⟨w.heap.size, 0, none⟩) s.size (grownCap w s.size 0 5)) (bOf s) := by
  have hm : s.size ≤ maxLen := by unfold maxLen; omega
  refine ⟨⟨some ⟨w.heap.size, 0, none⟩, _, by rw [bOf_len], ⟨by rw [bOf_len]; exact grownCap_ge _ _ _ _, grownCap_le_maxLen _ _ _ _ hm⟩, bOf_lt s, fun h => (by cases h), fun _ => ⟨_, 0, rfl, fun k hk => ?_⟩⟩, Or.inr ⟨w.heap.size, _, _, _, by rw [bOf_len], Nat.le_refl _, Lib.bytesWorld_at_new w _ s, ?_, ?_⟩⟩
  · rw [bOf_len] at hk
    rw [Nat.zero_add, Lib.bytesWorld_cell w _ s k hk]
    rw [← bOf_at hk]
  · rw [bOf_len]; simp [Lib.bytesCells]
  · rw [bOf_len]; simp [Lib.bytesCells]
/-- What Read returns. -/
def rdPost (E : Int) (s : ByteArray) (w : World) (e : Ending) (w' : World) : Prop := ∃ v, e = .returned (.tuple #[v, .int .i64 E]) ∧ OwF w' w.heap.size v (bOf s) ∧ Below w.heap.size w w'
theorem results_tmp2 {fn : Func} {t u : Tmp} (h : fn.results = #[.tmp t, .tmp u]) (tmps : Array Value) (P : Program) (w : World) :
    (results fn tmps).run P w = .ok (.tuple #[tmps.getD t undef, tmps.getD u undef]) w := by
  simp [results, h]
end Go.Proofs.Ytdjjihppaobbcaa
namespace Go.Proofs.Ytdjjihppaobbcaa
open Go Go.RowKit Med
set_option linter.unusedVariables false
set_option linter.unusedSimpArgs false
abbrev PMd := Md 112 135
abbrev RMd := Md 129 126
set_option maxHeartbeats 4000000 in
set_option maxRecDepth 100000 in
theorem phas_any {w : World} {M X c R B T S O : Nat} {l : List Sec} (h : PMd w M X c R B T S O l) (a : Int) : Calls Try.prog 99 #[.pointer (some ⟨M, 0, none⟩), .int .i64 a] w (qPost (.bool (decide (0 ≤ a ∧ a < l.length))) w) := by
  have c5 := h.c5
  have sm := h.small
  clear h
  generalize l.length = n at *
  by_cases h0 : 0 ≤ a
  · have d0 : decide ((0 : Int) ≤ a) = true := decide_eq_true h0
    by_cases h1 : a < n
    · have d1 : decide (a < (n : Int)) = true := decide_eq_true h1
      rw [decide_eq_true (show 0 ≤ a ∧ a < (n : Int) from ⟨h0, h1⟩)]
      go_enter Try.func99, Try.ntmps99
      go_wp2_with fail
      go_ret
      exact ⟨rfl, rfl⟩
    · have d1 : decide (a < (n : Int)) = false := decide_eq_false h1
      rw [decide_eq_false (show ¬ (0 ≤ a ∧ a < (n : Int)) from fun h => h1 h.2)]
      go_enter Try.func99, Try.ntmps99
      go_wp2_with fail
      go_ret
      exact ⟨rfl, rfl⟩
  · have d0 : decide ((0 : Int) ≤ a) = false := decide_eq_false h0
    rw [decide_eq_false (show ¬ (0 ≤ a ∧ a < (n : Int)) from fun h => h0 h.1)]
    go_enter Try.func99, Try.ntmps99
    go_wp2_with fail
    go_ret
    exact ⟨rfl, rfl⟩
set_option maxHeartbeats 4000000 in
set_option maxRecDepth 100000 in
theorem pst_any {w : World} {M X c R B T S O : Nat} {l : List Sec} (h : PMd w M X c R B T S O l) (a : Int) : Calls Try.prog 74 #[.pointer (some ⟨M, 0, none⟩), .int .i64 a] w (qPost (.int .i64 (st l a)) w) := by
  have H := Lib.hid (phas_any h a)
  have c5 := h.c5
  have sm := h.small
  unfold st
  by_cases hc : 0 ≤ a ∧ a < l.length
  · rw [if_pos hc]
    obtain ⟨k, rfl⟩ : ∃ k : Nat, a = k := ⟨a.toNat, by omega⟩
    have hk : k < l.length := by omega
    have k0 := h.sx.c0 hk
    have e : at_ l (k : Int) = l[k] := by simp [at_, List.getD, hk]
    rw [decide_eq_true hc] at H
    rw [e]
    clear h e hc
    generalize l[k].1 = x at *
    generalize l.length = n at *
    go_enter Try.func74, Try.ntmps74
    go_wp2_with fail
    refine H.out.mono ?_
    rintro e w1 ⟨rfl, rfl⟩
    go_wp2_with fail
    go_ret
    exact ⟨rfl, rfl⟩
  · rw [if_neg hc]
    rw [decide_eq_false hc] at H
    clear h hc
    go_enter Try.func74, Try.ntmps74
    go_wp2_with fail
    refine H.out.mono ?_
    rintro e w1 ⟨rfl, rfl⟩
    go_wp2_with fail
    go_ret
    exact ⟨rfl, rfl⟩
set_option maxHeartbeats 4000000 in
set_option maxRecDepth 100000 in
theorem rhas_any {w : World} {M X c R B T S O : Nat} {l : List Sec} (h : RMd w M X c R B T S O l) (a : Int) : Calls Try.prog 89 #[.pointer (some ⟨M, 0, none⟩), .int .i64 a] w (qPost (.bool (decide (0 ≤ a ∧ a < l.length))) w) := by
  have c5 := h.c5
  have sm := h.small
  clear h
  generalize l.length = n at *
  by_cases h0 : 0 ≤ a
  · have d0 : decide ((0 : Int) ≤ a) = true := decide_eq_true h0
    by_cases h1 : a < n
    · have d1 : decide (a < (n : Int)) = true := decide_eq_true h1
      rw [decide_eq_true (show 0 ≤ a ∧ a < (n : Int) from ⟨h0, h1⟩)]
      go_enter Try.func89, Try.ntmps89
      go_wp2_with fail
      go_ret
      exact ⟨rfl, rfl⟩
    · have d1 : decide (a < (n : Int)) = false := decide_eq_false h1
      rw [decide_eq_false (show ¬ (0 ≤ a ∧ a < (n : Int)) from fun h => h1 h.2)]
      go_enter Try.func89, Try.ntmps89
      go_wp2_with fail
      go_ret
      exact ⟨rfl, rfl⟩
  · have d0 : decide ((0 : Int) ≤ a) = false := decide_eq_false h0
    rw [decide_eq_false (show ¬ (0 ≤ a ∧ a < (n : Int)) from fun h => h0 h.1)]
    go_enter Try.func89, Try.ntmps89
    go_wp2_with fail
    go_ret
    exact ⟨rfl, rfl⟩
set_option maxHeartbeats 4000000 in
set_option maxRecDepth 100000 in
theorem prd_any {w : World} {M X c R B T S O : Nat} {l : List Sec} (h : PMd w M X c R B T S O l) (a : Int) : Calls Try.prog 87 #[.pointer (some ⟨M, 0, none⟩), .int .i64 a] w (rdPost (rdE l a) (rdB l a) w) := by
  have H := Lib.hid (phas_any h a)
  have c5 := h.c5
  have sm := h.small
  by_cases hc : 0 ≤ a ∧ a < l.length
  · obtain ⟨k, rfl⟩ : ∃ k : Nat, a = k := ⟨a.toNat, by omega⟩
    have hk : k < l.length := by omega
    have k0 := h.sx.c0 hk
    have k1 := h.sx.c1 hk
    have ss := h.sh _ (List.getElem_mem hk)
    have e : at_ l (k : Int) = l[k] := by simp [at_, List.getD, hk]
    rw [decide_eq_true hc] at H
    by_cases h1 : l[k].1 = 1
    · have e1 : rdE l (k : Int) = 0 := by unfold rdE; rw [if_pos hc, e, if_pos h1]
      have e2 : rdB l (k : Int) = l[k].2 := by unfold rdB; rw [if_pos e1, e]
      rw [e1, e2]
      rw [h1] at k0
      have hcv := Lib.run_convert_string_bytes (P := Try.prog) w 9 60 5 l[k].2 (u := .string) Try.underlying9 Try.underlying60 Try.underlying5
      have NW := Lib.hid (bytes_own w l[k].2 ss)
      have BW := Lib.hid (bytes_below w 5 l[k].2)
      generalize Lib.bytesWorld w 5 l[k].2 = w2 at *
      generalize grownCap w l[k].2.size 0 5 = cap at *
      clear h e e1 e2 hc h1 ss
      generalize l[k].2 = x at *
      generalize l.length = n at *
      go_enter Try.func87, Try.ntmps87
      go_wp2_with fail
      refine H.out.mono ?_
      rintro e w1 ⟨rfl, rfl⟩
      go_wp2_with fail
      refine bodyPost_ret (results_tmp2 rfl _ _ _) rfl ?_
      exact ⟨_, rfl, NW.out, BW.out⟩
    · have e1 : rdE l (k : Int) = 15 := by unfold rdE; rw [if_pos hc, e, if_neg h1]
      have e2 : rdB l (k : Int) = ByteArray.empty := by unfold rdB; rw [e1, if_neg (by decide)]
      rw [e1, e2]
      have d1 : (l[k].1 == 1) = false := by simpa using h1
      clear h e e1 e2 hc k1 ss
      generalize l[k].1 = x at *
      generalize l.length = n at *
      go_enter Try.func87, Try.ntmps87
      go_wp2_with fail
      refine H.out.mono ?_
      rintro e w1 ⟨rfl, rfl⟩
      go_wp2_with fail
      refine bodyPost_ret (results_tmp2 rfl _ _ _) rfl ?_
      exact ⟨_, rfl, OwF.nil_ _ _, Below.refl _ _⟩
  · have e1 : rdE l a = 2 := by unfold rdE; rw [if_neg hc]
    have e2 : rdB l a = ByteArray.empty := by unfold rdB; rw [e1, if_neg (by decide)]
    rw [e1, e2]
    rw [decide_eq_false hc] at H
    clear h hc e1 e2
    go_enter Try.func87, Try.ntmps87
    go_wp2_with fail
    refine H.out.mono ?_
    rintro e w1 ⟨rfl, rfl⟩
    go_wp2_with fail
    refine bodyPost_ret (results_tmp2 rfl _ _ _) rfl ?_
    exact ⟨_, rfl, OwF.nil_ _ _, Below.refl _ _⟩
set_option maxHeartbeats 4000000 in
set_option maxRecDepth 100000 in
theorem rrd_any {w : World} {M X c R B T S O : Nat} {l : List Sec} (h : RMd w M X c R B T S O l) (a : Int) : Calls Try.prog 62 #[.pointer (some ⟨M, 0, none⟩), .int .i64 a] w (rdPost (rdE l a) (rdB l a) w) := by
  have H := Lib.hid (rhas_any h a)
  have c5 := h.c5
  have sm := h.small
  by_cases hc : 0 ≤ a ∧ a < l.length
  · obtain ⟨k, rfl⟩ : ∃ k : Nat, a = k := ⟨a.toNat, by omega⟩
    have hk : k < l.length := by omega
    have k0 := h.sx.c0 hk
    have k1 := h.sx.c1 hk
    have ss := h.sh _ (List.getElem_mem hk)
    have e : at_ l (k : Int) = l[k] := by simp [at_, List.getD, hk]
    rw [decide_eq_true hc] at H
    by_cases h1 : l[k].1 = 1
    · have e1 : rdE l (k : Int) = 0 := by unfold rdE; rw [if_pos hc, e, if_pos h1]
      have e2 : rdB l (k : Int) = l[k].2 := by unfold rdB; rw [if_pos e1, e]
      rw [e1, e2]
      rw [h1] at k0
      have hcv := Lib.run_convert_string_bytes (P := Try.prog) w 9 60 5 l[k].2 (u := .string) Try.underlying9 Try.underlying60 Try.underlying5
      have NW := Lib.hid (bytes_own w l[k].2 ss)
      have BW := Lib.hid (bytes_below w 5 l[k].2)
      generalize Lib.bytesWorld w 5 l[k].2 = w2 at *
      generalize grownCap w l[k].2.size 0 5 = cap at *
      clear h e e1 e2 hc h1 ss
      generalize l[k].2 = x at *
      generalize l.length = n at *
      go_enter Try.func62, Try.ntmps62
      go_wp2_with fail
      refine H.out.mono ?_
      rintro e w1 ⟨rfl, rfl⟩
      go_wp2_with fail
      refine bodyPost_ret (results_tmp2 rfl _ _ _) rfl ?_
      exact ⟨_, rfl, NW.out, BW.out⟩
    · have e1 : rdE l (k : Int) = 15 := by unfold rdE; rw [if_pos hc, e, if_neg h1]
      have e2 : rdB l (k : Int) = ByteArray.empty := by unfold rdB; rw [e1, if_neg (by decide)]
      rw [e1, e2]
      have d1 : (l[k].1 == 1) = false := by simpa using h1
      clear h e e1 e2 hc k1 ss
      generalize l[k].1 = x at *
      generalize l.length = n at *
      go_enter Try.func62, Try.ntmps62
      go_wp2_with fail
      refine H.out.mono ?_
      rintro e w1 ⟨rfl, rfl⟩
      go_wp2_with fail
      refine bodyPost_ret (results_tmp2 rfl _ _ _) rfl ?_
      exact ⟨_, rfl, OwF.nil_ _ _, Below.refl _ _⟩
  · have e1 : rdE l a = 2 := by unfold rdE; rw [if_neg hc]
    have e2 : rdB l a = ByteArray.empty := by unfold rdB; rw [e1, if_neg (by decide)]
    rw [e1, e2]
    rw [decide_eq_false hc] at H
    clear h hc e1 e2
    go_enter Try.func62, Try.ntmps62
    go_wp2_with fail
    refine H.out.mono ?_
    rintro e w1 ⟨rfl, rfl⟩
    go_wp2_with fail
    refine bodyPost_ret (results_tmp2 rfl _ _ _) rfl ?_
    exact ⟨_, rfl, OwF.nil_ _ _, Below.refl _ _⟩
end Go.Proofs.Ytdjjihppaobbcaa
namespace Go.Proofs.Ytdjjihppaobbcaa
open Go Go.RowKit Med
set_option linter.unusedVariables false
set_option linter.unusedSimpArgs false
/-- What Write and Erase return. -/
def wrPost (tm ts : TypeId) (M X c R B T S O : Nat) (E : Int) (l : List Sec) (w : World) (e : Ending) (w' : World) : Prop := e = .returned (.int .i64 E) ∧ Md tm ts w' M X c R B T S O l ∧ Chg (fun j => j = X) w w'
set_option maxHeartbeats 4000000 in
set_option maxRecDepth 100000 in
theorem pwr_any {w : World} {M X c R B T S O : Nat} {l : List Sec} (h : PMd w M X c R B T S O l) (a : Int) (v : Value) (b : List Nat) (hb : Bs w v b) : Calls Try.prog 94 #[.pointer (some ⟨M, 0, none⟩), .int .i64 a, v] w (wrPost 112 135 M X c R B T S O (wrE l a b.length) (wr (Geo.shadow R B T S O a) l a b.length (strOf b)) w) := by
  have H := Lib.hid (phas_any h a)
  have c5 := h.c5
  have sm := h.small
  obtain ⟨A, cc, rfl⟩ := hb.form
  by_cases hc : 0 ≤ a ∧ a < l.length
  · rw [decide_eq_true hc] at H
    by_cases h64 : 64 < b.length
    · have e1 : wrE l a b.length = 7 := by unfold wrE; rw [if_pos hc, if_pos h64]
      have e2 : wr (Geo.shadow R B T S O a) l a b.length (strOf b) = l := by unfold wr; rw [if_neg (by rw [e1]; decide)]
      rw [e1, e2]
      have HM := Lib.hid h
      have d1 : decide ((64 : Int) < (b.length : Int)) = true := decide_eq_true (by omega)
      clear h hc e1 e2 hb
      generalize b.length = m at *
      go_enter Try.func94, Try.ntmps94
      go_wp2_with fail
      refine H.out.mono ?_
      rintro e w1 ⟨rfl, rfl⟩
      go_wp2_with fail
      go_ret
      exact ⟨rfl, HM.out, Chg.refl _ _⟩
    · obtain ⟨ad, rfl⟩ : ∃ ad : Nat, a = ad := ⟨a.toNat, by omega⟩
      have hk : ad < l.length := by omega
      have e1 : wrE l (ad : Int) b.length = 0 := by unfold wrE; rw [if_pos hc, if_neg h64]
      have e2 : wr (Geo.shadow R B T S O ad) l ad b.length (strOf b) = kill (l.set ad (1, strOf b)) (Geo.shadow R B T S O ad) := by unfold wr; rw [if_pos e1]; rfl
      rw [e1, e2]
      obtain ⟨w2, hw2⟩ : ∃ w2, (((w.setCell ⟨X, ad * 2, none⟩ (.int .i64 1)).setCell ⟨X, ad * 2 + 1, none⟩ (.string (strOf b))).drew) = w2 := ⟨_, rfl⟩
      have HW := Lib.hid hw2
      have HM : Hid (PMd w2 M X c R B T S O (l.set ad (1, strOf b))) := Lib.hid (by subst hw2; exact (h.set ad (1, strOf b) (by show (strOf b).size ≤ 64; rw [strOf_size]; omega)).fw ((Below.refl _ _).drew))
      have CS : Hid (Chg (fun j => j = X) w w2) := Lib.hid (by subst hw2; exact (Md.setChg w X ad (.int .i64 1) (.string (strOf b))).trans (below_chg ((Below.refl _ _).drew) _))
      have VV := Lib.hid h.v
      have SI := Lib.hid (Geo.shadow_in h.v (ad : Int))
      have LL := Lib.hid h.len
      clear hw2
      have f0 := h.sx.frz (ad * 2)
      have f1 := h.sx.frz (ad * 2 + 1)
      have k0 := h.sx.c0 hk
      have k1 := h.sx.c1 hk
      have CV := Lib.hid (conv_bs (P := Try.prog) (w := w.drew) 60 5 9 Try.underlying60 Try.underlying5 Try.underlying9 hb)
      have d1 : decide ((64 : Int) < (b.length : Int)) = false := decide_eq_false (by omega)
      clear h hc e1 e2 hb
      generalize b.length = m at *
      go_enter Try.func94, Try.ntmps94
      go_wp2_with fail
      refine H.out.mono ?_
      rintro e w1 ⟨rfl, rfl⟩
      go_wp2_with fail
      refine wp_region_still_tail 8 (by kernel_rfl) (by kernel_rfl) ?_
      simp only [List.take_succ_cons, List.take_zero, List.drop_succ_cons, List.drop_zero]
      repeat still_step
      refine wpStill_step (fun K hK => ?_)
      go_simp
      rw [CV.out]
      go_simp
      refine hK _ ?_
      clear hK K
      repeat still_step
      refine wpStill_nil ?_
      change wpList _ _ _ _ _ w.drew
      obtain ⟨c0, c1, c2, c3, c4⟩ := HM.out.geo
      rw [← HW.out] at c0 c1 c2 c3 c4
      go_wp2_with fail
      rw [HW.out]
      refine (pshadow_new (R : Int) B T S O (ad : Int) w2).mono ?_
      rintro e w3 ⟨v, rfl, ⟨hs, hn⟩, hb⟩
      have M3 := Lib.hid (HM.out.fw hb)
      have C3 := Lib.hid (CS.out.trans (below_chg hb _))
      have L3 := Lib.hid (Geo.shadow_len VV.out (ad : Int))
      have WX := Lib.hid (show X < w2.heap.size from HM.out.sx.lt)
      obtain ⟨A1, a1, hv⟩ := is_form hs
      obtain ⟨sh, hsh⟩ : ∃ sh, Geo.shadow (R : Int) B T S O (ad : Int) = sh := ⟨_, rfl⟩
      obtain ⟨l2, hl2⟩ : ∃ l2, l.set ad (1, strOf b) = l2 := ⟨_, rfl⟩
      have L2 := Lib.hid (show l2.length = R + B * (T * S) by rw [← hl2, List.length_set]; exact LL.out)
      rw [hsh] at hs hv L3 SI ⊢
      rw [hl2] at M3 ⊢
      obtain ⟨n, hn2⟩ : ∃ n, sh.length = n := ⟨_, rfl⟩
      have EN := Lib.hid hn2
      rw [hn2] at hv L3
      subst hv
      have IS := Lib.hid hs
      have NB := Lib.hid (show ∀ b off, A1 = some ⟨b, off, none⟩ → b ≠ X by rintro b off rfl; have := hn b rfl; have := WX.out; omega)
      have QS := Lib.hid hsh
      have QL := Lib.hid hl2
      clear c0 c1 c2 c3 c4 hs hn hb hsh hl2 hn2 HM CS HW LL VV f0 f1 k0 k1 CV c5 hk sm H d1
      have n3 : n ≤ 3 := L3.out
      go_wp2_with fail
      go_loopw [8, 34] (fun x i wr => ∃ k : Nat, k ≤ n ∧ i = .int .i64 (k : Int) ∧ Hid (PMd wr M X c R B T S O (kill l2 (sh.take k)) ∧ Chg (fun j => j = X) w3 wr)) (fun x i _ => n - (intOf i).toNat)
      case atStart => exact ⟨0, Nat.zero_le _, rfl, Lib.hid ⟨M3.out, Chg.refl _ _⟩⟩
      case round =>
        obtain ⟨k, hk, rfl, V⟩ := hrel
        have CW := Lib.hid (C3.out.trans V.out.2)
        by_cases hlt : k < n
        · have kI : (k : Int) < (n : Int) := by omega
          obtain ⟨gb, off, ha, hcell⟩ := is_nth IS.out hlt
          have hb := World.block_lt_of_cell? _ _ hcell
          have nx := NB.out gb off ha
          have hcell := (World.cell?_of_block (V.out.2.block gb hb nx)).trans hcell
          subst ha
          have SK := SI.out (sh.getD k 0) (by rw [getD_in (by rw [EN.out]; exact hlt)]; exact List.getElem_mem _)
          obtain ⟨j, hj⟩ : ∃ j : Nat, sh.getD k 0 = (j : Int) := ⟨(sh.getD k 0).toNat, by omega⟩
          rw [hj] at hcell SK
          have KT := Lib.hid (kill_take l2 sh (k := k) (by rw [EN.out]; exact hlt) kill kill_snoc)
          rw [hj] at KT
          have c5 := V.out.1.c5
          have le : (kill l2 (sh.take k)).length = l2.length := kill_len _ _
          rw [L2.out] at le
          have jl : j < (kill l2 (sh.take k)).length := by rw [le]; omega
          have sm := V.out.1.small
          have k0 := V.out.1.sx.c0 jl
          have k1 := V.out.1.sx.c1 jl
          have f0 := V.out.1.sx.frz (j * 2)
          have f1 := V.out.1.sx.frz (j * 2 + 1)
          obtain ⟨w5, hw5⟩ : ∃ w5, ((wr.setCell ⟨X, j * 2, none⟩ (.int .i64 2)).setCell ⟨X, j * 2 + 1, none⟩ (.string ⟨#[]⟩)) = w5 := ⟨_, rfl⟩
          have H5 := Lib.hid hw5
          have M5 : Hid (PMd w5 M X c R B T S O (kill l2 (sh.take (k + 1)))) := Lib.hid (by rw [KT.out]; subst hw5; exact (V.out.1.set j (2, ByteArray.empty) (Nat.zero_le _)))
          have C5 : Hid (Chg (fun j => j = X) w3 w5) := Lib.hid (by subst hw5; exact (V.out.2.trans (Md.setChg _ X j (.int .i64 2) (.string ByteArray.empty))).trans (Chg.refl _ _))
          generalize (kill l2 (sh.take k))[j].1 = x1 at *
          generalize (kill l2 (sh.take k))[j].2 = x2 at *
          generalize (kill l2 (sh.take k)).length = m at *
          clear hb hj hw5 KT le V CW SK
          go_wp2_with fail
          rw [H5.out]
          go_roundw
          case rel => exact ⟨k + 1, by omega, by go_num, Lib.hid ⟨M5.out, C5.out⟩⟩
          case measure => simp [intOf]; omega
        · obtain rfl : k = n := by omega
          have kI : ¬ (k : Int) < (k : Int) := by omega
          have dk : decide ((k : Int) < (k : Int)) = false := decide_eq_false kI
          have ME : Hid (PMd wr M X c R B T S O (kill (l.set ad (1, strOf b)) (Geo.shadow (R : Int) B T S O (ad : Int)))) := Lib.hid (by rw [QS.out, QL.out]; have := V.out.1; rw [List.take_of_length_le (by rw [EN.out]; exact Nat.le_refl _)] at this; exact this)
          clear V
          go_wp2_with fail
          go_ret
          exact ⟨rfl, ME.out, CW.out⟩
  · have e1 : wrE l a b.length = 2 := by unfold wrE; rw [if_neg hc]
    have e2 : wr (Geo.shadow R B T S O a) l a b.length (strOf b) = l := by unfold wr; rw [if_neg (by rw [e1]; decide)]
    rw [e1, e2]
    rw [decide_eq_false hc] at H
    have HM := Lib.hid h
    clear h hc e1 e2 hb
    generalize b.length = m at *
    go_enter Try.func94, Try.ntmps94
    go_wp2_with fail
    refine H.out.mono ?_
    rintro e w1 ⟨rfl, rfl⟩
    go_wp2_with fail
    go_ret
    exact ⟨rfl, HM.out, Chg.refl _ _⟩
set_option maxHeartbeats 4000000 in
set_option maxRecDepth 100000 in
theorem rwr_any {w : World} {M X c R B T S O : Nat} {l : List Sec} (h : RMd w M X c R B T S O l) (a : Int) (v : Value) (b : List Nat) (hb : Bs w v b) : Calls Try.prog 84 #[.pointer (some ⟨M, 0, none⟩), .int .i64 a, v] w (wrPost 129 126 M X c R B T S O (wrE l a b.length) (wr (Geo.shadow R B T S O a) l a b.length (strOf b)) w) := by
  have H := Lib.hid (rhas_any h a)
  have c5 := h.c5
  have sm := h.small
  obtain ⟨A, cc, rfl⟩ := hb.form
  by_cases hc : 0 ≤ a ∧ a < l.length
  · rw [decide_eq_true hc] at H
    by_cases h64 : 64 < b.length
    · have e1 : wrE l a b.length = 7 := by unfold wrE; rw [if_pos hc, if_pos h64]
      have e2 : wr (Geo.shadow R B T S O a) l a b.length (strOf b) = l := by unfold wr; rw [if_neg (by rw [e1]; decide)]
      rw [e1, e2]
      have HM := Lib.hid h
      have d1 : decide ((64 : Int) < (b.length : Int)) = true := decide_eq_true (by omega)
      clear h hc e1 e2 hb
      generalize b.length = m at *
      go_enter Try.func84, Try.ntmps84
      go_wp2_with fail
      refine H.out.mono ?_
      rintro e w1 ⟨rfl, rfl⟩
      go_wp2_with fail
      go_ret
      exact ⟨rfl, HM.out, Chg.refl _ _⟩
    · obtain ⟨ad, rfl⟩ : ∃ ad : Nat, a = ad := ⟨a.toNat, by omega⟩
      have hk : ad < l.length := by omega
      have e1 : wrE l (ad : Int) b.length = 0 := by unfold wrE; rw [if_pos hc, if_neg h64]
      have e2 : wr (Geo.shadow R B T S O ad) l ad b.length (strOf b) = kill (l.set ad (1, strOf b)) (Geo.shadow R B T S O ad) := by unfold wr; rw [if_pos e1]; rfl
      rw [e1, e2]
      obtain ⟨w2, hw2⟩ : ∃ w2, (((w.setCell ⟨X, ad * 2, none⟩ (.int .i64 1)).setCell ⟨X, ad * 2 + 1, none⟩ (.string (strOf b))).drew) = w2 := ⟨_, rfl⟩
      have HW := Lib.hid hw2
      have HM : Hid (RMd w2 M X c R B T S O (l.set ad (1, strOf b))) := Lib.hid (by subst hw2; exact (h.set ad (1, strOf b) (by show (strOf b).size ≤ 64; rw [strOf_size]; omega)).fw ((Below.refl _ _).drew))
      have CS : Hid (Chg (fun j => j = X) w w2) := Lib.hid (by subst hw2; exact (Md.setChg w X ad (.int .i64 1) (.string (strOf b))).trans (below_chg ((Below.refl _ _).drew) _))
      have VV := Lib.hid h.v
      have SI := Lib.hid (Geo.shadow_in h.v (ad : Int))
      have LL := Lib.hid h.len
      clear hw2
      have f0 := h.sx.frz (ad * 2)
      have f1 := h.sx.frz (ad * 2 + 1)
      have k0 := h.sx.c0 hk
      have k1 := h.sx.c1 hk
      have CV := Lib.hid (conv_bs (P := Try.prog) (w := w.drew) 60 5 9 Try.underlying60 Try.underlying5 Try.underlying9 hb)
      have d1 : decide ((64 : Int) < (b.length : Int)) = false := decide_eq_false (by omega)
      clear h hc e1 e2 hb
      generalize b.length = m at *
      go_enter Try.func84, Try.ntmps84
      go_wp2_with fail
      refine H.out.mono ?_
      rintro e w1 ⟨rfl, rfl⟩
      go_wp2_with fail
      refine wp_region_still_tail 8 (by kernel_rfl) (by kernel_rfl) ?_
      simp only [List.take_succ_cons, List.take_zero, List.drop_succ_cons, List.drop_zero]
      repeat still_step
      refine wpStill_step (fun K hK => ?_)
      go_simp
      rw [CV.out]
      go_simp
      refine hK _ ?_
      clear hK K
      repeat still_step
      refine wpStill_nil ?_
      change wpList _ _ _ _ _ w.drew
      obtain ⟨c0, c1, c2, c3, c4⟩ := HM.out.geo
      rw [← HW.out] at c0 c1 c2 c3 c4
      go_wp2_with fail
      rw [HW.out]
      refine (rshadow_new (R : Int) B T S O (ad : Int) w2).mono ?_
      rintro e w3 ⟨v, rfl, ⟨hs, hn⟩, hb⟩
      have M3 := Lib.hid (HM.out.fw hb)
      have C3 := Lib.hid (CS.out.trans (below_chg hb _))
      have L3 := Lib.hid (Geo.shadow_len VV.out (ad : Int))
      have WX := Lib.hid (show X < w2.heap.size from HM.out.sx.lt)
      obtain ⟨A1, a1, hv⟩ := is_form hs
      obtain ⟨sh, hsh⟩ : ∃ sh, Geo.shadow (R : Int) B T S O (ad : Int) = sh := ⟨_, rfl⟩
      obtain ⟨l2, hl2⟩ : ∃ l2, l.set ad (1, strOf b) = l2 := ⟨_, rfl⟩
      have L2 := Lib.hid (show l2.length = R + B * (T * S) by rw [← hl2, List.length_set]; exact LL.out)
      rw [hsh] at hs hv L3 SI ⊢
      rw [hl2] at M3 ⊢
      obtain ⟨n, hn2⟩ : ∃ n, sh.length = n := ⟨_, rfl⟩
      have EN := Lib.hid hn2
      rw [hn2] at hv L3
      subst hv
      have IS := Lib.hid hs
      have NB := Lib.hid (show ∀ b off, A1 = some ⟨b, off, none⟩ → b ≠ X by rintro b off rfl; have := hn b rfl; have := WX.out; omega)
      have QS := Lib.hid hsh
      have QL := Lib.hid hl2
      clear c0 c1 c2 c3 c4 hs hn hb hsh hl2 hn2 HM CS HW LL VV f0 f1 k0 k1 CV c5 hk sm H d1
      have n3 : n ≤ 3 := L3.out
      go_wp2_with fail
      go_loopw [8] (fun i wr => ∃ k : Nat, k ≤ n ∧ i = .int .i64 (k : Int) ∧ Hid (RMd wr M X c R B T S O (kill l2 (sh.take k)) ∧ Chg (fun j => j = X) w3 wr)) (fun i _ => n - (intOf i).toNat)
      case atStart => exact ⟨0, Nat.zero_le _, rfl, Lib.hid ⟨M3.out, Chg.refl _ _⟩⟩
      case round =>
        obtain ⟨k, hk, rfl, V⟩ := hrel
        have CW := Lib.hid (C3.out.trans V.out.2)
        by_cases hlt : k < n
        · have kI : (k : Int) < (n : Int) := by omega
          obtain ⟨gb, off, ha, hcell⟩ := is_nth IS.out hlt
          have hb := World.block_lt_of_cell? _ _ hcell
          have nx := NB.out gb off ha
          have hcell := (World.cell?_of_block (V.out.2.block gb hb nx)).trans hcell
          subst ha
          have SK := SI.out (sh.getD k 0) (by rw [getD_in (by rw [EN.out]; exact hlt)]; exact List.getElem_mem _)
          obtain ⟨j, hj⟩ : ∃ j : Nat, sh.getD k 0 = (j : Int) := ⟨(sh.getD k 0).toNat, by omega⟩
          rw [hj] at hcell SK
          have KT := Lib.hid (kill_take l2 sh (k := k) (by rw [EN.out]; exact hlt) kill kill_snoc)
          rw [hj] at KT
          have c5 := V.out.1.c5
          have le : (kill l2 (sh.take k)).length = l2.length := kill_len _ _
          rw [L2.out] at le
          have jl : j < (kill l2 (sh.take k)).length := by rw [le]; omega
          have sm := V.out.1.small
          have k0 := V.out.1.sx.c0 jl
          have k1 := V.out.1.sx.c1 jl
          have f0 := V.out.1.sx.frz (j * 2)
          have f1 := V.out.1.sx.frz (j * 2 + 1)
          obtain ⟨w5, hw5⟩ : ∃ w5, ((wr.setCell ⟨X, j * 2, none⟩ (.int .i64 2)).setCell ⟨X, j * 2 + 1, none⟩ (.string ⟨#[]⟩)).drew = w5 := ⟨_, rfl⟩
          have H5 := Lib.hid hw5
          have M5 : Hid (RMd w5 M X c R B T S O (kill l2 (sh.take (k + 1)))) := Lib.hid (by rw [KT.out]; subst hw5; exact (V.out.1.set j (2, ByteArray.empty) (Nat.zero_le _)).fw ((Below.refl _ _).drew))
          have C5 : Hid (Chg (fun j => j = X) w3 w5) := Lib.hid (by subst hw5; exact (V.out.2.trans (Md.setChg _ X j (.int .i64 2) (.string ByteArray.empty))).trans (below_chg ((Below.refl _ _).drew) _))
          generalize (kill l2 (sh.take k))[j].1 = x1 at *
          generalize (kill l2 (sh.take k))[j].2 = x2 at *
          generalize (kill l2 (sh.take k)).length = m at *
          clear hb hj hw5 KT le V CW SK
          go_wp2_with fail
          refine wp_region_still_tail 9 (by kernel_rfl) (by kernel_rfl) ?_
          simp only [List.take_succ_cons, List.take_zero, List.drop_succ_cons, List.drop_zero]
          repeat still_step
          refine wpStill_nil ?_
          change wpList _ _ _ _ _ wr.drew
          go_wp2_with fail
          rw [H5.out]
          go_roundw
          case rel => exact ⟨k + 1, by omega, by go_num, Lib.hid ⟨M5.out, C5.out⟩⟩
          case measure => simp [intOf]; omega
        · obtain rfl : k = n := by omega
          have kI : ¬ (k : Int) < (k : Int) := by omega
          have dk : decide ((k : Int) < (k : Int)) = false := decide_eq_false kI
          have ME : Hid (RMd wr M X c R B T S O (kill (l.set ad (1, strOf b)) (Geo.shadow (R : Int) B T S O (ad : Int)))) := Lib.hid (by rw [QS.out, QL.out]; have := V.out.1; rw [List.take_of_length_le (by rw [EN.out]; exact Nat.le_refl _)] at this; exact this)
          clear V
          go_wp2_with fail
          go_ret
          exact ⟨rfl, ME.out, CW.out⟩
  · have e1 : wrE l a b.length = 2 := by unfold wrE; rw [if_neg hc]
    have e2 : wr (Geo.shadow R B T S O a) l a b.length (strOf b) = l := by unfold wr; rw [if_neg (by rw [e1]; decide)]
    rw [e1, e2]
    rw [decide_eq_false hc] at H
    have HM := Lib.hid h
    clear h hc e1 e2 hb
    generalize b.length = m at *
    go_enter Try.func84, Try.ntmps84
    go_wp2_with fail
    refine H.out.mono ?_
    rintro e w1 ⟨rfl, rfl⟩
    go_wp2_with fail
    go_ret
    exact ⟨rfl, HM.out, Chg.refl _ _⟩
end Go.Proofs.Ytdjjihppaobbcaa
namespace Go.Proofs.Ytdjjihppaobbcaa
open Go Go.RowKit Med
set_option linter.unusedVariables false
set_option linter.unusedSimpArgs false
set_option maxHeartbeats 4000000 in
set_option maxRecDepth 100000 in
theorem per_any {w : World} {M X c R B T S O : Nat} {l : List Sec} (h : PMd w M X c R B T S O l) (x : Int) : Calls Try.prog 96 #[.pointer (some ⟨M, 0, none⟩), .int .i64 x] w (wrPost 112 135 M X c R B T S O (erE B x) (er R B T S l x) w) := by
  have HM := Lib.hid h
  have hg := Geo.gv_nat h.v
  have VV := Lib.hid h.v
  have LL := h.len
  obtain ⟨c0, c1, c2, c3, c4⟩ := h.geo
  have q2 := Geo.ts_le hg.2.2.2.2.1 hg.2.2.2.2.2.2.1
  have q1 := Geo.ts_pos hg.2.2.2.1 hg.2.2.2.2.2.1
  have AD := Lib.hid (paddr_any (R : Int) B T S O x 0 0 w)
  have BD := Lib.hid fun w => pband_any (R : Int) B T S O w
  rw [Geo.band_nat h.v] at BD
  by_cases hx : 0 ≤ x ∧ x < B
  · obtain ⟨x, rfl⟩ : ∃ n : Nat, x = n := ⟨x.toNat, by omega⟩
    unfold erE er
    rw [if_pos hx, if_pos hx, Int.toNat_natCast]
    have ea := Geo.addr_in h.v (x := x) (y := 0) (z := 0) (by omega) (by omega) (by omega)
    rw [show ((x * T + 0) * S + 0) = x * (T * S) by rw [Nat.add_zero, Nat.add_zero, Nat.mul_assoc]] at ea
    have ea' : Geo.addr R B T S O x 0 0 = (((R + x * (T * S) : Nat) : Int), 0) := ea
    rw [ea'] at AD
    clear ea ea'
    obtain ⟨q, hq⟩ : ∃ q, T * S = q := ⟨_, rfl⟩
    obtain ⟨f, hf⟩ : ∃ f, R + x * q = f := ⟨_, rfl⟩
    have QQ := Lib.hid hq
    have QF := Lib.hid hf
    rw [hq] at q1 q2 LL
    have xq := Nat.mul_le_mul_right q (show x + 1 ≤ B by omega)
    rw [Nat.add_mul, Nat.one_mul] at xq
    have FQ := Lib.hid (show f + q ≤ l.length by omega)
    have xb : x < 64 := by omega
    have fb : f ≤ 100000 := by have := h.small; omega
    rw [hq] at BD
    rw [hq, hf] at AD
    rw [hq, hf]
    clear h hq hf xq hg hx
    go_enter Try.func96, Try.ntmps96
    go_wp2_with fail
    refine AD.out.mono ?_
    rintro e w0 ⟨rfl, hb⟩
    have M0 := Lib.hid (HM.out.fw hb)
    replace c0 := ce_fw c0 hb
    replace c1 := ce_fw c1 hb
    replace c2 := ce_fw c2 hb
    replace c3 := ce_fw c3 hb
    replace c4 := ce_fw c4 hb
    have B0 := Lib.hid hb
    clear hb
    go_wp2_with fail
    refine (BD.out _).mono ?_
    rintro e w1 ⟨rfl, hb⟩
    have M1 := Lib.hid (M0.out.fw hb)
    have C1 := Lib.hid ((below_chg B0.out (fun j => j = X)).trans (below_chg hb _))
    clear hb c0 c1 c2 c3 c4 AD BD B0 M0 HM VV
    go_wp2_with fail
    go_loopw [7, 26] (fun x i wr => ∃ k : Nat, k ≤ q ∧ i = .int .i64 (k : Int) ∧ Hid (PMd wr M X c R B T S O (wipe l f k) ∧ Chg (fun j => j = X) w1 wr)) (fun x i _ => q - (intOf i).toNat)
    case atStart => exact ⟨0, Nat.zero_le _, rfl, Lib.hid ⟨M1.out, Chg.refl _ _⟩⟩
    case round =>
      obtain ⟨k, hk, rfl, V⟩ := hrel
      have CW := Lib.hid (C1.out.trans V.out.2)
      by_cases hlt : k < q
      · have kI : (k : Int) < (q : Int) := by omega
        obtain ⟨j, hj⟩ : ∃ j, f + k = j := ⟨_, rfl⟩
        have KT := Lib.hid (wipe_succ l f k)
        rw [hj] at KT
        have JF := Lib.hid (show (f : Int) + (k : Int) = (j : Int) by omega)
        have c5 := V.out.1.c5
        have c0 := V.out.1.geo.1
        have le : (wipe l f k).length = l.length := wipe_len _ _ _
        have jl : j < (wipe l f k).length := by rw [le]; have := FQ.out; omega
        have sm := V.out.1.small
        have k0 := V.out.1.sx.c0 jl
        have k1 := V.out.1.sx.c1 jl
        have f0 := V.out.1.sx.frz (j * 2)
        have f1 := V.out.1.sx.frz (j * 2 + 1)
        obtain ⟨w5, hw5⟩ : ∃ w5, ((wr.setCell ⟨X, j * 2, none⟩ (.int .i64 0)).setCell ⟨X, j * 2 + 1, none⟩ (.string ⟨#[]⟩)) = w5 := ⟨_, rfl⟩
        have H5 := Lib.hid hw5
        have M5 : Hid (PMd w5 M X c R B T S O (wipe l f (k + 1))) := Lib.hid (by rw [KT.out]; subst hw5; exact (V.out.1.set j Med.blank (Nat.zero_le _)))
        have C5 : Hid (Chg (fun j => j = X) w1 w5) := Lib.hid (by subst hw5; exact (V.out.2.trans (Md.setChg _ X j (.int .i64 0) (.string ByteArray.empty))).trans (Chg.refl _ _))
        generalize (wipe l f k)[j].1 = x1 at *
        generalize (wipe l f k)[j].2 = x2 at *
        generalize (wipe l f k).length = m at *
        clear hw5 KT le V CW
        go_wp2_with (first | rw [JF.out])
        rw [H5.out]
        go_roundw
        case rel => exact ⟨k + 1, by omega, by go_num, Lib.hid ⟨M5.out, C5.out⟩⟩
        case measure => simp [intOf]; omega
      · obtain rfl : k = q := by omega
        have kI : ¬ (k : Int) < (k : Int) := by omega
        have dk : decide ((k : Int) < (k : Int)) = false := decide_eq_false kI
        have ME := Lib.hid V.out.1
        clear V
        go_wp2_with fail
        go_ret
        exact ⟨rfl, ME.out, CW.out⟩
  · unfold erE er
    rw [if_neg hx, if_neg hx]
    rw [Geo.addr_out h.v (x := x) (y := 0) (z := 0) (fun h2 => hx ⟨h2.1, h2.2.1⟩)] at AD
    clear h hx hg
    go_enter Try.func96, Try.ntmps96
    go_wp2_with fail
    refine AD.out.mono ?_
    rintro e w0 ⟨rfl, hb⟩
    have M0 := Lib.hid (HM.out.fw hb)
    have C0 := Lib.hid (below_chg hb (fun j => j = X))
    clear hb
    go_wp2_with fail
    go_ret
    exact ⟨rfl, M0.out, C0.out⟩
set_option maxHeartbeats 4000000 in
set_option maxRecDepth 100000 in
theorem rer_any {w : World} {M X c R B T S O : Nat} {l : List Sec} (h : RMd w M X c R B T S O l) (x : Int) : Calls Try.prog 83 #[.pointer (some ⟨M, 0, none⟩), .int .i64 x] w (wrPost 129 126 M X c R B T S O (erE B x) (er R B T S l x) w) := by
  have HM := Lib.hid h
  have hg := Geo.gv_nat h.v
  have VV := Lib.hid h.v
  have LL := h.len
  obtain ⟨c0, c1, c2, c3, c4⟩ := h.geo
  have q2 := Geo.ts_le hg.2.2.2.2.1 hg.2.2.2.2.2.2.1
  have q1 := Geo.ts_pos hg.2.2.2.1 hg.2.2.2.2.2.1
  have BD := Lib.hid fun w => rband_any (R : Int) B T S O w
  rw [Geo.band_nat h.v] at BD
  by_cases h0 : 0 ≤ x
  · obtain ⟨x, rfl⟩ : ∃ n : Nat, x = n := ⟨x.toNat, by omega⟩
    by_cases h1 : x < B
    · have hx : 0 ≤ (x : Int) ∧ (x : Int) < B := ⟨by omega, by omega⟩
      unfold erE er
      rw [if_pos hx, if_pos hx, Int.toNat_natCast]
      obtain ⟨q, hq⟩ : ∃ q, T * S = q := ⟨_, rfl⟩
      obtain ⟨f, hf⟩ : ∃ f, R + x * q = f := ⟨_, rfl⟩
      have QQ := Lib.hid hq
      have QF := Lib.hid hf
      rw [hq] at q1 q2 LL
      have xq := Nat.mul_le_mul_right q (show x + 1 ≤ B by omega)
      rw [Nat.add_mul, Nat.one_mul] at xq
      have FQ := Lib.hid (show f + q ≤ l.length by omega)
      have xb : x < 64 := by omega
      have fb : f ≤ 100000 := by have := h.small; omega
      obtain ⟨p, hp⟩ : ∃ p, x * q = p := ⟨_, rfl⟩
      have PQ := Lib.hid (show (x : Int) * (q : Int) = (p : Int) by rw [← hp]; push_cast; rfl)
      have RP := Lib.hid (show (R : Int) + (p : Int) = (f : Int) by rw [← hf, ← hp]; push_cast; rfl)
      have pb : p ≤ 100000 ∧ R ≤ 100000 := by omega
      rw [hq] at BD
      rw [hq, hf]
      have dB : decide ((B : Int) ≤ (x : Int)) = false := decide_eq_false (by omega)
      have d0 : decide ((x : Int) < 0) = false := decide_eq_false (by omega)
      clear h hq hf xq hg hx hp
      go_enter Try.func83, Try.ntmps83
      go_wp2_with fail
      refine (BD.out _).mono ?_
      rintro e w1 ⟨rfl, hb⟩
      have M1 := Lib.hid (HM.out.fw hb)
      have C1 := Lib.hid (below_chg hb (fun j => j = X))
      clear hb c0 c1 c2 c3 c4 BD HM VV
      go_wp2_with fail
      go_loopw [6] (fun i wr => ∃ k : Nat, k ≤ q ∧ i = .int .i64 (k : Int) ∧ Hid (RMd wr M X c R B T S O (wipe l f k) ∧ Chg (fun j => j = X) w1 wr)) (fun i _ => q - (intOf i).toNat)
      case atStart => exact ⟨0, Nat.zero_le _, rfl, Lib.hid ⟨M1.out, Chg.refl _ _⟩⟩
      case round =>
        obtain ⟨k, hk, rfl, V⟩ := hrel
        have CW := Lib.hid (C1.out.trans V.out.2)
        by_cases hlt : k < q
        · have kI : (k : Int) < (q : Int) := by omega
          obtain ⟨j, hj⟩ : ∃ j, f + k = j := ⟨_, rfl⟩
          have KT := Lib.hid (wipe_succ l f k)
          rw [hj] at KT
          have JF := Lib.hid (show (f : Int) + (k : Int) = (j : Int) by omega)
          have c5 := V.out.1.c5
          have c0 := V.out.1.geo.1
          have le : (wipe l f k).length = l.length := wipe_len _ _ _
          have jl : j < (wipe l f k).length := by rw [le]; have := FQ.out; omega
          have sm := V.out.1.small
          have k0 := V.out.1.sx.c0 jl
          have k1 := V.out.1.sx.c1 jl
          have f0 := V.out.1.sx.frz (j * 2)
          have f1 := V.out.1.sx.frz (j * 2 + 1)
          obtain ⟨w5, hw5⟩ : ∃ w5, ((wr.setCell ⟨X, j * 2, none⟩ (.int .i64 0)).setCell ⟨X, j * 2 + 1, none⟩ (.string ⟨#[]⟩)).drew = w5 := ⟨_, rfl⟩
          have H5 := Lib.hid hw5
          have M5 : Hid (RMd w5 M X c R B T S O (wipe l f (k + 1))) := Lib.hid (by rw [KT.out]; subst hw5; exact (V.out.1.set j Med.blank (Nat.zero_le _)).fw ((Below.refl _ _).drew))
          have C5 : Hid (Chg (fun j => j = X) w1 w5) := Lib.hid (by subst hw5; exact (V.out.2.trans (Md.setChg _ X j (.int .i64 0) (.string ByteArray.empty))).trans (below_chg ((Below.refl _ _).drew) _))
          generalize (wipe l f k)[j].1 = x1 at *
          generalize (wipe l f k)[j].2 = x2 at *
          generalize (wipe l f k).length = m at *
          clear hw5 KT le V CW
          have pq : IntKind.i64.wrap ((x : Int) * (q : Int)) = (p : Int) := by rw [PQ.out, IntKind.wrap_i64]; omega
          have rp : IntKind.i64.wrap ((R : Int) + (p : Int)) = (f : Int) := by rw [RP.out, IntKind.wrap_i64]; omega
          have jf : IntKind.i64.wrap ((f : Int) + (k : Int)) = (j : Int) := by rw [JF.out, IntKind.wrap_i64]; omega
          go_wp2_with fail
          refine wp_region_still_tail 16 (by kernel_rfl) (by kernel_rfl) ?_
          simp only [List.take_succ_cons, List.take_zero, List.drop_succ_cons, List.drop_zero]
          repeat still_step
          refine wpStill_nil ?_
          change wpList _ _ _ _ _ wr.drew
          go_wp2_with fail
          rw [H5.out]
          go_roundw
          case rel => exact ⟨k + 1, by omega, by go_num, Lib.hid ⟨M5.out, C5.out⟩⟩
          case measure => simp [intOf]; omega
        · obtain rfl : k = q := by omega
          have kI : ¬ (k : Int) < (k : Int) := by omega
          have dk : decide ((k : Int) < (k : Int)) = false := decide_eq_false kI
          have ME := Lib.hid V.out.1
          clear V
          go_wp2_with fail
          go_ret
          exact ⟨rfl, ME.out, CW.out⟩
    · have hx : ¬ (0 ≤ (x : Int) ∧ (x : Int) < B) := by omega
      unfold erE er
      rw [if_neg hx, if_neg hx]
      have dB : decide ((B : Int) ≤ (x : Int)) = true := decide_eq_true (by omega)
      have d0 : decide ((x : Int) < 0) = false := decide_eq_false (by omega)
      clear h hx hg
      go_enter Try.func83, Try.ntmps83
      go_wp2_with fail
      go_ret
      exact ⟨rfl, HM.out, Chg.refl _ _⟩
  · have hx : ¬ (0 ≤ x ∧ x < B) := by omega
    unfold erE er
    rw [if_neg hx, if_neg hx]
    have d0 : decide (x < (0 : Int)) = true := decide_eq_true (by omega)
    clear h hx hg
    go_enter Try.func83, Try.ntmps83
    go_wp2_with fail
    go_ret
    exact ⟨rfl, HM.out, Chg.refl _ _⟩
end Go.Proofs.Ytdjjihppaobbcaa
