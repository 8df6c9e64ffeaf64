/- Layer 14: disks and their power supply: what the operations return and do. -/
import Derived.Test.YtdjjihppaobbcaaGT
import Derived.Test.YtdjjihppaobbcaaFa
namespace Go.Proofs.Ytdjjihppaobbcaa
namespace Dsk
open Med Flt
/-- A power supply: the calls that still pass, how often it has failed. -/
structure Pw where
  off : Bool
  armed : Bool
  left : Int
  fails : Nat
def Pw.new : Pw := ⟨false, false, 0, 0⟩
def Pw.arm (p : Pw) (n : Int) : Pw := if p.off = true then p else ⟨false, decide (0 ≤ n), n, p.fails⟩
def Pw.on (p : Pw) : Pw := ⟨false, p.armed, p.left, p.fails⟩
/-- Whether a call passes. -/
def Pw.ok (p : Pw) : Bool := !p.armed || decide (p.left ≠ 0)
def Pw.call (p : Pw) : Pw := if p.armed = true then (if p.left = 0 then ⟨true, false, p.left, p.fails + 1⟩ else ⟨p.off, true, p.left - 1, p.fails⟩) else p
/-- A disk: its sectors, the pending operations, the key, whether it is dead, the failures that it knows, the operations counted, the statistics. -/
structure Dk where
  l : List Sec
  ops : List Med.Op
  key : Nat
  dead : Bool
  seen : Nat
  count : Nat
  rs : Nat
  ws : Nat
  es : Nat
  fs : Nat
def Dk.new (l : List Sec) (p : Pw) : Dk := ⟨l, [], 0, false, p.fails, 0, 0, 0, 0, 0⟩
/-- An act. -/
structure Act where
  disk : Nat
  kind : Nat
  key : Nat
  pos : Int
  bytes : List Nat
  force : Bool
/-- A disk is ready. -/
def rdy (p : Pw) (d : Dk) : Prop := p.off = false ∧ d.seen = p.fails
instance (p : Pw) (d : Dk) : Decidable (rdy p d) := inferInstanceAs (Decidable (_ ∧ _))
/-- An operation is counted. -/
def cnt (p : Pw) (d : Dk) (key : Nat) : Prop := d.dead = false ∧ rdy p d ∧ p.ok = true ∧ key = d.key
instance (p : Pw) (d : Dk) (key : Nat) : Decidable (cnt p d key) := inferInstanceAs (Decidable (_ ∧ _ ∧ _ ∧ _))
section
variable (fa : Nat → F)
def beE (p : Pw) (d : Dk) (key : Nat) : Int :=
  if d.dead = true then 14 else if ¬ rdy p d then 13 else if p.ok = false then 13 else if key ≠ d.key then 17
  else if (fa d.count).kind = 7 then 14 else if (fa d.count).kind = 6 then 16 else 0
def beP (p : Pw) (d : Dk) : Pw := if d.dead = false ∧ rdy p d then p.call else p
def beF (p : Pw) (d : Dk) (key : Nat) : F := if cnt p d key then fa d.count else ⟨0, 0, 0⟩
def beD (p : Pw) (d : Dk) (key : Nat) : Dk := if cnt p d key then { d with count := d.count + 1, dead := decide ((fa d.count).kind = 7) } else d
theorem beE_cnt {p : Pw} {d : Dk} {key : Nat} (h : beE fa p d key = 0) : cnt p d key := by
  unfold beE at h
  unfold cnt
  by_cases a : d.dead = true
  · rw [if_pos a] at h; omega
  rw [if_neg a] at h
  by_cases b : ¬ rdy p d
  · rw [if_pos b] at h; omega
  rw [if_neg b] at h
  by_cases c : p.ok = false
  · rw [if_pos c] at h; omega
  rw [if_neg c] at h
  by_cases e : key ≠ d.key
  · rw [if_pos e] at h; omega
  exact ⟨by simpa using a, Decidable.not_not.1 b, by simpa using c, Decidable.not_not.1 e⟩
variable (R B T S O : Nat)
def cont (d : Dk) : List Sec := play R B T S O d.l d.ops
def has (d : Dk) (a : Int) : Prop := 0 ≤ a ∧ a < d.l.length
instance (d : Dk) (a : Int) : Decidable (has d a) := inferInstanceAs (Decidable (_ ∧ _))
def fl (d : Dk) : Dk := { d with l := cont R B T S O d, ops := [] }
/-! ### Read -/
/-- The sector that is read. -/
def rdA (p : Pw) (d : Dk) (key : Nat) (a : Int) : Int := if (beF fa p d key).kind = 5 then (beF fa p d key).to else a
def readE (p : Pw) (d : Dk) (key : Nat) (a : Int) : Int :=
  if beE fa p d key ≠ 0 then beE fa p d key else if ¬ has d a then 2 else if (beF fa p d key).kind = 4 then 15
  else if rdE (cont R B T S O d) (rdA fa p d key a) = 0 then 0 else 15
def readB (p : Pw) (d : Dk) (key : Nat) (a : Int) : ByteArray := if readE fa R B T S O p d key a = 0 then rdB (cont R B T S O d) (rdA fa p d key a) else ByteArray.empty
def readD (p : Pw) (d : Dk) (key : Nat) (a : Int) : Dk :=
  if readE fa R B T S O p d key a = 0 then { beD fa p d key with rs := d.rs + 1 } else beD fa p d key
/-! ### Write -/
def wrA (p : Pw) (d : Dk) (key : Nat) (a : Int) : Int := if (beF fa p d key).kind = 3 then (beF fa p d key).to else a
def wrBs (p : Pw) (d : Dk) (key : Nat) (b : List Nat) : List Nat := if (beF fa p d key).kind = 2 then b.take (b.length / 2) else b
def writeE (p : Pw) (d : Dk) (key : Nat) (a : Int) (b : List Nat) : Int :=
  if beE fa p d key ≠ 0 then beE fa p d key else if ¬ has d a then 2 else if 64 < b.length then 7 else 0
def wrote (p : Pw) (d : Dk) (key : Nat) (a : Int) (b : List Nat) : Dk := { beD fa p d key with ws := d.ws + 1, ops := d.ops ++ [⟨false, wrA fa p d key a, wrBs fa p d key b⟩] }
def writeD (p : Pw) (d : Dk) (key : Nat) (a : Int) (b : List Nat) (force : Bool) : Dk :=
  if writeE fa p d key a b ≠ 0 then beD fa p d key
  else if (beF fa p d key).kind = 1 ∨ ¬ has d (wrA fa p d key a) then { beD fa p d key with ws := d.ws + 1 }
  else if force = true then fl R B T S O (wrote fa p d key a b) else wrote fa p d key a b
/-! ### Erase, Flush -/
def eraseE (p : Pw) (d : Dk) (key : Nat) (x : Int) : Int := if beE fa p d key ≠ 0 then beE fa p d key else erE B x
def eraseD (p : Pw) (d : Dk) (key : Nat) (x : Int) : Dk :=
  if eraseE fa B p d key x = 0 then { beD fa p d key with es := d.es + 1, ops := d.ops ++ [⟨true, x, []⟩] } else beD fa p d key
def flushD (p : Pw) (d : Dk) (key : Nat) : Dk :=
  if beE fa p d key = 0 then { fl R B T S O (beD fa p d key) with fs := d.fs + 1 } else beD fa p d key
/-! ### Acquire, Kill, Restart -/
def acqE (p : Pw) (d : Dk) : Int := if d.dead = true then 14 else if ¬ rdy p d then 13 else 0
def acqD (p : Pw) (d : Dk) (key : Nat) : Dk := if acqE p d = 0 then { d with key := key } else d
def resE (p : Pw) (d : Dk) : Int := if d.dead = true then 14 else if p.off = false then 8 else 0
def resD (p : Pw) (d : Dk) (keep : Int) : Dk := if resE p d = 0 then { d with l := play R B T S O d.l (d.ops.take keep.toNat), ops := [], seen := p.fails } else d
/-! ### Acts -/
def actE (p : Pw) (d : Dk) (a : Act) : Int :=
  if a.kind = 0 then readE fa R B T S O p d a.key a.pos else if a.kind = 1 then writeE fa p d a.key a.pos a.bytes else if a.kind = 2 then eraseE fa B p d a.key a.pos
  else if a.kind = 3 then beE fa p d a.key else if a.kind = 4 then acqE p d else if a.kind = 6 then resE p d else 0
def actB (p : Pw) (d : Dk) (a : Act) : ByteArray := if a.kind = 0 then readB fa R B T S O p d a.key a.pos else ByteArray.empty
def actP (p : Pw) (d : Dk) (a : Act) : Pw :=
  if a.kind < 4 then beP p d else if a.kind = 7 then p.arm a.pos else if a.kind = 8 then p.on else p
def actD (p : Pw) (d : Dk) (a : Act) : Dk :=
  if a.kind = 0 then readD fa R B T S O p d a.key a.pos else if a.kind = 1 then writeD fa R B T S O p d a.key a.pos a.bytes a.force else if a.kind = 2 then eraseD fa B p d a.key a.pos
  else if a.kind = 3 then flushD fa R B T S O p d a.key else if a.kind = 4 then acqD p d a.key else if a.kind = 5 then { d with dead := true } else if a.kind = 6 then resD R B T S O p d a.pos else d
/-! ### Lengths and bounds -/
theorem cont_len (d : Dk) : (cont R B T S O d).length = d.l.length := play_len _ _ _ _ _ _ _
/-- What an operation leaves within its bounds. -/
def Near (d d' : Dk) : Prop := d'.l.length = d.l.length ∧ d'.ops.length ≤ d.ops.length + 1 ∧ d'.count ≤ d.count + 1 ∧ d'.rs ≤ d.rs + 1 ∧ d'.ws ≤ d.ws + 1 ∧ d'.es ≤ d.es + 1 ∧ d'.fs ≤ d.fs + 1
theorem near_self (d : Dk) : Near d d := ⟨rfl, by omega, by omega, by omega, by omega, by omega, by omega⟩
theorem beD_flds (p : Pw) (d : Dk) (key : Nat) : (beD fa p d key).l = d.l ∧ (beD fa p d key).ops = d.ops ∧ (beD fa p d key).key = d.key ∧ (beD fa p d key).seen = d.seen ∧ (beD fa p d key).count ≤ d.count + 1 ∧ (beD fa p d key).rs = d.rs ∧ (beD fa p d key).ws = d.ws ∧ (beD fa p d key).es = d.es ∧ (beD fa p d key).fs = d.fs := by
  unfold beD; split
  · exact ⟨rfl, rfl, rfl, rfl, Nat.le_refl _, rfl, rfl, rfl, rfl⟩
  · exact ⟨rfl, rfl, rfl, rfl, by omega, rfl, rfl, rfl, rfl⟩
theorem beD_near (p : Pw) (d : Dk) (key : Nat) : Near d (beD fa p d key) := by
  obtain ⟨a, b, _, _, c, e, f, g, h⟩ := beD_flds fa p d key
  exact ⟨by rw [a], by rw [b]; omega, c, by omega, by omega, by omega, by omega⟩
theorem fl_near {d x : Dk} (h : Near d x) : Near d (fl R B T S O x) :=
  ⟨(cont_len R B T S O x).trans h.1, Nat.zero_le _, h.2.2⟩
theorem actD_near (p : Pw) (d : Dk) (a : Act) : Near d (actD fa R B T S O p d a) := by
  obtain ⟨fL, fO, _, _, fC, fR, fW, fE, fF⟩ := beD_flds fa p d a.key
  have nb := beD_near fa p d a.key
  have nw : Near d (wrote fa p d a.key a.pos a.bytes) := ⟨by simp [wrote, fL], by simp [wrote], by simpa [wrote] using fC, by simp [wrote, fR], by simp [wrote], by simp [wrote, fE], by simp [wrote, fF]⟩
  unfold actD
  split
  · unfold readD; split
    · exact ⟨nb.1, nb.2.1, nb.2.2.1, Nat.le_refl _, nb.2.2.2.2⟩
    · exact nb
  split
  · unfold writeD; split
    · exact nb
    split
    · exact ⟨nb.1, nb.2.1, nb.2.2.1, nb.2.2.2.1, Nat.le_refl _, nb.2.2.2.2.2⟩
    split
    · exact fl_near R B T S O nw
    · exact nw
  split
  · unfold eraseD; split
    · exact ⟨nb.1, by simp, nb.2.2.1, nb.2.2.2.1, nb.2.2.2.2.1, Nat.le_refl _, nb.2.2.2.2.2.2⟩
    · exact nb
  split
  · unfold flushD; split
    · have := fl_near R B T S O nb
      exact ⟨this.1, this.2.1, this.2.2.1, this.2.2.2.1, this.2.2.2.2.1, this.2.2.2.2.2.1, Nat.le_refl _⟩
    · exact nb
  split
  · unfold acqD; split
    · exact ⟨rfl, by show d.ops.length ≤ _; omega, by show d.count ≤ _; omega, by show d.rs ≤ _; omega, by show d.ws ≤ _; omega, by show d.es ≤ _; omega, by show d.fs ≤ _; omega⟩
    · exact near_self d
  split
  · exact ⟨rfl, by show d.ops.length ≤ _; omega, by show d.count ≤ _; omega, by show d.rs ≤ _; omega, by show d.ws ≤ _; omega, by show d.es ≤ _; omega, by show d.fs ≤ _; omega⟩
  split
  · unfold resD; split
    · exact ⟨play_len _ _ _ _ _ _ _, Nat.zero_le _, by show d.count ≤ _; omega, by show d.rs ≤ _; omega, by show d.ws ≤ _; omega, by show d.es ≤ _; omega, by show d.fs ≤ _; omega⟩
    · exact near_self d
  · exact near_self d
end
end Dsk
end Go.Proofs.Ytdjjihppaobbcaa
