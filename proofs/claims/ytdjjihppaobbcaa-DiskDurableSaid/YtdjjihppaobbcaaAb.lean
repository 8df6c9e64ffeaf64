/- Layer 14: what the laws say of the acts. -/
import Derived.Test.YtdjjihppaobbcaaAa
namespace Go.Proofs.Ytdjjihppaobbcaa
namespace Dsk
open Med Flt
section
variable (fa : Nat → F) (R B T S O : Nat)
/-! ### An operation that does not begin -/
theorem act_stop {p : Pw} {d : Dk} {a : Act} (hk : a.kind < 4) (h : beE fa p d a.key ≠ 0) :
    actE fa R B T S O p d a = beE fa p d a.key ∧ actB fa R B T S O p d a = ByteArray.empty ∧ actD fa R B T S O p d a = beD fa p d a.key := by
  have hr : readE fa R B T S O p d a.key a.pos = beE fa p d a.key := by unfold readE; rw [if_pos h]
  have hw : writeE fa p d a.key a.pos a.bytes = beE fa p d a.key := by unfold writeE; rw [if_pos h]
  have he : eraseE fa B p d a.key a.pos = beE fa p d a.key := by unfold eraseE; rw [if_pos h]
  have hb : actB fa R B T S O p d a = ByteArray.empty := by
    unfold actB readB; rw [hr, if_neg h]; split <;> rfl
  refine ⟨?_, hb, ?_⟩
  · unfold actE
    by_cases k0 : a.kind = 0
    · rw [if_pos k0, hr]
    by_cases k1 : a.kind = 1
    · rw [if_neg k0, if_pos k1, hw]
    by_cases k2 : a.kind = 2
    · rw [if_neg k0, if_neg k1, if_pos k2, he]
    · rw [if_neg k0, if_neg k1, if_neg k2, if_pos (by omega)]
  · unfold actD
    by_cases k0 : a.kind = 0
    · rw [if_pos k0]; unfold readD; rw [hr, if_neg h]
    by_cases k1 : a.kind = 1
    · rw [if_neg k0, if_pos k1]; unfold writeD; rw [hw, if_pos h]
    by_cases k2 : a.kind = 2
    · rw [if_neg k0, if_neg k1, if_pos k2]; unfold eraseD; rw [he, if_neg h]
    · rw [if_neg k0, if_neg k1, if_neg k2, if_pos (by omega)]; unfold flushD; rw [if_neg h]
theorem beD_no {p : Pw} {d : Dk} {key : Nat} (h : ¬ cnt p d key) : beD fa p d key = d := by unfold beD; rw [if_neg h]
/-- A dead disk. -/
theorem act_dead {p : Pw} {d : Dk} {a : Act} (hk : a.kind < 4) (h : d.dead = true) :
    actE fa R B T S O p d a = 14 ∧ actB fa R B T S O p d a = ByteArray.empty ∧ actD fa R B T S O p d a = d ∧ actP p d a = p := by
  have hb : beE fa p d a.key = 14 := by unfold beE; rw [if_pos h]
  obtain ⟨x, y, z⟩ := act_stop fa R B T S O hk (by rw [hb]; decide)
  refine ⟨x.trans hb, y, z.trans (beD_no fa fun c => absurd (h.symm.trans c.1) (by decide)), ?_⟩
  unfold actP beP
  rw [if_pos hk, if_neg (fun c => by rw [h] at c; exact absurd c.1 (by decide))]
/-- A disk that is not ready. -/
theorem act_unready {p : Pw} {d : Dk} {a : Act} (hk : a.kind < 4) (h0 : d.dead = false) (h : ¬ rdy p d) :
    actE fa R B T S O p d a = 13 ∧ actB fa R B T S O p d a = ByteArray.empty ∧ actD fa R B T S O p d a = d ∧ actP p d a = p := by
  have hb : beE fa p d a.key = 13 := by unfold beE; rw [if_neg (by rw [h0]; decide), if_pos h]
  obtain ⟨x, y, z⟩ := act_stop fa R B T S O hk (by rw [hb]; decide)
  refine ⟨x.trans hb, y, z.trans (beD_no fa fun c => h c.2.1), ?_⟩
  unfold actP beP
  rw [if_pos hk, if_neg (fun c => h c.2)]
/-- The power fails. -/
theorem act_fail {p : Pw} {d : Dk} {a : Act} (hk : a.kind < 4) (h0 : d.dead = false) (h : rdy p d) (hp : p.armed = true) (hl : p.left = 0) :
    actE fa R B T S O p d a = 13 ∧ actB fa R B T S O p d a = ByteArray.empty ∧ actD fa R B T S O p d a = d ∧ actP p d a = ⟨true, false, 0, p.fails + 1⟩ := by
  have ho : p.ok = false := by unfold Pw.ok; rw [hp, hl]; decide
  have hb : beE fa p d a.key = 13 := by unfold beE; rw [if_neg (by rw [h0]; decide), if_neg (not_not_intro h), if_pos ho]
  obtain ⟨x, y, z⟩ := act_stop fa R B T S O hk (by rw [hb]; decide)
  refine ⟨x.trans hb, y, z.trans (beD_no fa fun c => absurd (ho.symm.trans c.2.2.1) (by decide)), ?_⟩
  unfold actP beP Pw.call
  rw [if_pos hk, if_pos ⟨h0, h⟩, if_pos hp, if_pos hl, hl]
/-- Another key. -/
theorem act_fenced {p : Pw} {d : Dk} {a : Act} (hk : a.kind < 4) (h0 : d.dead = false) (h : rdy p d) (hp : p.armed = false) (hq : a.key ≠ d.key) :
    actE fa R B T S O p d a = 17 ∧ actB fa R B T S O p d a = ByteArray.empty ∧ actD fa R B T S O p d a = d ∧ actP p d a = p := by
  have ho : p.ok = true := by unfold Pw.ok; rw [hp]; rfl
  have hb : beE fa p d a.key = 17 := by unfold beE; rw [if_neg (by rw [h0]; decide), if_neg (not_not_intro h), if_neg (by rw [ho]; decide), if_pos hq]
  obtain ⟨x, y, z⟩ := act_stop fa R B T S O hk (by rw [hb]; decide)
  refine ⟨x.trans hb, y, z.trans (beD_no fa fun c => hq c.2.2.2), ?_⟩
  unfold actP beP Pw.call
  rw [if_pos hk, if_pos ⟨h0, h⟩, if_neg (by rw [hp]; decide)]
/-! ### The power supply matters by what it lets pass only -/
theorem beE_eq {p q : Pw} {d : Dk} {key : Nat} (h : rdy p d ↔ rdy q d) (k : p.ok = q.ok) : beE fa p d key = beE fa q d key := by
  unfold beE; simp only [h, k]
theorem cnt_eq {p q : Pw} {d : Dk} {key : Nat} (h : rdy p d ↔ rdy q d) (k : p.ok = q.ok) : cnt p d key ↔ cnt q d key := by
  unfold cnt; rw [h, k]
theorem beF_eq {p q : Pw} {d : Dk} {key : Nat} (h : rdy p d ↔ rdy q d) (k : p.ok = q.ok) : beF fa p d key = beF fa q d key := by
  unfold beF; simp only [cnt_eq h k]
theorem beD_eq {p q : Pw} {d : Dk} {key : Nat} (h : rdy p d ↔ rdy q d) (k : p.ok = q.ok) : beD fa p d key = beD fa q d key := by
  unfold beD; simp only [cnt_eq h k]
theorem act_eq {p q : Pw} {d : Dk} {a : Act} (hk : a.kind < 4) (h : rdy p d ↔ rdy q d) (k : p.ok = q.ok) :
    actE fa R B T S O p d a = actE fa R B T S O q d a ∧ actB fa R B T S O p d a = actB fa R B T S O q d a ∧ actD fa R B T S O p d a = actD fa R B T S O q d a := by
  have e := fun key => beE_eq fa (key := key) h k
  have f := fun key => beF_eq fa (key := key) h k
  have g := fun key => beD_eq fa (key := key) h k
  have n4 : a.kind ≠ 4 := by omega
  have n6 : a.kind ≠ 6 := by omega
  refine ⟨?_, ?_, ?_⟩
  · unfold actE readE writeE eraseE rdA
    simp only [e, f, if_neg n4, if_neg n6]
  · unfold actB readB readE rdA
    simp only [e, f]
  · unfold actD readD writeD eraseD flushD readE writeE eraseE rdA wrA wrote wrA wrBs
    simp only [e, f, g, if_neg n4, if_neg n6]
/-! ### An operation that passes -/
theorem erE_or (B : Nat) (x : Int) : erE B x = 0 ∨ erE B x = 2 := by unfold erE; split <;> simp
/-- The error is that of the power only if it fails. -/
theorem act_on {p : Pw} {d : Dk} {a : Act} (hk : a.kind < 4) (h0 : d.dead = false) (h : rdy p d) (hp : p.ok = true) : actE fa R B T S O p d a ≠ 13 := by
  have hb : beE fa p d a.key ≠ 13 := by
    unfold beE
    rw [if_neg (by rw [h0]; decide), if_neg (not_not_intro h), if_neg (by rw [hp]; decide)]
    (repeat' split) <;> decide
  unfold actE
  split
  · unfold readE
    split
    · exact hb
    (repeat' split) <;> decide
  split
  · unfold writeE
    split
    · exact hb
    (repeat' split) <;> decide
  split
  · unfold eraseE
    split
    · exact hb
    rcases erE_or B a.pos with e | e <;> rw [e] <;> decide
  split
  · exact hb
  · omega
/-- What stays. -/
def Kept (d d' : Dk) : Prop := d'.key = d.key ∧ d'.seen = d.seen ∧ ((∀ n, (fa n).kind ≠ 7) → d'.dead = d.dead)
theorem beD_kept (p : Pw) (d : Dk) (key : Nat) : Kept fa d (beD fa p d key) := by
  unfold beD; split
  · rename_i h
    exact ⟨rfl, rfl, fun hf => by
      show decide _ = _
      rw [decide_eq_false (hf _), h.1]⟩
  · exact ⟨rfl, rfl, fun _ => rfl⟩
theorem act_kept (p : Pw) (d : Dk) (a : Act) (hk : a.kind < 4) : Kept fa d (actD fa R B T S O p d a) := by
  have nb := beD_kept fa p d a.key
  unfold actD
  split
  · unfold readD; split <;> exact nb
  split
  · unfold writeD; split
    · exact nb
    split
    · exact nb
    split <;> exact nb
  split
  · unfold eraseD; split <;> exact nb
  split
  · unfold flushD; split <;> exact nb
  · omega
theorem actP_pass {p : Pw} {d : Dk} {a : Act} (hk : a.kind < 4) (h0 : d.dead = false) (h : rdy p d) (hp : p.armed = true) (hl : p.left ≠ 0) : actP p d a = ⟨false, true, p.left - 1, p.fails⟩ := by
  unfold actP beP Pw.call
  rw [if_pos hk, if_pos ⟨h0, h⟩, if_pos hp, if_neg hl, h.1]
theorem actP_free {p : Pw} {d : Dk} {a : Act} (hk : a.kind < 4) (hp : p.armed = false) : actP p d a = p := by
  unfold actP beP Pw.call
  rw [if_pos hk]
  split
  · rw [if_neg (by rw [hp]; decide)]
  · rfl
/-! ### Reading without faults -/
theorem read_ok {p : Pw} {d : Dk} {a : Int} (h0 : d.dead = false) (h : rdy p d) (hp : p.armed = false) (hq : d.key = 0) (hf : ∀ n, fa n = ⟨0, 0, 0⟩) (ha : has d a) :
    readE fa R B T S O p d 0 a = rdE (cont R B T S O d) a ∧ readB fa R B T S O p d 0 a = rdB (cont R B T S O d) a ∧
    (readD fa R B T S O p d 0 a).l = d.l ∧ (readD fa R B T S O p d 0 a).ops = d.ops := by
  have ho : p.ok = true := by unfold Pw.ok; rw [hp]; rfl
  have hb : beE fa p d 0 = 0 := by
    unfold beE
    rw [if_neg (by rw [h0]; decide), if_neg (not_not_intro h), if_neg (by rw [ho]; decide), if_neg (by omega), hf]
    rfl
  have hF : beF fa p d 0 = ⟨0, 0, 0⟩ := by unfold beF; split; exact hf _; rfl
  have hA : rdA fa p d 0 a = a := by unfold rdA; rw [hF]; rfl
  have hc : rdE (cont R B T S O d) a = 0 ∨ rdE (cont R B T S O d) a = 15 := by
    unfold rdE
    rw [if_pos (by rw [cont_len]; exact ha)]
    split <;> simp
  have hE : readE fa R B T S O p d 0 a = rdE (cont R B T S O d) a := by
    unfold readE
    rw [if_neg (not_not_intro hb), if_neg (not_not_intro ha), hF, hA, if_neg (by decide)]
    rcases hc with e | e <;> rw [e] <;> rfl
  refine ⟨hE, ?_, ?_⟩
  · unfold readB
    rw [hE, hA]
    split
    · rfl
    · rename_i n; unfold rdB; rw [if_neg n]
  · have f := beD_flds fa p d 0
    unfold readD
    split <;> exact ⟨f.1, f.2.1⟩
end
end Dsk
end Go.Proofs.Ytdjjihppaobbcaa
