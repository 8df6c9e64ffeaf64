/- Joined: Dqd Dqe. -/
import Derived.Test.YtdjjihppaobbcaaGreatHC
namespace Go.Proofs.YtdjjihppaobbcaaGreat
open Go Go.RowKit Med Flt
set_option linter.unusedVariables false
set_option linter.unusedSimpArgs false
/-- The first or the second. -/
def sel {α : Type} (i : Nat) (x y : α) : α := if i = 0 then x else y
/-- What an act on one of two disks leaves: P is what holds of the disks and their power supply. -/
def actAt (Q : World → Dsk.Pw → Dsk.Dk → Dsk.Dk → Prop) (N R Bn T S O : Nat) (ty : List TypeId) (L0 L1 : List F) (p : Dsk.Pw) (d0 d1 : Dsk.Dk) (a : Dsk.Act) (w : World) (e : Ending) (w' : World) : Prop :=
  e = .returned (.tuple #[.string (Dsk.actB (faL (sel a.disk L0 L1)) R Bn T S O p (sel a.disk d0 d1) a), .int .i64 (Dsk.actE (faL (sel a.disk L0 L1)) R Bn T S O p (sel a.disk d0 d1) a)]) ∧
  Q w' (Dsk.actP p (sel a.disk d0 d1) a) (if a.disk = 0 then Dsk.actD (faL L0) R Bn T S O p d0 a else d0) (if a.disk = 0 then d1 else Dsk.actD (faL L1) R Bn T S O p d1 a) ∧ Tch (N : Zn) ty w w'
theorem Tch.belowN {N : Nat} {L : List TypeId} {w w' : World} (h : Tch (N : Zn) L w w') (hN : N ≤ w.heap.size) : Below N w w' := Tch.below h hN
theorem do_at {N : Nat} {w : World} {P D0 D1 R Bn T S O : Nat} {L0 L1 : List F} {p : Dsk.Pw} {d0 d1 : Dsk.Dk} (h : PSt N w P D0 D1 R Bn T S O L0 L1 p d0 d1) (hN : N ≤ w.heap.size) {m : Nat} (hf : p.fit m) (hm : m < 1000) (h0 : Dsk.Few d0 m) (h1 : Dsk.Few d1 m)
    (a : Ac) (hk : a.disk < 256) (hb : a.bytes.length ≤ 1000) (hv : ∀ c, Below N w c → Bs c a.u a.bytes) :
    Calls Tryz.prog 9 #[.agg #[ptrN P, ptrN D0, ptrN D1], .agg (acs a).toArray] w (actAt (fun w' p' d0' d1' => PSt N w' P D0 D1 R Bn T S O L0 L1 p' d0' d1') N R Bn T S O tyD L0 L1 p d0 d1 a.act w) := by
  rcases Nat.mod_two_eq_zero_or_one a.disk with e | e
  · have ed : a.act.disk = 0 := e
    obtain ⟨B, hB, hT, hP, hd, hq⟩ := h.open0 hN
    refine (do14_any hd h.pw hP hT hf hm h0 a (D0 := D0) (D1 := D1) (by rw [if_pos e]) hk (fun c hc => hv c (Tch.below_ hc hN hB)) hb).mono ?_
    rintro e w' ⟨rfl, hd', hp', ht⟩
    unfold actAt sel
    rw [if_pos ed, if_pos ed, if_pos ed, if_pos ed]
    exact ⟨rfl, hq w' _ _ hd' hp' ht, ht.mono hB fun _ h => h⟩
  · have ed : ¬ a.act.disk = 0 := by show ¬ a.disk % 2 = 0; omega
    obtain ⟨B, hB, hT, hP, hd, hq⟩ := h.swap.open0 hN
    refine (do14_any hd h.pw hP hT hf hm h1 a (D0 := D0) (D1 := D1) (by rw [if_neg (by omega)]) hk (fun c hc => hv c (Tch.below_ hc hN hB)) hb).mono ?_
    rintro e w' ⟨rfl, hd', hp', ht⟩
    unfold actAt sel
    rw [if_neg ed, if_neg ed, if_neg ed, if_neg ed]
    exact ⟨rfl, (hq w' _ _ hd' hp' ht).swap, ht.mono hB fun _ h => h⟩
theorem want_at {N : Nat} {w : World} {P D0 D1 R Bn T S O : Nat} {L0 L1 : List F} {p : Dsk.Pw} {d0 d1 : Dsk.Dk} (h : RSt N w P D0 D1 R Bn T S O L0 L1 p d0 d1) (hN : N ≤ w.heap.size) {m : Nat} (hf : p.fit m) (hm : m < 1000) (h0 : Dsk.Few d0 m) (h1 : Dsk.Few d1 m)
    (a : Ac) (hk : a.disk < 256) (hb : a.bytes.length ≤ 1000) (hv : ∀ c, Below N w c → Bs c a.u a.bytes) (q : Option Addr) (hq : 7 ≤ a.kind → q = some ⟨P, 0, none⟩) :
    Calls Tryz.prog 10 #[.pointer q, .agg #[ptrN D0, ptrN D1], .agg (acs a).toArray] w (actAt (fun w' p' d0' d1' => RSt N w' P D0 D1 R Bn T S O L0 L1 p' d0' d1') N R Bn T S O tyQ L0 L1 p d0 d1 a.act w) := by
  rcases Nat.mod_two_eq_zero_or_one a.disk with e | e
  · have ed : a.act.disk = 0 := e
    obtain ⟨B, hB, hT, hP, hd, hq2⟩ := h.open0 hN
    refine (want14_any hd h.pw hP hT hf hm h0 a (D0 := D0) (D1 := D1) (by rw [if_pos e]) hk (fun c hc => hv c (Tch.below_ hc hN hB)) hb q hq).mono ?_
    rintro e w' ⟨rfl, hd', hp', ht⟩
    unfold actAt sel
    rw [if_pos ed, if_pos ed, if_pos ed, if_pos ed]
    exact ⟨rfl, hq2 w' _ _ hd' hp' ht, ht.mono hB fun _ h => h⟩
  · have ed : ¬ a.act.disk = 0 := by show ¬ a.disk % 2 = 0; omega
    obtain ⟨B, hB, hT, hP, hd, hq2⟩ := h.swap.open0 hN
    refine (want14_any hd h.pw hP hT hf hm h1 a (D0 := D0) (D1 := D1) (by rw [if_neg (by omega)]) hk (fun c hc => hv c (Tch.below_ hc hN hB)) hb q hq).mono ?_
    rintro e w' ⟨rfl, hd', hp', ht⟩
    unfold actAt sel
    rw [if_neg ed, if_neg ed, if_neg ed, if_neg ed]
    exact ⟨rfl, (hq2 w' _ _ hd' hp' ht).swap, ht.mono hB fun _ h => h⟩
/-- An act on the first disk whose effect is known. -/
theorem do_at0 {N : Nat} {w : World} {P D0 D1 R Bn T S O : Nat} {L0 L1 : List F} {p : Dsk.Pw} {d0 d1 : Dsk.Dk} (h : PSt N w P D0 D1 R Bn T S O L0 L1 p d0 d1) (hN : N ≤ w.heap.size) {m : Nat} (hf : p.fit m) (hm : m < 1000) (h0 : Dsk.Few d0 m) (h1 : Dsk.Few d1 m)
    (a : Ac) (ha : a.disk = 0) (hb : a.bytes.length ≤ 1000) (hv : ∀ c, Below N w c → Bs c a.u a.bytes) {E : Int} {s : ByteArray} {p' : Dsk.Pw} {d' : Dsk.Dk}
    (hE : Dsk.actE (faL L0) R Bn T S O p d0 a.act = E ∧ Dsk.actB (faL L0) R Bn T S O p d0 a.act = s ∧ Dsk.actD (faL L0) R Bn T S O p d0 a.act = d' ∧ Dsk.actP p d0 a.act = p') :
    Calls Tryz.prog 9 #[.agg #[ptrN P, ptrN D0, ptrN D1], .agg (acs a).toArray] w (fun e w' => e = .returned (.tuple #[.string s, .int .i64 E]) ∧ PSt N w' P D0 D1 R Bn T S O L0 L1 p' d' d1 ∧ Tch (N : Zn) tyD w w') := by
  have ed : a.act.disk = 0 := by show a.disk % 2 = 0; rw [ha]
  refine (do_at h hN hf hm h0 h1 a (by rw [ha]; decide) hb hv).mono ?_
  rintro e w' hq
  unfold actAt sel at hq
  rw [if_pos ed, if_pos ed, if_pos ed, if_pos ed, hE.1, hE.2.1, hE.2.2.1, hE.2.2.2] at hq
  exact hq
theorem want_at0 {N : Nat} {w : World} {P D0 D1 R Bn T S O : Nat} {L0 L1 : List F} {p : Dsk.Pw} {d0 d1 : Dsk.Dk} (h : RSt N w P D0 D1 R Bn T S O L0 L1 p d0 d1) (hN : N ≤ w.heap.size) {m : Nat} (hf : p.fit m) (hm : m < 1000) (h0 : Dsk.Few d0 m) (h1 : Dsk.Few d1 m)
    (a : Ac) (ha : a.disk = 0) (hk : a.kind < 7) (hb : a.bytes.length ≤ 1000) (hv : ∀ c, Below N w c → Bs c a.u a.bytes) (q : Option Addr) {E : Int} {s : ByteArray} {p' : Dsk.Pw} {d' : Dsk.Dk}
    (hE : Dsk.actE (faL L0) R Bn T S O p d0 a.act = E ∧ Dsk.actB (faL L0) R Bn T S O p d0 a.act = s ∧ Dsk.actD (faL L0) R Bn T S O p d0 a.act = d' ∧ Dsk.actP p d0 a.act = p') :
    Calls Tryz.prog 10 #[.pointer q, .agg #[ptrN D0, ptrN D1], .agg (acs a).toArray] w (fun e w' => e = .returned (.tuple #[.string s, .int .i64 E]) ∧ RSt N w' P D0 D1 R Bn T S O L0 L1 p' d' d1 ∧ Tch (N : Zn) tyQ w w') := by
  have ed : a.act.disk = 0 := by show a.disk % 2 = 0; rw [ha]
  refine (want_at h hN hf hm h0 h1 a (by rw [ha]; decide) hb hv q (fun h => by omega)).mono ?_
  rintro e w' hq
  unfold actAt sel at hq
  rw [if_pos ed, if_pos ed, if_pos ed, if_pos ed, hE.1, hE.2.1, hE.2.2.1, hE.2.2.2] at hq
  exact hq
theorem PSt.size {N : Nat} {w : World} {P D0 D1 R Bn T S O : Nat} {L0 L1 : List F} {p : Dsk.Pw} {d0 d1 : Dsk.Dk} (h : PSt N w P D0 D1 R Bn T S O L0 L1 p d0 d1) : N ≤ w.heap.size := Nat.le_of_lt (Nat.lt_of_le_of_lt h.pl h.pw.ty.lt)
theorem RSt.size {N : Nat} {w : World} {P D0 D1 R Bn T S O : Nat} {L0 L1 : List F} {p : Dsk.Pw} {d0 d1 : Dsk.Dk} (h : RSt N w P D0 D1 R Bn T S O L0 L1 p d0 d1) : N ≤ w.heap.size := Nat.le_of_lt (Nat.lt_of_le_of_lt h.pl h.pw.ty.lt)
theorem PSt.fst {N : Nat} {w : World} {P D0 D1 R Bn T S O : Nat} {L0 L1 : List F} {p : Dsk.Pw} {d0 d1 : Dsk.Dk} (h : PSt N w P D0 D1 R Bn T S O L0 L1 p d0 d1) : ∃ A, PDk A w D0 P R Bn T S O L0 d0 := by obtain ⟨_, _, A0, A1, h0, _⟩ := h; exact ⟨A0, h0⟩
theorem RSt.fst {N : Nat} {w : World} {P D0 D1 R Bn T S O : Nat} {L0 L1 : List F} {p : Dsk.Pw} {d0 d1 : Dsk.Dk} (h : RSt N w P D0 D1 R Bn T S O L0 L1 p d0 d1) : ∃ A, RDk A w D0 P R Bn T S O L0 d0 := by obtain ⟨_, _, A0, A1, h0, _⟩ := h; exact ⟨A0, h0⟩
/-- The power supply has done something. -/
theorem PSt.pow {N : Nat} {w w' : World} {P D0 D1 R Bn T S O : Nat} {L0 L1 : List F} {p p' : Dsk.Pw} {d0 d1 : Dsk.Dk} (h : PSt N w P D0 D1 R Bn T S O L0 L1 p d0 d1) (hp : PPw w' P p') (hc : Chg (fun j => j = P) w w') : PSt N w' P D0 D1 R Bn T S O L0 L1 p' d0 d1 ∧ Tch (N : Zn) tyD w w' := by
  obtain ⟨a, b, A0, A1, h0, h1, h2, h3⟩ := h
  have t : Tch ⟨fun k => k = P⟩ tyD w w' := Tch.of_one hc rfl a.ty (by decide)
  have hs := Tch.size t
  exact ⟨⟨hp, b, A0, A1, h0.frame t fun k hk hB => (h2 k hk).2.2.1 hB, h1.frame t fun k hk hB => (h3 k hk).2.2 hB, fun k hk => ⟨(h2 k hk).1, by have := (h2 k hk).2.1; omega, (h2 k hk).2.2⟩, fun k hk => ⟨(h3 k hk).1, by have := (h3 k hk).2.1; omega, (h3 k hk).2.2⟩⟩,
    t.mono (fun k hk => by rw [show k = P from hk]; exact b) fun _ h => h⟩
/-- What an operation leaves of two disks. -/
theorem PSt.call0 {N : Nat} {w : World} {P D0 D1 R Bn T S O : Nat} {L0 L1 : List F} {p p' : Dsk.Pw} {d0 d1 d' : Dsk.Dk} {E : Int} {F : FuncId} {args : Array Value} (h : PSt N w P D0 D1 R Bn T S O L0 L1 p d0 d1)
    (hc : ∀ B : Zn, B.top w → B.fr P → PDk B w D0 P R Bn T S O L0 d0 → PPw w P p → Calls Tryz.prog F args w (pdPost B D0 P R Bn T S O L0 E p' d' w)) :
    Calls Tryz.prog F args w (fun e w' => e = .returned (.int .i64 E) ∧ PSt N w' P D0 D1 R Bn T S O L0 L1 p' d' d1 ∧ Tch (N : Zn) tyD w w') := by
  obtain ⟨B, hB, hT, hP, hd, hq⟩ := h.open0 h.size
  refine (hc B hT hP hd h.pw).mono ?_
  rintro e w' ⟨rfl, hd', hp', ht⟩
  exact ⟨rfl, hq _ _ _ hd' hp' ht, ht.mono hB fun _ h => h⟩
theorem PSt.call1 {N : Nat} {w : World} {P D0 D1 R Bn T S O : Nat} {L0 L1 : List F} {p p' : Dsk.Pw} {d0 d1 d' : Dsk.Dk} {E : Int} {F : FuncId} {args : Array Value} (h : PSt N w P D0 D1 R Bn T S O L0 L1 p d0 d1)
    (hc : ∀ B : Zn, B.top w → B.fr P → PDk B w D1 P R Bn T S O L1 d1 → PPw w P p → Calls Tryz.prog F args w (pdPost B D1 P R Bn T S O L1 E p' d' w)) :
    Calls Tryz.prog F args w (fun e w' => e = .returned (.int .i64 E) ∧ PSt N w' P D0 D1 R Bn T S O L0 L1 p' d0 d' ∧ Tch (N : Zn) tyD w w') :=
  (h.swap.call0 hc).mono fun _ _ ⟨a, b, c⟩ => ⟨a, b.swap, c⟩
/-- What a disk without operations shows. -/
theorem none_shows {B : Zn} {c : World} {D P R Bn T S O : Nat} {L : List F} {d : Dsk.Dk} (h : PDk B c D P R Bn T S O L d) (e : d.count = 0 ∧ d.ops = [] ∧ d.rs = 0 ∧ d.ws = 0 ∧ d.es = 0 ∧ d.fs = 0) :
    Calls Tryz.prog 41 #[.pointer (some ⟨D, 0, none⟩)] c (qPost (.int .i64 0) c) ∧ Calls Tryz.prog 42 #[.pointer (some ⟨D, 0, none⟩)] c (qPost (.int .i64 0) c) ∧ Calls Tryz.prog 40 #[.pointer (some ⟨D, 0, none⟩)] c (gPost (.agg #[.int .i64 0, .int .i64 0, .int .i64 0, .int .i64 0]) c) := by
  obtain ⟨e1, e2, e3, e4, e5, e6⟩ := e
  have h1 := pops_any (p := Dsk.Pw.new) h
  have h2 := ppend_any (p := Dsk.Pw.new) h
  have h3 := pstats_any (p := Dsk.Pw.new) h
  rw [e1] at h1
  rw [e2] at h2
  rw [e3, e4, e5, e6] at h3
  exact ⟨h1, h2, h3⟩
/-- The numbers behind an act. -/
theorem few_act0 {d : Dsk.Dk} {n R Bn T S O : Nat} {L : List F} {p : Dsk.Pw} {a : Dsk.Act} (h : Dsk.Few d n) : Dsk.Few (if a.disk = 0 then Dsk.actD (faL L) R Bn T S O p d a else d) (n + 1) := by
  split
  · exact h.near (Dsk.actD_near _ _ _ _ _ _ _ _ _)
  · exact h.mono (by omega)
theorem few_act1 {d : Dsk.Dk} {n R Bn T S O : Nat} {L : List F} {p : Dsk.Pw} {a : Dsk.Act} (h : Dsk.Few d n) : Dsk.Few (if a.disk = 0 then d else Dsk.actD (faL L) R Bn T S O p d a) (n + 1) := by
  split
  · exact h.mono (by omega)
  · exact h.near (Dsk.actD_near _ _ _ _ _ _ _ _ _)
theorem few_new (l : List Sec) (p : Dsk.Pw) (n : Nat) : Dsk.Few (Dsk.Dk.new l p) n := ⟨Nat.zero_le _, Nat.zero_le _, Nat.zero_le _, Nat.zero_le _, Nat.zero_le _, Nat.zero_le _⟩
theorem fit_new : Dsk.Pw.new.fit 0 := ⟨Nat.le_refl _, by decide, fun h => by cases h⟩
end Go.Proofs.YtdjjihppaobbcaaGreat
namespace Go.Proofs.YtdjjihppaobbcaaGreat
open Go Go.RowKit Med Flt
set_option linter.unusedVariables false
set_option linter.unusedSimpArgs false
/-- What is known of acts that 'only' leaves: their bytes are read from the world W. -/
def OkM (W : World) (M : List Ac) : Prop := ∀ a ∈ M, a.disk < 256 ∧ a.kind ≤ 3 ∧ a.key = 0 ∧ a.bytes.length ≤ 100 ∧ Bs W a.u a.bytes
theorem OkM.of_only {W : World} {L : List Ac} (h : ∀ a ∈ L, AcOk W a) (hb : ∀ k (h : k < L.length), L[k].bytes.length ≤ 100) : OkM W (Ac.only L) := by
  intro a ha
  obtain ⟨b, hb1, rfl, hk⟩ := Ac.only_mem ha
  obtain ⟨i, hi, rfl⟩ := List.getElem_of_mem hb1
  have := h _ hb1
  exact ⟨this.1, hk, rfl, hb i hi, this.2.2.2.2⟩
theorem OkM.set0 {W : World} {M : List Ac} (h : OkM W M) {i : Nat} (hi : i < M.length) : OkM W (M.set i { M[i] with disk := 0 }) := by
  intro a ha
  rcases List.mem_or_eq_of_mem_set ha with h1 | rfl
  · exact h a h1
  · have := h _ (List.getElem_mem hi)
    exact ⟨(show (0 : Nat) < 256 by decide), this.2⟩
theorem Tch.ow {B : Zn} {Ls : List TypeId} {N : Nat} {w w' : World} {v : Value} {L : List Ac} (h : OwA N w v L) (hc : Tch B Ls w w') (hL : 49 ∉ Ls) : OwA N w' v L := by
  refine ⟨h.1, ?_⟩
  rcases h.2 with h1 | ⟨g, cap, cur, h1, h2, h3, h4⟩
  · exact Or.inl h1
  · exact Or.inr ⟨g, cap, cur, h1, h2, (hc.block (t := 49) ⟨_, _, h3⟩ hL).trans h3, h4⟩
theorem ow_own {N : Nat} {w : World} {g n cap : Nat} {L : List Ac} (h : OwA N w (.slice (some ⟨g, 0, none⟩) n cap) L) : N ≤ g ∧ Ty w g 49 := by
  rcases h.2 with ⟨e, _⟩ | ⟨g', cap', cur, e, h2, h3, _⟩
  · cases e
  · injection e with e1
    injection e1 with e1
    injection e1 with e1
    subst e1
    exact ⟨h2, _, _, h3⟩
theorem ow_frz {N : Nat} {w : World} {g n cap : Nat} {L : List Ac} (h : OwA N w (.slice (some ⟨g, 0, none⟩) n cap) L) (i : Nat) : w.frozen? ⟨g, i, none⟩ = false := by
  rcases h.2 with ⟨e, _⟩ | ⟨g', cap', cur, e, h2, h3, _⟩
  · cases e
  · injection e with e1
    injection e1 with e1
    injection e1 with e1
    subst e1
    exact Row.frozen (t := 49) (cs := cur) h3 i
theorem ow_rng {N : Nat} {w : World} {g n cap : Nat} {L : List Ac} (h : OwA N w (.slice (some ⟨g, 0, none⟩) n cap) L) {k : Nat} (hk : k < n) (hk2 : k < L.length) : w.rangeAt g (k * 6) (acs L[k]) := by
  obtain ⟨b, off, h2, e, hr⟩ := (h.rd acs_enc).nth hk
  injection e with e
  injection e with e1 e2
  subst e1 e2
  rw [Nat.zero_add] at hr
  exact hr
theorem ow_some {N : Nat} {w : World} {v : Value} {L : List Ac} (h : OwA N w v L) {k : Nat} (hk : k < L.length) : ∃ g cap, v = .slice (some ⟨g, 0, none⟩) L.length cap := by
  rcases h.2 with ⟨_, e⟩ | ⟨g', cap', cur, e, h2, h3, _⟩
  · omega
  · exact ⟨g', cap', e⟩
end Go.Proofs.YtdjjihppaobbcaaGreat
