/- Joined: Dqd Dqe. -/
import Derived.Test.YtdjjihppaobbcaaHC
namespace Go.Proofs.Ytdjjihppaobbcaa
open Go Go.RowKit Med Flt
set_option linter.unusedVariables false
set_option linter.unusedSimpArgs false
/-- The first or the second. -/
def sel {α : Type} (i : Nat) (x y : α) : α := if i = 0 then x else y
/-- What an act on one of two disks leaves: P is what holds of the disks and their power supply. -/
def actAt (Q : World → Dsk.Pw → Dsk.Dk → Dsk.Dk → Prop) (N R Bn T S O : Nat) (ty : List TypeId) (L0 L1 : List F) (p : Dsk.Pw) (d0 d1 : Dsk.Dk) (a : Dsk.Act) (w : World) (e : Ending) (w' : World) : Prop :=
  e = .returned (.tuple #[.string (Dsk.actB (faL (sel a.disk L0 L1)) R Bn T S O p (sel a.disk d0 d1) a), .int .i64 (Dsk.actE (faL (sel a.disk L0 L1)) R Bn T S O p (sel a.disk d0 d1) a)]) ∧
  Q w' (Dsk.actP p (sel a.disk d0 d1) a) (if a.disk = 0 then Dsk.actD (faL L0) R Bn T S O p d0 a else d0) (if a.disk = 0 then d1 else Dsk.actD (faL L1) R Bn T S O p d1 a) ∧ Tch (N : Zn) ty w w'
theorem Tch.belowN {N : Nat} {L : List TypeId} {w w' : World} (h : Tch (N : Zn) L w w') (hN : N ≤ w.heap.size) : Below N w w' := Tch.below h hN
theorem do_at {N : Nat} {w : World} {P D0 D1 R Bn T S O : Nat} {L0 L1 : List F} {p : Dsk.Pw} {d0 d1 : Dsk.Dk} (h : PSt N w P D0 D1 R Bn T S O L0 L1 p d0 d1) (hN : N ≤ w.heap.size) {m : Nat} (hf : p.fit m) (hm : m < 1000) (h0 : Dsk.Few d0 m) (h1 : Dsk.Few d1 m)
    (a : Ac) (hk : a.disk < 256) (hb : a.bytes.length ≤ 1000) (hv : ∀ c, Below N w c → Bs c a.u a.bytes) :
    Calls Try.prog 25 #[.agg #[ptrN P, ptrN D0, ptrN D1], .agg (acs a).toArray] w (actAt (fun w' p' d0' d1' => PSt N w' P D0 D1 R Bn T S O L0 L1 p' d0' d1') N R Bn T S O tyD L0 L1 p d0 d1 a.act w) := by
  rcases Nat.mod_two_eq_zero_or_one a.disk with e | e
  · have ed : a.act.disk = 0 := e
    obtain ⟨B, hB, hT, hP, hd, hq⟩ := h.open0 hN
    refine (do14_any hd h.pw hP hT hf hm h0 a (D0 := D0) (D1 := D1) (by rw [if_pos e]) hk (fun c hc => hv c (Tch.below_ hc hN hB)) hb).mono ?_
    rintro e w' ⟨rfl, hd', hp', ht⟩
    unfold actAt sel
    rw [if_pos ed, if_pos ed, if_pos ed, if_pos ed]
    exact ⟨rfl, hq w' _ _ hd' hp' ht, ht.mono hB fun _ h => h⟩
  · have ed : ¬ a.act.disk = 0 := by show ¬ a.disk % 2 = 0; omega
    obtain ⟨B, hB, hT, hP, hd, hq⟩ := h.swap.open0 hN
    refine (do14_any hd h.pw hP hT hf hm h1 a (D0 := D0) (D1 := D1) (by rw [if_neg (by omega)]) hk (fun c hc => hv c (Tch.below_ hc hN hB)) hb).mono ?_
    rintro e w' ⟨rfl, hd', hp', ht⟩
    unfold actAt sel
    rw [if_neg ed, if_neg ed, if_neg ed, if_neg ed]
    exact ⟨rfl, (hq w' _ _ hd' hp' ht).swap, ht.mono hB fun _ h => h⟩
theorem want_at {N : Nat} {w : World} {P D0 D1 R Bn T S O : Nat} {L0 L1 : List F} {p : Dsk.Pw} {d0 d1 : Dsk.Dk} (h : RSt N w P D0 D1 R Bn T S O L0 L1 p d0 d1) (hN : N ≤ w.heap.size) {m : Nat} (hf : p.fit m) (hm : m < 1000) (h0 : Dsk.Few d0 m) (h1 : Dsk.Few d1 m)
    (a : Ac) (hk : a.disk < 256) (hb : a.bytes.length ≤ 1000) (hv : ∀ c, Below N w c → Bs c a.u a.bytes) (q : Option Addr) (hq : 7 ≤ a.kind → q = some ⟨P, 0, none⟩) :
    Calls Try.prog 26 #[.pointer q, .agg #[ptrN D0, ptrN D1], .agg (acs a).toArray] w (actAt (fun w' p' d0' d1' => RSt N w' P D0 D1 R Bn T S O L0 L1 p' d0' d1') N R Bn T S O tyQ L0 L1 p d0 d1 a.act w) := by
  rcases Nat.mod_two_eq_zero_or_one a.disk with e | e
  · have ed : a.act.disk = 0 := e
    obtain ⟨B, hB, hT, hP, hd, hq2⟩ := h.open0 hN
    refine (want14_any hd h.pw hP hT hf hm h0 a (D0 := D0) (D1 := D1) (by rw [if_pos e]) hk (fun c hc => hv c (Tch.below_ hc hN hB)) hb q hq).mono ?_
    rintro e w' ⟨rfl, hd', hp', ht⟩
    unfold actAt sel
    rw [if_pos ed, if_pos ed, if_pos ed, if_pos ed]
    exact ⟨rfl, hq2 w' _ _ hd' hp' ht, ht.mono hB fun _ h => h⟩
  · have ed : ¬ a.act.disk = 0 := by show ¬ a.disk % 2 = 0; omega
    obtain ⟨B, hB, hT, hP, hd, hq2⟩ := h.swap.open0 hN
    refine (want14_any hd h.pw hP hT hf hm h1 a (D0 := D0) (D1 := D1) (by rw [if_neg (by omega)]) hk (fun c hc => hv c (Tch.below_ hc hN hB)) hb q hq).mono ?_
    rintro e w' ⟨rfl, hd', hp', ht⟩
    unfold actAt sel
    rw [if_neg ed, if_neg ed, if_neg ed, if_neg ed]
    exact ⟨rfl, (hq2 w' _ _ hd' hp' ht).swap, ht.mono hB fun _ h => h⟩
/-- An act on the first disk whose effect is known. -/
theorem do_at0 {N : Nat} {w : World} {P D0 D1 R Bn T S O : Nat} {L0 L1 : List F} {p : Dsk.Pw} {d0 d1 : Dsk.Dk} (h : PSt N w P D0 D1 R Bn T S O L0 L1 p d0 d1) (hN : N ≤ w.heap.size) {m : Nat} (hf : p.fit m) (hm : m < 1000) (h0 : Dsk.Few d0 m) (h1 : Dsk.Few d1 m)
    (a : Ac) (ha : a.disk = 0) (hb : a.bytes.length ≤ 1000) (hv : ∀ c, Below N w c → Bs c a.u a.bytes) {E : Int} {s : ByteArray} {p' : Dsk.Pw} {d' : Dsk.Dk}
    (hE : Dsk.actE (faL L0) R Bn T S O p d0 a.act = E ∧ Dsk.actB (faL L0) R Bn T S O p d0 a.act = s ∧ Dsk.actD (faL L0) R Bn T S O p d0 a.act = d' ∧ Dsk.actP p d0 a.act = p') :
    Calls Try.prog 25 #[.agg #[ptrN P, ptrN D0, ptrN D1], .agg (acs a).toArray] w (fun e w' => e = .returned (.tuple #[.string s, .int .i64 E]) ∧ PSt N w' P D0 D1 R Bn T S O L0 L1 p' d' d1 ∧ Tch (N : Zn) tyD w w') := by
  have ed : a.act.disk = 0 := by show a.disk % 2 = 0; rw [ha]
  refine (do_at h hN hf hm h0 h1 a (by rw [ha]; decide) hb hv).mono ?_
  rintro e w' hq
  unfold actAt sel at hq
  rw [if_pos ed, if_pos ed, if_pos ed, if_pos ed, hE.1, hE.2.1, hE.2.2.1, hE.2.2.2] at hq
  exact hq
theorem want_at0 {N : Nat} {w : World} {P D0 D1 R Bn T S O : Nat} {L0 L1 : List F} {p : Dsk.Pw} {d0 d1 : Dsk.Dk} (h : RSt N w P D0 D1 R Bn T S O L0 L1 p d0 d1) (hN : N ≤ w.heap.size) {m : Nat} (hf : p.fit m) (hm : m < 1000) (h0 : Dsk.Few d0 m) (h1 : Dsk.Few d1 m)
    (a : Ac) (ha : a.disk = 0) (hk : a.kind < 7) (hb : a.bytes.length ≤ 1000) (hv : ∀ c, Below N w c → Bs c a.u a.bytes) (q : Option Addr) {E : Int} {s : ByteArray} {p' : Dsk.Pw} {d' : Dsk.Dk}
    (hE : Dsk.actE (faL L0) R Bn T S O p d0 a.act = E ∧ Dsk.actB (faL L0) R Bn T S O p d0 a.act = s ∧ Dsk.actD (faL L0) R Bn T S O p d0 a.act = d' ∧ Dsk.actP p d0 a.act = p') :
    Calls Try.prog 26 #[.pointer q, .agg #[ptrN D0, ptrN D1], .agg (acs a).toArray] w (fun e w' => e = .returned (.tuple #[.string s, .int .i64 E]) ∧ RSt N w' P D0 D1 R Bn T S O L0 L1 p' d' d1 ∧ Tch (N : Zn) tyQ w w') := by
  have ed : a.act.disk = 0 := by show a.disk % 2 = 0; rw [ha]
  refine (want_at h hN hf hm h0 h1 a (by rw [ha]; decide) hb hv q (fun h => by omega)).mono ?_
  rintro e w' hq
  unfold actAt sel at hq
  rw [if_pos ed, if_pos ed, if_pos ed, if_pos ed, hE.1, hE.2.1, hE.2.2.1, hE.2.2.2] at hq
  exact hq
theorem PSt.size {N : Nat} {w : World} {P D0 D1 R Bn T S O : Nat} {L0 L1 : List F} {p : Dsk.Pw} {d0 d1 : Dsk.Dk} (h : PSt N w P D0 D1 R Bn T S O L0 L1 p d0 d1) : N ≤ w.heap.size := Nat.le_of_lt (Nat.lt_of_le_of_lt h.pl h.pw.ty.lt)
theorem RSt.size {N : Nat} {w : World} {P D0 D1 R Bn T S O : Nat} {L0 L1 : List F} {p : Dsk.Pw} {d0 d1 : Dsk.Dk} (h : RSt N w P D0 D1 R Bn T S O L0 L1 p d0 d1) : N ≤ w.heap.size := Nat.le_of_lt (Nat.lt_of_le_of_lt h.pl h.pw.ty.lt)
theorem PSt.fst {N : Nat} {w : World} {P D0 D1 R Bn T S O : Nat} {L0 L1 : List F} {p : Dsk.Pw} {d0 d1 : Dsk.Dk} (h : PSt N w P D0 D1 R Bn T S O L0 L1 p d0 d1) : ∃ A, PDk A w D0 P R Bn T S O L0 d0 := by obtain ⟨_, _, A0, A1, h0, _⟩ := h; exact ⟨A0, h0⟩
theorem RSt.fst {N : Nat} {w : World} {P D0 D1 R Bn T S O : Nat} {L0 L1 : List F} {p : Dsk.Pw} {d0 d1 : Dsk.Dk} (h : RSt N w P D0 D1 R Bn T S O L0 L1 p d0 d1) : ∃ A, RDk A w D0 P R Bn T S O L0 d0 := by obtain ⟨_, _, A0, A1, h0, _⟩ := h; exact ⟨A0, h0⟩
/-- The power supply has done something. -/
theorem PSt.pow {N : Nat} {w w' : World} {P D0 D1 R Bn T S O : Nat} {L0 L1 : List F} {p p' : Dsk.Pw} {d0 d1 : Dsk.Dk} (h : PSt N w P D0 D1 R Bn T S O L0 L1 p d0 d1) (hp : PPw w' P p') (hc : Chg (fun j => j = P) w w') : PSt N w' P D0 D1 R Bn T S O L0 L1 p' d0 d1 ∧ Tch (N : Zn) tyD w w' := by
  obtain ⟨a, b, A0, A1, h0, h1, h2, h3⟩ := h
  have t : Tch ⟨fun k => k = P⟩ tyD w w' := Tch.of_one hc rfl a.ty (by decide)
  have hs := Tch.size t
  exact ⟨⟨hp, b, A0, A1, h0.frame t fun k hk hB => (h2 k hk).2.2.1 hB, h1.frame t fun k hk hB => (h3 k hk).2.2 hB, fun k hk => ⟨(h2 k hk).1, by have := (h2 k hk).2.1; omega, (h2 k hk).2.2⟩, fun k hk => ⟨(h3 k hk).1, by have := (h3 k hk).2.1; omega, (h3 k hk).2.2⟩⟩,
    t.mono (fun k hk => by rw [show k = P from hk]; exact b) fun _ h => h⟩
/-- What an operation leaves of two disks. -/
theorem PSt.call0 {N : Nat} {w : World} {P D0 D1 R Bn T S O : Nat} {L0 L1 : List F} {p p' : Dsk.Pw} {d0 d1 d' : Dsk.Dk} {E : Int} {F : FuncId} {args : Array Value} (h : PSt N w P D0 D1 R Bn T S O L0 L1 p d0 d1)
    (hc : ∀ B : Zn, B.top w → B.fr P → PDk B w D0 P R Bn T S O L0 d0 → PPw w P p → Calls Try.prog F args w (pdPost B D0 P R Bn T S O L0 E p' d' w)) :
    Calls Try.prog F args w (fun e w' => e = .returned (.int .i64 E) ∧ PSt N w' P D0 D1 R Bn T S O L0 L1 p' d' d1 ∧ Tch (N : Zn) tyD w w') := by
  obtain ⟨B, hB, hT, hP, hd, hq⟩ := h.open0 h.size
  refine (hc B hT hP hd h.pw).mono ?_
  rintro e w' ⟨rfl, hd', hp', ht⟩
  exact ⟨rfl, hq _ _ _ hd' hp' ht, ht.mono hB fun _ h => h⟩
theorem PSt.call1 {N : Nat} {w : World} {P D0 D1 R Bn T S O : Nat} {L0 L1 : List F} {p p' : Dsk.Pw} {d0 d1 d' : Dsk.Dk} {E : Int} {F : FuncId} {args : Array Value} (h : PSt N w P D0 D1 R Bn T S O L0 L1 p d0 d1)
    (hc : ∀ B : Zn, B.top w → B.fr P → PDk B w D1 P R Bn T S O L1 d1 → PPw w P p → Calls Try.prog F args w (pdPost B D1 P R Bn T S O L1 E p' d' w)) :
    Calls Try.prog F args w (fun e w' => e = .returned (.int .i64 E) ∧ PSt N w' P D0 D1 R Bn T S O L0 L1 p' d0 d' ∧ Tch (N : Zn) tyD w w') :=
  (h.swap.call0 hc).mono fun _ _ ⟨a, b, c⟩ => ⟨a, b.swap, c⟩
/-- What a disk without operations shows. -/
theorem none_shows {B : Zn} {c : World} {D P R Bn T S O : Nat} {L : List F} {d : Dsk.Dk} (h : PDk B c D P R Bn T S O L d) (e : d.count = 0 ∧ d.ops = [] ∧ d.rs = 0 ∧ d.ws = 0 ∧ d.es = 0 ∧ d.fs = 0) :
    Calls Try.prog 16 #[.pointer (some ⟨D, 0, none⟩)] c (qPost (.int .i64 0) c) ∧ Calls Try.prog 17 #[.pointer (some ⟨D, 0, none⟩)] c (qPost (.int .i64 0) c) ∧ Calls Try.prog 19 #[.pointer (some ⟨D, 0, none⟩)] c (gPost (.agg #[.int .i64 0, .int .i64 0, .int .i64 0, .int .i64 0]) c) := by
  obtain ⟨e1, e2, e3, e4, e5, e6⟩ := e
  have h1 := pops_any (p := Dsk.Pw.new) h
  have h2 := ppend_any (p := Dsk.Pw.new) h
  have h3 := pstats_any (p := Dsk.Pw.new) h
  rw [e1] at h1
  rw [e2] at h2
  rw [e3, e4, e5, e6] at h3
  exact ⟨h1, h2, h3⟩
/-- The numbers behind an act. -/
theorem few_act0 {d : Dsk.Dk} {n R Bn T S O : Nat} {L : List F} {p : Dsk.Pw} {a : Dsk.Act} (h : Dsk.Few d n) : Dsk.Few (if a.disk = 0 then Dsk.actD (faL L) R Bn T S O p d a else d) (n + 1) := by
  split
  · exact h.near (Dsk.actD_near _ _ _ _ _ _ _ _ _)
  · exact h.mono (by omega)
theorem few_act1 {d : Dsk.Dk} {n R Bn T S O : Nat} {L : List F} {p : Dsk.Pw} {a : Dsk.Act} (h : Dsk.Few d n) : Dsk.Few (if a.disk = 0 then d else Dsk.actD (faL L) R Bn T S O p d a) (n + 1) := by
  split
  · exact h.mono (by omega)
  · exact h.near (Dsk.actD_near _ _ _ _ _ _ _ _ _)
theorem few_new (l : List Sec) (p : Dsk.Pw) (n : Nat) : Dsk.Few (Dsk.Dk.new l p) n := ⟨Nat.zero_le _, Nat.zero_le _, Nat.zero_le _, Nat.zero_le _, Nat.zero_le _, Nat.zero_le _⟩
theorem fit_new : Dsk.Pw.new.fit 0 := ⟨Nat.le_refl _, by decide, fun h => by cases h⟩
end Go.Proofs.Ytdjjihppaobbcaa
namespace Go.Proofs.Ytdjjihppaobbcaa
open Go Go.RowKit Med Flt
set_option linter.unusedVariables false
set_option linter.unusedSimpArgs false
/-- What is known of acts that 'only' leaves: their bytes are read from the world W. -/
def OkM (W : World) (M : List Ac) : Prop := ∀ a ∈ M, a.disk < 256 ∧ a.kind ≤ 3 ∧ a.key = 0 ∧ a.bytes.length ≤ 100 ∧ Bs W a.u a.bytes
theorem OkM.of_only {W : World} {L : List Ac} (h : ∀ a ∈ L, AcOk W a) (hb : ∀ k (h : k < L.length), L[k].bytes.length ≤ 100) : OkM W (Ac.only L) := by
  intro a ha
  obtain ⟨b, hb1, rfl, hk⟩ := Ac.only_mem ha
  obtain ⟨i, hi, rfl⟩ := List.getElem_of_mem hb1
  have := h _ hb1
  exact ⟨this.1, hk, rfl, hb i hi, this.2.2.2.2⟩
theorem OkM.set0 {W : World} {M : List Ac} (h : OkM W M) {i : Nat} (hi : i < M.length) : OkM W (M.set i { M[i] with disk := 0 }) := by
  intro a ha
  rcases List.mem_or_eq_of_mem_set ha with h1 | rfl
  · exact h a h1
  · have := h _ (List.getElem_mem hi)
    exact ⟨(show (0 : Nat) < 256 by decide), this.2⟩
theorem Tch.ow {B : Zn} {Ls : List TypeId} {N : Nat} {w w' : World} {v : Value} {L : List Ac} (h : OwA N w v L) (hc : Tch B Ls w w') (hL : 62 ∉ Ls) : OwA N w' v L := by
  refine ⟨h.1, ?_⟩
  rcases h.2 with h1 | ⟨g, cap, cur, h1, h2, h3, h4⟩
  · exact Or.inl h1
  · exact Or.inr ⟨g, cap, cur, h1, h2, (hc.block (t := 62) ⟨_, _, h3⟩ hL).trans h3, h4⟩
theorem ow_own {N : Nat} {w : World} {g n cap : Nat} {L : List Ac} (h : OwA N w (.slice (some ⟨g, 0, none⟩) n cap) L) : N ≤ g ∧ Ty w g 62 := by
  rcases h.2 with ⟨e, _⟩ | ⟨g', cap', cur, e, h2, h3, _⟩
  · cases e
  · injection e with e1
    injection e1 with e1
    injection e1 with e1
    subst e1
    exact ⟨h2, _, _, h3⟩
theorem ow_frz {N : Nat} {w : World} {g n cap : Nat} {L : List Ac} (h : OwA N w (.slice (some ⟨g, 0, none⟩) n cap) L) (i : Nat) : w.frozen? ⟨g, i, none⟩ = false := by
  rcases h.2 with ⟨e, _⟩ | ⟨g', cap', cur, e, h2, h3, _⟩
  · cases e
  · injection e with e1
    injection e1 with e1
    injection e1 with e1
    subst e1
    exact Row.frozen (t := 62) (cs := cur) h3 i
theorem ow_rng {N : Nat} {w : World} {g n cap : Nat} {L : List Ac} (h : OwA N w (.slice (some ⟨g, 0, none⟩) n cap) L) {k : Nat} (hk : k < n) (hk2 : k < L.length) : w.rangeAt g (k * 6) (acs L[k]) := by
  obtain ⟨b, off, h2, e, hr⟩ := (h.rd acs_enc).nth hk
  injection e with e
  injection e with e1 e2
  subst e1 e2
  rw [Nat.zero_add] at hr
  exact hr
theorem ow_some {N : Nat} {w : World} {v : Value} {L : List Ac} (h : OwA N w v L) {k : Nat} (hk : k < L.length) : ∃ g cap, v = .slice (some ⟨g, 0, none⟩) L.length cap := by
  rcases h.2 with ⟨_, e⟩ | ⟨g', cap', cur, e, h2, h3, _⟩
  · omega
  · exact ⟨g', cap', e⟩
set_option maxHeartbeats 4000000 in
set_option maxRecDepth 100000 in
theorem fences14_walk (r b t s o : Int) (v0 v1 va : Value) (L0 L1 : List F) (L : List Ac) (key : Nat) (w : World) (h0 : Fts w v0 L0) (h1 : Fts w v1 L1) (h : Acl w va L)  : Calls Try.prog 5 #[.agg (csc r b t s o v0 v1 va), .int .u64 (key : Int)] w (lawPost w) := by
  obtain ⟨A0, c0_, rfl⟩ := h0.form
  obtain ⟨A1, c1_, rfl⟩ := h1.form
  obtain ⟨Aa, ca, rfl⟩ := h.form
  have HO := Lib.hid h
  have H0 := Lib.hid h0
  have H1 := Lib.hid h1
  obtain ⟨n, hn⟩ : ∃ n, L.length = n := ⟨_, rfl⟩
  obtain ⟨n0, hn0⟩ : ∃ n, L0.length = n := ⟨_, rfl⟩
  obtain ⟨n1, hn1⟩ : ∃ n, L1.length = n := ⟨_, rfl⟩
  have EN := Lib.hid hn
  rw [hn] at HO ⊢
  rw [hn0] at H0 ⊢
  rw [hn1] at H1 ⊢
  unfold csc
  obtain ⟨B0, hB0⟩ : ∃ B, w.heap.size = B := ⟨_, rfl⟩
  obtain ⟨W0, hW0⟩ : ∃ W, w.alloc (.cells #[.int .i64 r, .int .i64 b, .int .i64 t, .int .i64 s, .int .i64 o, .slice A0 n0 c0_, .slice A1 n1 c1_, .slice Aa n ca] 45) = W := ⟨_, rfl⟩
  have T0 : Hid (Below w.heap.size w W0) := Lib.hid (by subst hW0; exact (Below.refl _ _).alloc (Nat.le_refl _) _)
  have C0 : Hid (CBox W0 B0 r b t s o (.slice A0 n0 c0_) (.slice A1 n1 c1_) (.slice Aa n ca)) := Lib.hid (by subst hW0; exact gr_new w _ _ hB0)
  have HB0 := Lib.hid hB0
  have HW0 := Lib.hid hW0
  clear hB0 hW0 h h0 h1 hn hn0 hn1
  go_enter Try.func5, Try.ntmps5
  go_wp2_with (first | rw [HB0.out] | rw [HW0.out])
  refine (awake14 _).mono ?_
  rintro e x1 ⟨rfl, hb⟩
  have C_2 := Lib.hid (Row.go C0.out (hb))
  have hl3 := hb
  have HT_4 : Hid (Below w.heap.size w x1) := Lib.hid (T0.out.trans ((hl3).mono T0.out.size))
  clear hb
  obtain ⟨⟨c0, c1, c2, c3, c4⟩, c5, c6, c7⟩ := CBox.cells C_2.out
  go_wp2_with fail
  clear c0 c1 c2 c3 c4 c5 c6 c7
  refine (fair14_any r b t s o _ _ _ L0 L1 L _ (H0.out.fw HT_4.out) (H1.out.fw HT_4.out) (HO.out.fw HT_4.out)).mono ?_
  rintro e x5 ⟨bb, rfl, hf, hb⟩
  have C_6 := Lib.hid (Row.go C_2.out (hb))
  have hl7 := hb
  have HT_8 : Hid (Below w.heap.size w x5) := Lib.hid (HT_4.out.trans ((hl7).mono HT_4.out.size))
  clear hb
  cases bb with
  | false =>
    clear hf
    go_wp2_with fail
    refine (awake14 _).mono ?_
    rintro e x9 ⟨rfl, hb⟩
    have C_10 := Lib.hid (Row.go C_6.out (hb))
    have hl11 := hb
    have HT_12 : Hid (Below w.heap.size w x9) := Lib.hid (HT_8.out.trans ((hl11).mono HT_8.out.size))
    clear hb
    go_wp2_with fail
    go_ret
    exact ⟨rfl, HT_12.out⟩
  | true =>
    have FA := Lib.hid (hf rfl)
    clear hf
    by_cases hk0 : key = 0
    · have dk : ((key : Int) == 0) = true := by simp [hk0]
      go_wp2_with fail
      refine (awake14 _).mono ?_
      rintro e x9 ⟨rfl, hb⟩
      have C_10 := Lib.hid (Row.go C_6.out (hb))
      have hl11 := hb
      have HT_12 : Hid (Below w.heap.size w x9) := Lib.hid (HT_8.out.trans ((hl11).mono HT_8.out.size))
      clear hb
      go_wp2_with fail
      go_ret
      exact ⟨rfl, HT_12.out⟩
    have dk : ((key : Int) == 0) = false := by simp [hk0]
    have HK0 := Lib.hid hk0
    clear hk0
    obtain ⟨R, Bn, T, S, O, rfl, rfl, rfl, rfl, rfl⟩ := FA.out.nat
    have HV := Lib.hid FA.out.1
    obtain ⟨⟨c0, c1, c2, c3, c4⟩, c5, c6, c7⟩ := CBox.cells C_6.out
    go_wp2_with fail
    clear c0 c1 c2 c3 c4 c5 c6 c7
    obtain ⟨N, hN⟩ : ∃ N, x5.heap.size = N := ⟨_, rfl⟩
    have NW := Lib.hid (show w.heap.size ≤ N from by rw [← hN]; exact HT_8.out.size)
    have ST := start14_any (va := .slice Aa n ca) HV.out (H0.out.fw HT_8.out) (H1.out.fw HT_8.out) FA.out.2.2.2.2.2.2.1 FA.out.2.2.2.2.2.2.2 FA.out.2.2.2.1 FA.out.2.2.2.2.1
    unfold csc st14 at ST
    rw [hN] at ST
    refine ST.mono ?_
    clear ST
    rintro e x9 ⟨P, D0, D1, rfl, hs, hb⟩
    have PS0 := Lib.hid hs
    have hb2 : Below x5.heap.size x5 x9 := hN ▸ hb
    have C_10 := Lib.hid (Row.go C_6.out (hb2))
    have hl11 := hb2
    have HT_12 : Hid (Below w.heap.size w x9) := Lib.hid (HT_8.out.trans ((hl11).mono HT_8.out.size))
    have NS := Lib.hid (show N ≤ x9.heap.size from Nat.le_trans (Nat.le_of_eq hN.symm) hb2.size)
    clear hs hb hb2 hN
    unfold ptrN at *
    obtain ⟨b13, hb13⟩ : ∃ b, x9.heap.size = b := ⟨_, rfl⟩
    obtain ⟨W14, hW14⟩ : ∃ W, x9.alloc (.cells #[.pointer (some ⟨P, 0, none⟩), .pointer (some ⟨D0, 0, none⟩), .pointer (some ⟨D1, 0, none⟩)] 49) = W := ⟨_, rfl⟩
    have hb3 : Below x9.heap.size x9 W14 := by subst hW14; exact (Below.refl _ _).alloc (Nat.le_refl _) _
    have RX : Hid (Row W14 b13 49 #[.pointer (some ⟨P, 0, none⟩), .pointer (some ⟨D0, 0, none⟩), .pointer (some ⟨D1, 0, none⟩)]) := Lib.hid (by subst hW14; exact gr_new x9 _ _ hb13)
    have HX1 := Lib.hid hb13
    have HX2 := Lib.hid hW14
    have NX := Lib.hid (show N ≤ b13 by have := NS.out; omega)
    have C_15 := Lib.hid (Row.go C_10.out (hb3))
    have P_16 := Lib.hid (PSt.fw PS0.out (hb3))
    have hl17 := hb3
    have HT_18 : Hid (Below w.heap.size w W14) := Lib.hid (HT_12.out.trans ((hl17).mono HT_12.out.size))
    clear hb3 hb13 hW14
    obtain ⟨k0, k1, k2⟩ := row3 RX.out
    have NZ := Lib.hid (PSt.size P_16.out)
    obtain ⟨B, hB, hT, hP, hd, hq⟩ := PSt.open0 P_16.out NZ.out
    have AQ := pacq_any hd P_16.out.pw hP key
    unfold pdPost Dsk.acqD at AQ
    rw [show Dsk.acqE Dsk.Pw.new (Dsk.Dk.new (List.replicate (R + Bn * (T * S)) Med.blank) Dsk.Pw.new) = 0 from rfl, if_pos rfl] at AQ
    have HQ := Lib.hid hq
    have HB := Lib.hid hB
    have AQH := Lib.hid AQ
    clear hB hT hP hd hq AQ
    go_wp2_with (first | rw [HX2.out, HX1.out])
    refine AQH.out.mono ?_
    rintro e x19 ⟨rfl, hd, hp, ht⟩
    have PS1 := Lib.hid (HQ.out _ _ _ hd hp ht)
    have C_21 := Lib.hid (Row.tch ht C_15.out (by decide))
    have X_22 := Lib.hid (Row.tch ht RX.out (by decide))
    have HT_20 : Hid (Below w.heap.size w x19) := Lib.hid (HT_18.out.trans ((Tch.below_ ht NZ.out HB.out).mono NW.out))
    clear hd hp ht HQ HB AQH NZ k0 k1 k2
    obtain ⟨⟨c0, c1, c2, c3, c4⟩, c5, c6, c7⟩ := CBox.cells C_21.out
    go_wp2_with fail
    clear c0 c1 c2 c3 c4 c5 c6 c7
    refine (only_any _ L _ (HO.out.fw HT_20.out) (by have := FA.out.2.2.1; omega)).mono ?_
    rintro e x23 ⟨v, rfl, ho, hb⟩
    have NZ := Lib.hid (PSt.size PS1.out)
    have OA0 : Hid (OwA N x23 v (Ac.only L)) := Lib.hid (St.Ow.low ho NZ.out)
    have C_24 := Lib.hid (Row.go C_21.out (hb))
    have X_25 := Lib.hid (Row.go X_22.out (hb))
    have P_26 := Lib.hid (PSt.fw PS1.out (hb))
    have hl27 := hb
    have HT_28 : Hid (Below w.heap.size w x23) := Lib.hid (HT_20.out.trans ((hl27).mono HT_20.out.size))
    have OK0 := Lib.hid (OkM.of_only HO.out.2 FA.out.2.2.2.2.2.1)
    have ML := Lib.hid (show (Ac.only L).length ≤ 60 from Nat.le_trans (Ac.only_len L) FA.out.2.2.1)
    clear ho hb NZ
    obtain ⟨M, hM⟩ : ∃ M, Ac.only L = M := ⟨_, rfl⟩
    rw [hM] at OK0 ML OA0
    clear hM
    obtain ⟨m, hm⟩ : ∃ m, M.length = m := ⟨_, rfl⟩
    have EM := Lib.hid hm
    rw [hm] at ML
    clear hm
    obtain ⟨Av, cv, rfl⟩ : ∃ A c, v = .slice A m c := by obtain ⟨A, c, e⟩ := St.Ow.form acs_enc OA0.out; exact ⟨A, c, by rw [e, EM.out]⟩
    go_wp2_with fail
    obtain ⟨dk0, hdk0⟩ : ∃ d : Dsk.Dk, { Dsk.Dk.new (List.replicate (R + Bn * (T * S)) Med.blank) Dsk.Pw.new with key := key } = d := ⟨_, rfl⟩
    obtain ⟨dk1, hdk1⟩ : ∃ d : Dsk.Dk, (Dsk.Dk.new (List.replicate (R + Bn * (T * S)) Med.blank) Dsk.Pw.new) = d := ⟨_, rfl⟩
    have E0 := Lib.hid hdk0
    have E1 := Lib.hid hdk1
    have PSI := Lib.hid P_26.out
    rw [hdk0, hdk1] at PSI
    clear hdk0 hdk1
    go_loopw [8] (fun i wr => ∃ (k : Nat) (M' : List Ac), k ≤ m ∧ i = .int .i64 (k : Int) ∧ Hid (CBox wr B0 R Bn T S O (.slice A0 n0 c0_) (.slice A1 n1 c1_) (.slice Aa n ca) ∧ Row wr b13 49 #[.pointer (some ⟨P, 0, none⟩), .pointer (some ⟨D0, 0, none⟩), .pointer (some ⟨D1, 0, none⟩)] ∧ PSt N wr P D0 D1 R Bn T S O L0 L1 Dsk.Pw.new dk0 dk1 ∧ OwA N wr (.slice Av m cv) M' ∧ Below w.heap.size w wr) ∧ Hid (OkM w M' ∧ M'.length = m)) (fun i _ => m - (intOf i).toNat)
    case atStart => exact ⟨0, M, Nat.zero_le _, rfl, Lib.hid ⟨C_24.out, X_25.out, PSI.out, OA0.out, HT_28.out⟩, Lib.hid ⟨OK0.out, EM.out⟩⟩
    case round =>
      obtain ⟨k, M', hk, rfl, V, VM⟩ := hrel
      have nb := ML.out
      by_cases hlt : k < m
      · have DKY : Hid (dk0.key = key ∧ dk0.dead = false ∧ Dsk.rdy Dsk.Pw.new dk0) := Lib.hid (by rw [← E0.out]; exact ⟨rfl, rfl, rfl, rfl⟩)
        have kI : (k : Int) < (m : Int) := by omega
        obtain ⟨OKM, hml⟩ := VM.out
        have hk2 : k < M'.length := by omega
        have CW := Lib.hid V.out.1
        have XW := Lib.hid V.out.2.1
        have PW := Lib.hid V.out.2.2.1
        have OW := Lib.hid V.out.2.2.2.1
        have TW := Lib.hid V.out.2.2.2.2
        obtain ⟨g, cap, hv⟩ := ow_some OW.out hk2
        injection hv with hv1 hv2 hv3
        subst hv1
        clear hv3 hv2 V
        obtain ⟨y, hy⟩ : ∃ y, M'[k] = y := ⟨_, rfl⟩
        have OKY := Lib.hid (hy ▸ OKM _ (List.getElem_mem hk2))
        have RG := ow_rng OW.out hlt hk2
        rw [hy] at RG
        obtain ⟨x0, x1, x2, x3, ua, un, uc, bs, x5⟩ := y
        obtain ⟨q0, -, -, -, -, -⟩ := acs_at RG
        have qf := ow_frz OW.out (k * 6)
        obtain ⟨W5, hW5⟩ : ∃ W, wr.setCell ⟨g, k * 6, none⟩ (.int .u8 0) = W := ⟨_, rfl⟩
        have T5 : Tch (N : Zn) [62] wr W5 := by
          subst hW5
          exact (Tch.refl _ _ _).set (show N ≤ g from (ow_own OW.out).1) (ow_own OW.out).2 (by simp) _
        have NZ := Lib.hid (PSt.size PW.out)
        have C5 := Lib.hid (Row.tch T5 CW.out (by decide))
        have X5 := Lib.hid (Row.tch T5 XW.out (by decide))
        have P5 := Lib.hid (PW.out.keep T5 (by decide))
        have B5 := Lib.hid (TW.out.trans ((Tch.below_ T5 NZ.out (fun k h => h)).mono NW.out))
        have O5 : Hid (OwA N W5 (.slice (some ⟨g, 0, none⟩) m cv) (M'.set k ⟨0, x1, x2, x3, ua, un, uc, bs, x5⟩)) := Lib.hid (by
          have := St.Ow.set acs_enc OW.out hk2 (j := 0) (by decide) (f' := ⟨0, x1, x2, x3, ua, un, uc, bs, x5⟩) (u := .int .u8 0) (by rw [hy]; rfl)
          rw [Nat.add_zero, hW5] at this
          exact this)
        have OKM2 := Lib.hid (OkM.set0 OKM hk2)
        rw [hy] at OKM2
        have LM2 : Hid ((M'.set k ⟨0, x1, x2, x3, ua, un, uc, bs, x5⟩).length = m) := Lib.hid (by rw [List.length_set]; exact hml)
        have HW5 := Lib.hid hW5
        have R5 : Hid (∀ w', Tch (N : Zn) tyD W5 w' → w'.rangeAt g (k * 6) (acs ⟨0, x1, x2, x3, ua, un, uc, bs, x5⟩)) := Lib.hid fun w' h => by
          have := ow_rng (Tch.ow O5.out h (by decide)) (k := k) hlt (by rw [LM2.out]; exact hlt)
          rw [List.getElem_set_self] at this
          exact this
        have HV5 : Hid (∀ c, Below N W5 c → Bs c (.slice ua un uc) bs) := Lib.hid fun c hc => OKY.out.2.2.2.2.below (B5.out.trans (hc.mono NW.out))
        clear hW5 T5 RG hy OKM hml hk2
        go_wp2_with (first | rw [HW5.out])
        refine wp_region_held (P := Try.prog) (S := (fun w' : World => Tch (N : Zn) tyD W5 w')) rfl ?_
        change wpAnyH _ _ _ _ _ _ _ _ W5.drew
        have vhz2 : Below W5.heap.size W5 W5.drew := (Below.refl W5.heap.size W5).drew
        generalize W5.drew = vwz1 at vhz2 ⊢
        have vHZ3 : Hid (Below W5.heap.size W5 vwz1) := Lib.hid vhz2
        have vTT4 : Hid (Tch (N : Zn) tyD W5 vwz1) := Lib.hid (Tch.of_below vHZ3.out (N : Zn) tyD)
        clear vhz2
        have vhS5 : (fun w' : World => Tch (N : Zn) tyD W5 w') vwz1 := vTT4.out
        refine takeD (i := 0) (v := .agg #[.pointer (some ⟨P, 0, none⟩), .pointer (some ⟨D0, 0, none⟩), .pointer (some ⟨D1, 0, none⟩)]) (some 52) rfl rfl (by kernel_rfl) (by kernel_rfl) (by kernel_rfl) (fun _ _ _ h => h) (yieldsIf_load_mid (by rfl) _ _ rfl b13 0 rfl [.pointer (some ⟨P, 0, none⟩), .pointer (some ⟨D0, 0, none⟩), .pointer (some ⟨D1, 0, none⟩)] _ (fun w' h => row3c (Row.tch h X5.out (by decide))) Try.underlying49 rfl (by kernel_rfl)) vhS5 ?_
        simp only [Act.put, List.setIfInBounds_toArray, List.set_cons_zero, List.set_cons_succ]
        refine takeD (i := 1) (v := .slice (some ⟨g, 0, none⟩) m cv) (some 53) rfl rfl (by kernel_rfl) (by kernel_rfl) (by kernel_rfl) (fun _ _ _ h => h) (Or.inl ⟨by rfl, by rintro w' -; go_simp⟩) vhS5 ?_
        simp only [Act.put, List.setIfInBounds_toArray, List.set_cons_zero, List.set_cons_succ]
        refine takeD (i := 2) (v := .int .i64 (k : Int)) (some 54) rfl rfl (by kernel_rfl) (by kernel_rfl) (by kernel_rfl) (fun _ _ _ h => h) (Or.inl ⟨by rfl, by rintro w' -; go_simp⟩) vhS5 ?_
        simp only [Act.put, List.setIfInBounds_toArray, List.set_cons_zero, List.set_cons_succ]
        refine takeD (i := 3) (v := .pointer (some ⟨g, k * 6, none⟩)) (some 55) rfl rfl (by kernel_rfl) (by kernel_rfl) (by kernel_rfl) (fun _ _ _ h => h) (Or.inl ⟨by rfl, by rintro w' -; go_simp⟩) vhS5 ?_
        simp only [Act.put, List.setIfInBounds_toArray, List.set_cons_zero, List.set_cons_succ]
        refine takeD (i := 4) (v := .agg #[.int .u8 0, .int .u8 (x1 : Int), .int .u64 (x2 : Int), .int .i64 x3, .slice ua un uc, .bool x5]) (some 56) rfl rfl (by kernel_rfl) (by kernel_rfl) (by kernel_rfl) (fun _ _ _ h => h) (yieldsIf_load_mid (by rfl) _ _ rfl g (k * 6) rfl [.int .u8 0, .int .u8 (x1 : Int), .int .u64 (x2 : Int), .int .i64 x3, .slice ua un uc, .bool x5] _ (fun w' h => R5.out _ h) Try.underlying62 rfl (by kernel_rfl)) vhS5 ?_
        simp only [Act.put, List.setIfInBounds_toArray, List.set_cons_zero, List.set_cons_succ]
        refine wpAnyH_ready (rs := [5]) (by kernel_rfl) (by simp) ?_
        refine AllReadyH.cons rfl (fun vK6 hvK6 => ?_) AllReadyH.nil
        have HvK6 := Lib.hid hvK6
        clear hvK6
        rw [if_pos (by rfl)]
        go_simp
        have DA := do_at0 (P5.out.fw vHZ3.out) (PSt.size (P5.out.fw vHZ3.out)) fit_new (by decide) (by rw [← E0.out]; exact few_new (List.replicate (R + Bn * (T * S)) Med.blank) Dsk.Pw.new 0) (by rw [← E1.out]; exact few_new _ _ 0) ⟨0, x1, x2, x3, ua, un, uc, bs, x5⟩ rfl (Nat.le_trans OKY.out.2.2.2.1 (by decide)) (fun c hc => HV5.out c ((vHZ3.out.mono (PSt.size P5.out)).trans hc)) (Dsk.act_fenced _ _ _ _ _ _ (by show x1 < 4; have := OKY.out.2.1; exact Nat.lt_succ_of_le this) DKY.out.2.1 DKY.out.2.2 rfl (by show x2 ≠ dk0.key; rw [DKY.out.1]; exact fun e => HK0.out (e.symm.trans OKY.out.2.2.1)))
        unfold ptrN acs at DA
        refine DA.mono ?_
        clear DA
        rintro e vx7 ⟨rfl, hd, ht⟩
        have P6 := Lib.hid hd
        have T6 := Lib.hid ht
        clear hd ht
        have vTT8 : Hid (Tch (N : Zn) tyD W5 vx7) := Lib.hid (vTT4.out.trans (T6.out))
        have vhS9 : (fun w' : World => Tch (N : Zn) tyD W5 w') vx7 := vTT8.out
        refine HvK6.out _ _ vhS9 fun _ => ?_
        try simp only [Act.put, List.setIfInBounds_toArray, List.set_cons_zero, List.set_cons_succ]
        refine takeD (i := 6) (v := .tuple #[.string ByteArray.empty, .int .i64 17]) (some 51) rfl rfl (by kernel_rfl) (by kernel_rfl) (by kernel_rfl) (fun _ _ _ h => h) (Or.inl ⟨by rfl, by rintro w' -; go_simp⟩) vhS9 ?_
        simp only [Act.put, List.setIfInBounds_toArray, List.set_cons_zero, List.set_cons_succ]
        refine takeD (i := 7) (v := .string ByteArray.empty) (some 58) rfl rfl (by kernel_rfl) (by kernel_rfl) (by kernel_rfl) (fun _ _ _ h => h) (Or.inl ⟨by rfl, by rintro w' -; go_simp⟩) vhS9 ?_
        simp only [Act.put, List.setIfInBounds_toArray, List.set_cons_zero, List.set_cons_succ]
        refine takeD (i := 8) (v := .int .i64 17) (some 59) rfl rfl (by kernel_rfl) (by kernel_rfl) (by kernel_rfl) (fun _ _ _ h => h) (Or.inl ⟨by rfl, by rintro w' -; go_simp⟩) vhS9 ?_
        simp only [Act.put, List.setIfInBounds_toArray, List.set_cons_zero, List.set_cons_succ]
        refine takeD (i := 9) (v := .string ByteArray.empty) (some 9) rfl rfl (by kernel_rfl) (by kernel_rfl) (by kernel_rfl) (fun _ _ _ h => h) (Or.inl ⟨by rfl, by rintro w' -; go_simp⟩) vhS9 ?_
        simp only [Act.put, List.setIfInBounds_toArray, List.set_cons_zero, List.set_cons_succ]
        refine takeD (i := 10) (v := .int .i64 17) (some 10) rfl rfl (by kernel_rfl) (by kernel_rfl) (by kernel_rfl) (fun _ _ _ h => h) (Or.inl ⟨by rfl, by rintro w' -; go_simp⟩) vhS9 ?_
        simp only [Act.put, List.setIfInBounds_toArray, List.set_cons_zero, List.set_cons_succ]
        refine wpAnyH_done (by kernel_rfl) ?_ _
        have TT := Lib.hid (vTT8.out)
        have B6 := Lib.hid (B5.out.trans ((Tch.below_ TT.out (PSt.size P5.out) (fun k h => h)).mono NW.out))
        have C6 := Lib.hid (Row.tch TT.out C5.out (by decide))
        have X6 := Lib.hid (Row.tch TT.out X5.out (by decide))
        have O6 := Lib.hid (Tch.ow O5.out TT.out (by decide))
        go_wp2_with fail
        go_roundw
        case rel => exact ⟨k + 1, _, by omega, by go_num, Lib.hid ⟨C6.out, X6.out, P6.out, O6.out, B6.out⟩, Lib.hid ⟨OKM2.out, LM2.out⟩⟩
        case measure => simp [intOf]; omega
      · obtain rfl : k = m := by omega
        have kI : ¬ (k : Int) < (k : Int) := by omega
        have dk : decide ((k : Int) < (k : Int)) = false := decide_eq_false kI
        obtain ⟨k0, k1, k2⟩ := row3 V.out.2.1
        obtain ⟨A, hd⟩ := V.out.2.2.1.fst
        have SH := Lib.hid (none_shows hd (by rw [← E0.out]; exact ⟨rfl, rfl, rfl, rfl, rfl, rfl⟩))
        have TW := Lib.hid V.out.2.2.2.2
        clear V VM hd
        go_wp2_with fail
        refine SH.out.1.mono ?_
        rintro e w' ⟨rfl, rfl⟩
        go_wp2_with fail
        refine SH.out.2.1.mono ?_
        rintro e w' ⟨rfl, rfl⟩
        go_wp2_with fail
        refine SH.out.2.2.mono ?_
        rintro e y1 ⟨rfl, hb⟩
        have TF := Lib.hid (TW.out.trans (hb.mono TW.out.size))
        clear hb
        go_wp2_with fail
        go_ret
        exact ⟨rfl, TF.out⟩
end Go.Proofs.Ytdjjihppaobbcaa
