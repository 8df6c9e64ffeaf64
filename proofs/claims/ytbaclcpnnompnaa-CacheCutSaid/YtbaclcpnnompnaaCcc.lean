/- Caches: the closures; copies of bytes and of pending lists. -/
import Derived.Test.YtbaclcpnnompnaaCcb
namespace Go.Proofs.Ytbaclcpnnompnaa
open Go Go.RowKit Med
set_option linter.unusedVariables false
set_option linter.unusedSimpArgs false
set_option maxHeartbeats 2000000 in
theorem er1_any {w : World} {M X c R B T S O : Nat} {l : List Sec} (h : PMd w M X c R B T S O l) (b : Nat) (x : Int) (hb : Row w b 3 #[.int .i64 x]) : Calls Try.prog 59 #[.pointer (some ⟨M, 0, none⟩), .pointer (some ⟨b, 0, none⟩)] w (wrPost 84 81 M X c R B T S O (erE B x) (er R B T S l x) w) := by
  have E := Lib.hid (per_any h x)
  have c0 : w.cell? ⟨b, 0, none⟩ = some (.int .i64 x) := by rw [hb.cell]; rfl
  clear h hb
  generalize erE B x = z at *
  generalize er R B T S l x = l2 at *
  go_enter Try.func59, Try.ntmps59
  go_wp2_with fail
  refine E.out.mono ?_
  rintro e w1 ⟨rfl, hq⟩
  have Q := Lib.hid hq
  clear hq
  go_wp2_with fail
  go_ret
  exact ⟨rfl, Q.out⟩
set_option maxHeartbeats 2000000 in
theorem wr1_any {w : World} {M X c R B T S O : Nat} {l : List Sec} (h : PMd w M X c R B T S O l) (b k : Nat) (u : Value) (x : Int) (d : List Nat) (hb : Row w b 3 #[.int .i64 x]) (hk : Row w k 36 #[u]) (hu : Bs w u d) : Calls Try.prog 58 #[.pointer (some ⟨M, 0, none⟩), .pointer (some ⟨b, 0, none⟩), .pointer (some ⟨k, 0, none⟩)] w (wrPost 84 81 M X c R B T S O (wrE l x d.length) (wr (Geo.shadow R B T S O x) l x d.length (strOf d)) w) := by
  have E := Lib.hid (pwr_any h x u d hu)
  have c0 : w.cell? ⟨b, 0, none⟩ = some (.int .i64 x) := by rw [hb.cell]; rfl
  have c1 : w.cell? ⟨k, 0, none⟩ = some u := by rw [hk.cell]; rfl
  obtain ⟨A, cc, rfl⟩ := hu.form
  clear h hb hk hu
  generalize wrE l x d.length = z at *
  generalize wr (Geo.shadow R B T S O x) l x d.length (strOf d) = l2 at *
  generalize d.length = m at *
  go_enter Try.func58, Try.ntmps58
  go_wp2_with fail
  refine E.out.mono ?_
  rintro e w1 ⟨rfl, hq⟩
  have Q := Lib.hid hq
  clear hq
  go_wp2_with fail
  go_ret
  exact ⟨rfl, Q.out⟩
/-- What an operation does to a medium. -/
def opPost (M X c R B T S O : Nat) (l : List Sec) (o : Med.Op) (w : World) (e : Ending) (w' : World) : Prop := wrPost 84 81 M X c R B T S O (opE B l o) (opL R B T S O l o) w e w'
theorem er1_op {w : World} {M X c R B T S O : Nat} {l : List Sec} (h : PMd w M X c R B T S O l) (o : Med.Op) (b : Nat) (ho : o.erase = true) (hb : Row w b 3 #[.int .i64 o.pos]) : Calls Try.prog 59 #[.pointer (some ⟨M, 0, none⟩), .pointer (some ⟨b, 0, none⟩)] w (opPost M X c R B T S O l o w) := by
  have := er1_any h b o.pos hb
  unfold opPost opE opL
  rw [if_pos ho, if_pos ho]
  exact this
theorem wr1_op {w : World} {M X c R B T S O : Nat} {l : List Sec} (h : PMd w M X c R B T S O l) (o : Med.Op) (b k : Nat) (u : Value) (ho : o.erase = false) (hb : Row w b 3 #[.int .i64 o.pos]) (hk : Row w k 36 #[u]) (hu : Bs w u o.bytes) : Calls Try.prog 58 #[.pointer (some ⟨M, 0, none⟩), .pointer (some ⟨b, 0, none⟩), .pointer (some ⟨k, 0, none⟩)] w (opPost M X c R B T S O l o w) := by
  have := wr1_any h b k u o.pos o.bytes hb hk hu
  unfold opPost opE opL
  rw [if_neg (by rw [ho]; decide), if_neg (by rw [ho]; decide)]
  exact this
/-- The append of nothing. -/
theorem append_none {P : Program} (w : World) (t ty e : TypeId) (i : TypeInfo) (ht : P.underlying t = some (.slice e)) (hi : P.info? e = some i) (ad : Addr) (n cap : Nat) (A : Option Addr) (c : Nat) (hc : n ≤ cap) :
    (Builtin.append_ #[t, t] ty #[.slice (some ad) n cap, .slice A 0 c]).run P w = .ok (.slice (some ad) n cap) w := by
  have h0 : ∀ b : Addr, (loadCells b 0).run P w = .ok #[] w := fun b => by simp [loadCells, loadCellsFrom]
  cases A with
  | none => simp [Builtin.append_, run_underlying ht, sizeOf, typeInfo, hi, Builtin.lenOf, Builtin.firstCells, hc, storeCells]
  | some b => simp [Builtin.append_, run_underlying ht, sizeOf, typeInfo, hi, Builtin.lenOf, Builtin.firstCells, hc, storeCells, h0]
theorem wp_append_none {P : Program} {t e : TypeId} {w : World} {o : Oper} {a : Act} {K : Act → World → Prop} {Q : Exit → Act → World → Prop} (s x : Operand) (i : TypeInfo) (ht : P.underlying t = some (.slice e)) (hi : P.info? e = some i)
    (ho : o.op = .call { callee := .builtin .append, args := #[s, x], argTypes := #[t, t] })
    (ad : Addr) (n cap : Nat) (A : Option Addr) (c : Nat) (hs : a.eval s = .slice (some ad) n cap) (hx : a.eval x = .slice A 0 c) (hc : n ≤ cap) (h : K (a.put o.dst (.slice (some ad) n cap)) w) : o.wp P a w K Q := by
  have hr := append_none (P := P) w t o.type e i ht hi ad n cap A c hc
  unfold Oper.wp execOp
  simp only [ho, resolve, invoke, builtin, Sem.run_bind, Sem.run_pure, Result.andThen_ok, List.map_toArray, List.map_cons, List.map_nil, hs, hx, hr]
  exact h
theorem run_build_e {P : Program} {tl ts : TypeId} {z : Value} {s b : Nat} (ht : P.underlying tl = some (.slice ts)) (info : (P.info? ts).map (fun i => (i.zero, i.size, i.bytes)) = some (some z, s, b)) (w : World) : (Instr.buildSlice tl 0 #[]).run P w = .ok (.slice (some ⟨w.heap.size, 0, none⟩) 0 0) (w.alloc (.cells #[] ts)) := by
  obtain ⟨i, hi, hzz⟩ := Option.map_eq_some_iff.1 info
  simp only [Prod.mk.injEq] at hzz
  obtain ⟨hz, hs, hb⟩ := hzz
  simp [Instr.buildSlice, run_underlying ht, sizeOf, typeInfo, hi, hs, zeroValue, hz, newRow, Instr.fill, Value.cells, show Array.range 0 = #[] from rfl]
theorem wp_build_e {P : Program} {tl ts : TypeId} {z : Value} {s b : Nat} (ht : P.underlying tl = some (.slice ts)) (info : (P.info? ts).map (fun i => (i.zero, i.size, i.bytes)) = some (some z, s, b)) {o : Oper} {a : Act} {w : World} {K : Act → World → Prop} {Q : Exit → Act → World → Prop} (ho : o.op = .buildSlice tl 0 #[])
    (hk : K (a.put o.dst (.slice (some ⟨w.heap.size, 0, none⟩) 0 0)) (w.alloc (.cells #[] ts))) : o.wp P a w K Q := by
  unfold Oper.wp
  simp only [execOp, ho, List.map_toArray, List.map_nil, Sem.run_bind, Sem.run_pure, Result.andThen_ok, run_build_e ht info w]
  exact hk
/-- 'append([]operation{}, x...)'. -/
theorem wp_copy_F {A B : Nat} {w : World} {o : Oper} {a : Act} {K : Act → World → Prop} {Q : Exit → Act → World → Prop} (s x : Operand)
    (ho : o.op = .call { callee := .builtin .append, args := #[s, x], argTypes := #[74, 74] })
    (b0 n c : Nat) (p : Option Addr) (ops : List Med.Op) (hs : a.eval s = .slice (some ⟨b0, 0, none⟩) 0 0) (hrow : Row w b0 79 #[]) (hx : a.eval x = .slice p n c) (hn : ops.length = n) (hF : Fl A w (.slice p n c) ops) (hlen : n ≤ 100000) (hB : B ≤ b0)
    (h : ∀ g cap w', Fl B w' (.slice (some ⟨g, 0, none⟩) n cap) ops → w.grownBy w' (some b0) → K (a.put o.dst (.slice (some ⟨g, 0, none⟩) n cap)) w') : o.wp Try.prog a w K Q := by
  subst hn
  obtain ⟨i, hi, hz, hsz, hby⟩ := info_parts info_fn
  by_cases h0 : ops.length = 0
  · obtain rfl : ops = [] := List.length_eq_zero_iff.1 h0
    exact wp_append_none s x i Try.underlying74 hi ho ⟨b0, 0, none⟩ 0 0 p c hs hx (Nat.le_refl _) (h b0 0 w (Or.inr ⟨b0, 0, #[], rfl, hB, hrow, rfl, Nat.zero_le _, Nat.le_refl _, fun k hk => absurd hk (Nat.not_lt_zero k)⟩) (World.grownBy.refl w _))
  · rcases hF with ⟨_, rfl⟩ | ⟨g, cap, cs, e, hg, hr, hsz2, hm, hl, hq⟩
    · exact absurd rfl h0
    · injection e with e1 e2 e3
      subst e1 e3
      have hown : w.ownsRow B 79 1 (.slice (some ⟨b0, 0, none⟩) 0 0) 0 [] := ⟨rfl, Or.inr ⟨b0, 0, #[], rfl, hB, hrow, Nat.le_refl 0, Nat.zero_le _, rfl, rfl⟩⟩
      have ht : ∀ k (hk : k < ops.length), ∃ u, (cs.toList.take ops.length)[k]? = some u ∧ FnOp w u ops[k] := fun k hk => by
        obtain ⟨u, h1, h2⟩ := hq k hk
        exact ⟨u, by rw [List.getElem?_take_of_lt hk]; simpa using h1, h2⟩
      have hlt : (cs.toList.take ops.length).length = ops.length := by simp; omega
      refine wp_append_lies w s x _ ho B _ i _ 1 8 Try.underlying74 hi hz hsz hby rfl (by decide) _ 0 [] hs hown ⟨g, 0, none⟩ ops.length c (cs.toList.take ops.length) hx (by omega) (fun j u hj => ?_) (fun u hu => ?_) (by omega) (by unfold maxLen; omega) (by omega) (by have := hrow.lt; omega) _ rfl fun g2 cap2 w' h1 h2 h3 h4 => ?_
      · rw [Go.WideShapes.add_plain, Nat.zero_add, hr.cell]
        have : j < ops.length := by have := (List.getElem?_eq_some_iff.1 hj).1; omega
        rw [List.getElem?_take_of_lt this] at hj
        simpa using hj
      · obtain ⟨k, hk, rfl⟩ := List.getElem_of_mem hu
        obtain ⟨u', h5, h6⟩ := ht k (by omega)
        rw [List.getElem?_eq_getElem hk] at h5
        injection h5 with h5
        rw [h5]; exact h6.one
      · rw [Nat.zero_add] at h1 ⊢
        rw [List.nil_append] at h1
        have hc : Tch 0 [79] w w' := Tch.grown h2 (fun k hk => by injection hk with hk; subst hk; exact ⟨Nat.zero_le _, hrow.ty⟩) (by simp)
        exact h g2 cap2 w' (Fl.of_row h1 rfl fun k hk => by obtain ⟨u, h5, h6⟩ := ht k hk; exact ⟨u, h5, h6.tch hc (by unfold NoCap; decide)⟩) h2
def fcPost (ops : List Med.Op) (w : World) (e : Ending) (w' : World) : Prop := ∃ v, e = .returned v ∧ Fl w.heap.size w' v ops ∧ Below w.heap.size w w'
set_option maxHeartbeats 2000000 in
set_option maxRecDepth 100000 in
theorem fclone_any {A : Nat} (v : Value) (ops : List Med.Op) (w : World) (h : Fl A w v ops) (hl : ops.length ≤ 100000) : Calls Try.prog 49 #[v] w (fcPost ops w) := by
  rcases id h with ⟨rfl, rfl⟩ | ⟨g, cap, cs, rfl, _⟩
  · have hnil := fun w => Lib.run_eql_slice_nil (P := Try.prog) w 74 79 none 0 0 0 0 Try.underlying74
    go_enter Try.func49, Try.ntmps49
    go_wp2_with fail
    go_ret
    exact ⟨_, rfl, Fl.nil_ _ _, Below.refl _ _⟩
  · obtain ⟨n, hn⟩ : ∃ n, ops.length = n := ⟨_, rfl⟩
    have HN := Lib.hid hn
    rw [hn] at h ⊢
    have hnil := fun w => Lib.run_eql_slice_nil (P := Try.prog) w 74 79 (some ⟨g, 0, none⟩) n cap 0 0 Try.underlying74
    have R0 := Lib.hid (gr_new w #[] 79 rfl)
    have HF := Lib.hid (h.fw ((Below.refl _ w).alloc (Nat.le_refl _) (.cells #[] 79)))
    have AT := Lib.hid (Nat.le_refl w.heap.size)
    have HL := Lib.hid (show n ≤ 100000 by omega)
    clear h hl hn
    go_enter Try.func49, Try.ntmps49
    go_wp2_with (first | (refine wpList_plain rfl fun _ hK' => wp_build_e Try.underlying74 info_fn rfl (hK' _ _ ?_)) | (at_builtin; refine wpList_plain rfl fun _ hK' => wp_copy_F _ _ rfl w.heap.size n cap (some ⟨g, 0, none⟩) ops rfl R0.out rfl HN.out HF.out HL.out AT.out ?_; intro g2 cap2 w1 ho hg; refine hK' _ _ ?_))
    have hb1 : Below w.heap.size w w1 := ((Below.refl _ w).alloc (Nat.le_refl _) _).grown hg (by simp) fun q hq => by injection hq with hq; exact Nat.le_of_eq hq
    have P := Lib.hid (And.intro ho hb1)
    clear ho hg hb1
    go_wp2_with fail
    go_ret
    exact ⟨_, rfl, P.out.1, P.out.2⟩
set_option maxHeartbeats 2000000 in
set_option maxRecDepth 100000 in
theorem bclone_any (v : Value) (l : List Nat) (w : World) (h : Bs w v l) (hl : l.length ≤ 1000) : Calls Try.prog 56 #[v] w (newB l w) := by
  obtain ⟨p, c, rfl⟩ := h.form
  have hA : p = none → c = 0 := by obtain ⟨p', c', e, _, _, h2, _⟩ := h; injection e with e1 e2 e3; subst e1 e3; exact h2
  obtain ⟨n, hn⟩ : ∃ n, l.length = n := ⟨_, rfl⟩
  rcases p with _ | ad
  · obtain rfl := hA rfl
    have h0 : l = [] := by
      rcases Nat.eq_zero_or_pos l.length with h0 | h0
      · exact List.length_eq_zero_iff.1 h0
      · obtain ⟨p', c', e, _, _, _, h2⟩ := h; obtain ⟨b, off, e2, _⟩ := h2 h0; injection e with e1 _ _; rw [← e1] at e2; cases e2
    subst h0
    have hnil := fun w => Lib.run_eql_slice_nil (P := Try.prog) w 36 5 none 0 0 0 0 Try.underlying36
    show Calls _ _ #[.slice none 0 0] _ _
    go_enter Try.func56, Try.ntmps56
    go_wp2_with fail
    go_ret
    exact ⟨_, rfl, OwB.nil_ _ _, Below.refl _ _⟩
  · have HN := Lib.hid hn
    rw [hn] at h ⊢
    have hnil := fun w => Lib.run_eql_slice_nil (P := Try.prog) w 36 5 (some ad) n c 0 0 Try.underlying36
    have MK := Lib.hid (OwB.made w (Nat.le_refl _))
    have HA := Lib.hid (show Bs (w.alloc (.cells #[] 5)) (.slice (some ad) n c) l from h.alloc _)
    have HL := Lib.hid hl
    clear h hl hA hn
    go_enter Try.func56, Try.ntmps56
    go_wp2_with (first | (refine wpList_plain rfl fun _ hK' => wpB_build_0 rfl (hK' _ _ ?_)) | (at_builtin; refine wp_app rfl _ _ rfl w.heap.size _ _ [] l rfl rfl MK.out HA.out (by have := HL.out; simp; omega) (by simp) ?_; intro x1 w1 hown1 hg1))
    have P := Lib.hid (And.intro (show OwB w1 w.heap.size x1 l from hown1) (((Below.refl w.heap.size w).alloc (Nat.le_refl _) _).trans hg1))
    clear hown1 hg1
    go_wp2_with fail
    go_ret
    exact ⟨_, rfl, P.out.1, P.out.2⟩
end Go.Proofs.Ytbaclcpnnompnaa
