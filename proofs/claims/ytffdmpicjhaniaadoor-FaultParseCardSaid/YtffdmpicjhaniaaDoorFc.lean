/- Layer 13: contracts of the reference: begins, word, number. -/
import Derived.Test.YtffdmpicjhaniaaDoorFb
import Derived.Test.YtffdmpicjhaniaaDoorProg
namespace Go.Proofs.YtffdmpicjhaniaaDoor
open Go Go.RowKit Flt
set_option linter.unusedVariables false
set_option linter.unusedSimpArgs false
/-- A value is returned, and nothing changes. -/
def kPost (v : Value) (w : World) (e : Ending) (w' : World) : Prop := e = .returned v ∧ w = w'
set_option maxHeartbeats 2000000 in
set_option maxRecDepth 100000 in
theorem rbg_any (a b : List Nat) (ha : By a) (hb : By b) (la : a.length ≤ 9223372036854775807) (lb : b.length ≤ 9223372036854775807) (w : World) : Calls Tryd.prog 31 #[.string (strOf a), .string (strOf b)] w (kPost (.bool (b.isPrefixOf a)) w) := by
  have R := Lib.hid (after_take b a)
  obtain ⟨s, hs⟩ : ∃ s, strOf a = s := ⟨_, rfl⟩
  obtain ⟨t, ht⟩ : ∃ s, strOf b = s := ⟨_, rfl⟩
  have zs : s.size = a.length := by rw [← hs, strOf_sz]
  have zt : t.size = b.length := by rw [← ht, strOf_sz]
  generalize b.isPrefixOf a = q at *
  by_cases h : b.length ≤ a.length
  · have sl := fun w => sx_to (P := Tryd.prog) Tryd.underlying9 w (l := a) h
    have eq : ((strOf (a.take b.length)).toList == t.toList) = decide (a.take b.length = b) := by rw [← ht]; exact strOf_eq _ _ (ha.take _) hb
    obtain ⟨s2, hs2⟩ : ∃ s, strOf (a.take b.length) = s := ⟨_, rfl⟩
    rw [hs2] at sl eq
    rw [hs] at sl ⊢
    rw [ht]
    have Q : Hid (decide (a.take b.length = b) = q) := Lib.hid (by rw [R.out, decide_eq_true h]; rfl)
    generalize decide (a.take b.length = b) = q2 at *
    clear R ha hb hs ht hs2
    obtain ⟨m, hm⟩ : ∃ m, a.length = m := ⟨_, rfl⟩
    obtain ⟨n, hn⟩ : ∃ m, b.length = m := ⟨_, rfl⟩
    rw [hm] at zs la h
    rw [hn] at zt lb h sl
    have hI : (n : Int) ≤ (m : Int) := by omega
    clear hm hn
    go_enter Tryd.func31, Tryd.ntmps31
    go_wp2_with fail
    go_ret
    exact ⟨by rw [← Q.out]; rfl, rfl⟩
  · have Q : Hid (false = q) := Lib.hid (by rw [R.out, decide_eq_false h]; rfl)
    rw [hs, ht]
    clear R ha hb hs ht
    obtain ⟨m, hm⟩ : ∃ m, a.length = m := ⟨_, rfl⟩
    obtain ⟨n, hn⟩ : ∃ m, b.length = m := ⟨_, rfl⟩
    rw [hm] at zs la h
    rw [hn] at zt lb h
    have hI : ¬ (n : Int) ≤ (m : Int) := by omega
    have hd : decide ((n : Int) ≤ (m : Int)) = false := decide_eq_false hI
    clear hm hn
    go_enter Tryd.func31, Tryd.ntmps31
    go_wp2_with fail
    go_ret
    exact ⟨by rw [← Q.out]; rfl, rfl⟩
theorem word_str {l : List Nat} {a : ByteArray} (h : a.data.toList = l.map UInt8.ofNat) : strOf l = a := str_eq ((strOf_dat _).trans h.symm)
set_option maxHeartbeats 2000000 in
set_option maxRecDepth 100000 in
theorem rwo_any (k : Int) (h1 : 1 ≤ k) (h2 : k ≤ 7) (w : World) : Calls Tryd.prog 36 #[.int .i64 k] w (kPost (.string (strOf (word k))) w) := by
  rcases (by omega : k = 1 ∨ k = 2 ∨ k = 3 ∨ k = 4 ∨ k = 5 ∨ k = 6 ∨ k = 7) with rfl | rfl | rfl | rfl | rfl | rfl | rfl
  · have x : ∀ w : World, (Instr.index 51 (.agg #[.string ⟨#[]⟩, .string ⟨#[100, 114, 111, 112]⟩, .string ⟨#[116, 101, 97, 114]⟩, .string ⟨#[115, 116, 114, 97, 121]⟩, .string ⟨#[102, 97, 105, 108]⟩, .string ⟨#[111, 116, 104, 101, 114]⟩, .string ⟨#[115, 108, 111, 119]⟩, .string ⟨#[100, 105, 101]⟩]) (.int .i64 1)).run Tryd.prog w = .ok (.string ⟨#[100, 114, 111, 112]⟩) w := fun _ => by kernel_rfl
    rw [word_str (l := word 1) (a := ⟨#[100, 114, 111, 112]⟩) (by decide)]
    go_enter Tryd.func36, Tryd.ntmps36
    go_wp2_with fail
    go_ret
    exact ⟨rfl, rfl⟩
  · have x : ∀ w : World, (Instr.index 51 (.agg #[.string ⟨#[]⟩, .string ⟨#[100, 114, 111, 112]⟩, .string ⟨#[116, 101, 97, 114]⟩, .string ⟨#[115, 116, 114, 97, 121]⟩, .string ⟨#[102, 97, 105, 108]⟩, .string ⟨#[111, 116, 104, 101, 114]⟩, .string ⟨#[115, 108, 111, 119]⟩, .string ⟨#[100, 105, 101]⟩]) (.int .i64 2)).run Tryd.prog w = .ok (.string ⟨#[116, 101, 97, 114]⟩) w := fun _ => by kernel_rfl
    rw [word_str (l := word 2) (a := ⟨#[116, 101, 97, 114]⟩) (by decide)]
    go_enter Tryd.func36, Tryd.ntmps36
    go_wp2_with fail
    go_ret
    exact ⟨rfl, rfl⟩
  · have x : ∀ w : World, (Instr.index 51 (.agg #[.string ⟨#[]⟩, .string ⟨#[100, 114, 111, 112]⟩, .string ⟨#[116, 101, 97, 114]⟩, .string ⟨#[115, 116, 114, 97, 121]⟩, .string ⟨#[102, 97, 105, 108]⟩, .string ⟨#[111, 116, 104, 101, 114]⟩, .string ⟨#[115, 108, 111, 119]⟩, .string ⟨#[100, 105, 101]⟩]) (.int .i64 3)).run Tryd.prog w = .ok (.string ⟨#[115, 116, 114, 97, 121]⟩) w := fun _ => by kernel_rfl
    rw [word_str (l := word 3) (a := ⟨#[115, 116, 114, 97, 121]⟩) (by decide)]
    go_enter Tryd.func36, Tryd.ntmps36
    go_wp2_with fail
    go_ret
    exact ⟨rfl, rfl⟩
  · have x : ∀ w : World, (Instr.index 51 (.agg #[.string ⟨#[]⟩, .string ⟨#[100, 114, 111, 112]⟩, .string ⟨#[116, 101, 97, 114]⟩, .string ⟨#[115, 116, 114, 97, 121]⟩, .string ⟨#[102, 97, 105, 108]⟩, .string ⟨#[111, 116, 104, 101, 114]⟩, .string ⟨#[115, 108, 111, 119]⟩, .string ⟨#[100, 105, 101]⟩]) (.int .i64 4)).run Tryd.prog w = .ok (.string ⟨#[102, 97, 105, 108]⟩) w := fun _ => by kernel_rfl
    rw [word_str (l := word 4) (a := ⟨#[102, 97, 105, 108]⟩) (by decide)]
    go_enter Tryd.func36, Tryd.ntmps36
    go_wp2_with fail
    go_ret
    exact ⟨rfl, rfl⟩
  · have x : ∀ w : World, (Instr.index 51 (.agg #[.string ⟨#[]⟩, .string ⟨#[100, 114, 111, 112]⟩, .string ⟨#[116, 101, 97, 114]⟩, .string ⟨#[115, 116, 114, 97, 121]⟩, .string ⟨#[102, 97, 105, 108]⟩, .string ⟨#[111, 116, 104, 101, 114]⟩, .string ⟨#[115, 108, 111, 119]⟩, .string ⟨#[100, 105, 101]⟩]) (.int .i64 5)).run Tryd.prog w = .ok (.string ⟨#[111, 116, 104, 101, 114]⟩) w := fun _ => by kernel_rfl
    rw [word_str (l := word 5) (a := ⟨#[111, 116, 104, 101, 114]⟩) (by decide)]
    go_enter Tryd.func36, Tryd.ntmps36
    go_wp2_with fail
    go_ret
    exact ⟨rfl, rfl⟩
  · have x : ∀ w : World, (Instr.index 51 (.agg #[.string ⟨#[]⟩, .string ⟨#[100, 114, 111, 112]⟩, .string ⟨#[116, 101, 97, 114]⟩, .string ⟨#[115, 116, 114, 97, 121]⟩, .string ⟨#[102, 97, 105, 108]⟩, .string ⟨#[111, 116, 104, 101, 114]⟩, .string ⟨#[115, 108, 111, 119]⟩, .string ⟨#[100, 105, 101]⟩]) (.int .i64 6)).run Tryd.prog w = .ok (.string ⟨#[115, 108, 111, 119]⟩) w := fun _ => by kernel_rfl
    rw [word_str (l := word 6) (a := ⟨#[115, 108, 111, 119]⟩) (by decide)]
    go_enter Tryd.func36, Tryd.ntmps36
    go_wp2_with fail
    go_ret
    exact ⟨rfl, rfl⟩
  · have x : ∀ w : World, (Instr.index 51 (.agg #[.string ⟨#[]⟩, .string ⟨#[100, 114, 111, 112]⟩, .string ⟨#[116, 101, 97, 114]⟩, .string ⟨#[115, 116, 114, 97, 121]⟩, .string ⟨#[102, 97, 105, 108]⟩, .string ⟨#[111, 116, 104, 101, 114]⟩, .string ⟨#[115, 108, 111, 119]⟩, .string ⟨#[100, 105, 101]⟩]) (.int .i64 7)).run Tryd.prog w = .ok (.string ⟨#[100, 105, 101]⟩) w := fun _ => by kernel_rfl
    rw [word_str (l := word 7) (a := ⟨#[100, 105, 101]⟩) (by decide)]
    go_enter Tryd.func36, Tryd.ntmps36
    go_wp2_with fail
    go_ret
    exact ⟨rfl, rfl⟩
/-- A number and a text are returned, and nothing changes. -/
def nuPost (n : Int) (s : List Nat) (w : World) (e : Ending) (w' : World) : Prop := e = .returned (.tuple #[.int .i64 n, .string (strOf s)]) ∧ w = w'
theorem results_two {fn : Func} {t u : Tmp} (h : fn.results = #[.tmp t, .tmp u]) (tmps : Array Value) (P : Program) (w : World) :
    (results fn tmps).run P w = .ok (.tuple #[tmps.getD t undef, tmps.getD u undef]) w := by
  simp [results, h]
set_option maxHeartbeats 4000000 in
set_option maxRecDepth 100000 in
theorem rnum_any (l : List Nat) (hl : By l) (ll : l.length ≤ 9223372036854775807) (w : World) : Calls Tryd.prog 41 #[.string (strOf l)] w (nuPost (rdN 0 l).1 (rdN 0 l).2 w) := by
  have LL := Lib.hid ll
  have HL := Lib.hid hl
  clear ll hl
  obtain ⟨s0, hs0⟩ : ∃ s, strOf l = s := ⟨_, rfl⟩
  have E0 := Lib.hid hs0
  rw [hs0]
  clear hs0
  go_enter Tryd.func41, Tryd.ntmps41
  go_wp2_with fail
  go_loopw [0, 4] (fun sv nv wr => ∃ (n : Int) (r : List Nat) (s : ByteArray), sv = .string s ∧ nv = .int .i64 n ∧ wr = w ∧ Hid (strOf r = s ∧ By r ∧ r.length ≤ 9223372036854775807 ∧ rdN n r = rdN 0 l)) (fun sv _ _ => (match sv with | .string s => s.size | _ => 0))
  case atStart => exact ⟨0, l, s0, rfl, rfl, rfl, Lib.hid ⟨E0.out, HL.out, LL.out, rfl⟩⟩
  case round =>
    obtain ⟨n, r, s, rfl, rfl, rfl, V⟩ := hrel
    have zs : s.size = r.length := by rw [← V.out.1, strOf_sz]
    cases r with
    | nil =>
      have z0 : s.size = 0 := zs
      have e0 : s = strOf [] := V.out.1.symm
      have EV := Lib.hid V.out.2.2.2
      clear V zs
      go_wp2_with fail
      refine bodyPost_ret (results_two rfl _ _ _) rfl ?_
      exact ⟨by rw [← EV.out]; rfl, rfl⟩
    | cons c r =>
      obtain ⟨V1, V2, V3, V4⟩ := V.out
      have hx : ∀ w, (Instr.index 9 (.string s) (.int .i64 0)).run Tryd.prog w = .ok (.int .u8 (c : Int)) w := fun w => by
        rw [← V1]; exact sx_at (P := Tryd.prog) Tryd.underlying9 w (l := c :: r) V2 (k := 0) (by simp)
      have hf : ∀ w, (Instr.slice 9 (.string s) (some (.int .i64 1)) none none).run Tryd.prog w = .ok (.string (strOf r)) w := fun w => by
        rw [← V1]; exact sx_from (P := Tryd.prog) Tryd.underlying9 w (l := c :: r) (k := 1) (by simp)
      obtain ⟨s2, hs2⟩ : ∃ s, strOf r = s := ⟨_, rfl⟩
      rw [hs2] at hf
      have zp : (0 : Int) < (s.size : Int) := by rw [zs]; simp
      have z2 : s2.size < s.size := by rw [zs, ← hs2, strOf_sz]; simp
      have hc : c < 256 := V2 c List.mem_cons_self
      have ES := Lib.hid hs2
      have E1 := Lib.hid V1
      have HB := Lib.hid V2.tail
      have HLn := Lib.hid (show r.length ≤ 9223372036854775807 by simp at V3; omega)
      have EV := Lib.hid V4
      clear V V1 V2 V3 V4 hs2 zs
      by_cases h48 : 48 ≤ c
      · have c48 : (48 : Int) ≤ (c : Int) := by omega
        by_cases h57 : c ≤ 57
        · have c57 : (c : Int) ≤ 57 := by omega
          have EX : Hid (rdN (wrap64 (wrap64 (n * 10) + ((c : Int) - 48))) r = rdN n (c :: r)) := Lib.hid (by rw [rdN, if_pos (by unfold isDig; simp; omega)])
          go_wp2_with fail
          go_roundw
          case rel => exact ⟨_, r, s2, rfl, rfl, by trivial, Lib.hid ⟨ES.out, HB.out, HLn.out, by rw [← EV.out, ← EX.out]⟩⟩
          case measure => exact z2
        · have c57 : ¬ (c : Int) ≤ 57 := by omega
          have d57 : decide ((c : Int) ≤ 57) = false := decide_eq_false c57
          have EX : Hid (rdN n (c :: r) = (n, c :: r)) := Lib.hid (by rw [rdN, if_neg (by unfold isDig; simp; omega)])
          clear hf z2
          go_wp2_with fail
          refine bodyPost_ret (results_two rfl _ _ _) rfl ?_
          exact ⟨by rw [← EV.out, EX.out, E1.out]; rfl, rfl⟩
      · have c48 : ¬ (48 : Int) ≤ (c : Int) := by omega
        have d48 : decide ((48 : Int) ≤ (c : Int)) = false := decide_eq_false c48
        have EX : Hid (rdN n (c :: r) = (n, c :: r)) := Lib.hid (by rw [rdN, if_neg (by unfold isDig; simp; omega)])
        clear hf z2
        go_wp2_with fail
        refine bodyPost_ret (results_two rfl _ _ _) rfl ?_
        exact ⟨by rw [← EV.out, EX.out, E1.out]; rfl, rfl⟩
end Go.Proofs.YtffdmpicjhaniaaDoor
