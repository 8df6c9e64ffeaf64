/- Layer 11: operations in memory; Short, fair; the example of the document holds. -/
import Derived.Test.YtbaclcpnnompnaaMdi
import Derived.Test.YtbaclcpnnompnaaGK
import Derived.Lib.SlBytesConst
namespace Go.Proofs.Ytbaclcpnnompnaa
open Go Go.RowKit Med
set_option linter.unusedVariables false
set_option linter.unusedSimpArgs false
/-- The slice value v reads as these operations. -/
def Ols (w : World) (v : Value) (L : List Med.Op) : Prop :=
  ∃ A c, v = .slice A L.length c ∧ (L.length ≤ c ∧ c ≤ maxLen) ∧ (0 < L.length → ∃ b off, A = some ⟨b, off, none⟩ ∧ ∀ k (h : k < L.length), w.cell? ⟨b, off + k * 3, none⟩ = some (.bool L[k].erase) ∧ w.cell? ⟨b, off + k * 3 + 1, none⟩ = some (.int .i64 L[k].pos) ∧ ∃ u, w.cell? ⟨b, off + k * 3 + 2, none⟩ = some u ∧ Bs w u L[k].bytes)
theorem Ols.fw {w w' : World} {v : Value} {L : List Med.Op} (h : Ols w v L) (hb : Below w.heap.size w w') : Ols w' v L := by
  obtain ⟨A, c, rfl, hm, hc⟩ := h
  refine ⟨A, c, rfl, hm, fun hn => ?_⟩
  obtain ⟨b, off, rfl, hq⟩ := hc hn
  refine ⟨b, off, rfl, fun k hk => ?_⟩
  obtain ⟨h0, h1, u, h2, h3⟩ := hq k hk
  exact ⟨ce_fw h0 hb, ce_fw h1 hb, u, ce_fw h2 hb, h3.below hb⟩
theorem Ols.form {w : World} {v : Value} {L : List Med.Op} (h : Ols w v L) : ∃ A c, v = .slice A L.length c := by obtain ⟨A, c, h, _⟩ := h; exact ⟨A, c, h⟩
theorem Ols.len {w : World} {v : Value} {L : List Med.Op} (h : Ols w v L) : L.length ≤ 9223372036854775807 := by
  obtain ⟨A, c, _, hm, _⟩ := h
  have : maxLen ≤ 9223372036854775807 := by decide
  omega
/-- An operation's value. -/
def opV (o : Med.Op) (u : Value) : Value := .agg #[.bool o.erase, .int .i64 o.pos, u]
theorem Ols.nth {w : World} {A : Option Addr} {n c : Nat} {L : List Med.Op} (h : Ols w (.slice A n c) L) {k : Nat} (hk : k < n) : ∃ b off u, ∃ hk2 : k < L.length, A = some ⟨b, off, none⟩ ∧ w.cell? ⟨b, off + k * 3, none⟩ = some (.bool L[k].erase) ∧ w.cell? ⟨b, off + k * 3 + 1, none⟩ = some (.int .i64 L[k].pos) ∧ w.cell? ⟨b, off + k * 3 + 2, none⟩ = some u ∧ Bs w u L[k].bytes := by
  obtain ⟨A', c', e, -, hc⟩ := h
  injection e with e1 e2 e3
  obtain ⟨b, off, h1, h2⟩ := hc (by omega)
  obtain ⟨h3, h4, u, h5, h6⟩ := h2 k (by omega)
  exact ⟨b, off, u, by omega, by rw [e1, h1], h3, h4, h5, h6⟩
theorem op_rng {w : World} {b off k : Nat} {e : Bool} {p : Int} {u : Value} (h0 : w.cell? ⟨b, off + k * 3, none⟩ = some (.bool e)) (h1 : w.cell? ⟨b, off + k * 3 + 1, none⟩ = some (.int .i64 p)) (h2 : w.cell? ⟨b, off + k * 3 + 2, none⟩ = some u) : w.rangeAt b (off + k * 3) [.bool e, .int .i64 p, u] := fun j v hv => by
  match j, hv with
  | 0, hv => simp at hv; subst hv; exact h0
  | 1, hv => simp at hv; subst hv; exact h1
  | 2, hv => simp at hv; subst hv; exact h2
  | j + 3, hv => simp at hv
/-- 'string(b)'. -/
theorem cvb {w : World} (A : Option Addr) (n c : Nat) (l : List Nat) (h : Bs w (.slice A n c) l) : (convert 36 9 (.slice A n c)).run Try.prog w = .ok (.string (strOf l)) w :=
  conv_bs (P := Try.prog) 36 5 9 Try.underlying36 Try.underlying5 Try.underlying9 h
/-- A truth value is returned, and nothing changes. -/
def boPost (w : World) (e : Ending) (w' : World) : Prop := ∃ b : Bool, e = .returned (.bool b) ∧ w = w'
set_option maxHeartbeats 2000000 in
set_option maxRecDepth 100000 in
theorem short_any (v : Value) (L : List Med.Op) (w : World) (h : Ols w v L) : Calls Try.prog 27 #[v] w (boPost w) := by
  have HL := Lib.hid h.len
  obtain ⟨A, c, rfl⟩ := h.form
  have HO := Lib.hid h
  clear h
  generalize L.length = n at *
  by_cases h60 : 60 < n
  · have d0 : decide ((60 : Int) < (n : Int)) = true := decide_eq_true (by omega)
    go_enter Try.func27, Try.ntmps27
    go_wp2_with fail
    go_ret
    exact ⟨_, rfl, rfl⟩
  · have d0 : decide ((60 : Int) < (n : Int)) = false := decide_eq_false (by omega)
    go_enter Try.func27, Try.ntmps27
    go_wp2_with fail
    go_loopw [3] (fun i wr => ∃ k : Nat, k ≤ n ∧ i = .int .i64 (k : Int) ∧ wr = w) (fun i _ => n - (intOf i).toNat)
    case atStart => exact ⟨0, Nat.zero_le _, rfl, rfl⟩
    case round =>
      obtain ⟨k, hk, rfl, rfl⟩ := hrel
      by_cases hlt : k < n
      · have kI : (k : Int) < (n : Int) := by omega
        obtain ⟨b, off, u, hk2, rfl, h0, h1, h2, h3⟩ := HO.out.nth hlt
        obtain ⟨A3, c3, rfl⟩ := h3.form
        clear h3
        obtain ⟨m, hm⟩ : ∃ m, L[k].bytes.length = m := ⟨_, rfl⟩
        rw [hm] at h2
        clear hm h0 h1
        by_cases h100 : 100 < m
        · have d1 : decide ((100 : Int) < (m : Int)) = true := decide_eq_true (by omega)
          go_wp2_with fail
          go_ret
          exact ⟨_, rfl, rfl⟩
        · have d1 : decide ((100 : Int) < (m : Int)) = false := decide_eq_false (by omega)
          go_wp2_with fail
          go_roundw
          case rel => exact ⟨k + 1, by omega, by go_num, by trivial⟩
          case measure => simp [intOf]; omega
      · obtain rfl : k = n := by omega
        have kI : ¬ (k : Int) < (k : Int) := by omega
        have dk : decide ((k : Int) < (k : Int)) = false := decide_eq_false kI
        go_wp2_with fail
        go_ret
        exact ⟨_, rfl, rfl⟩
/-- Whether a geometry is small. -/
def Geo.fair (r b t s o : Int) : Prop := Geo.GV r b t s o ∧ Geo.size r b t s o ≤ 200
instance (r b t s o : Int) : Decidable (Geo.fair r b t s o) := by unfold Geo.fair; infer_instance
theorem bs_lit (w : World) (t : TypeId) (fr : Nat × Nat) (x : Nat) (hx : x < 256) : Bs (w.alloc (.cells #[.int .u8 (x : Int)] t fr)) (.slice (some ⟨w.heap.size, 0, none⟩) 1 1) [x] :=
  ⟨_, 1, rfl, ⟨Nat.le_refl _, by decide⟩, by simpa using hx, fun h => (by cases h), fun _ => ⟨w.heap.size, 0, rfl, fun k hk => by
    rw [Nat.zero_add, cell_of_row _ _ _ _ _ _ (heap_alloc_new w _)]
    obtain rfl : k = 0 := by simpa using hk
    rfl⟩⟩
def exL1 : List Sec := wr (Geo.shadow 0 1 2 2 1 2) (List.replicate 4 Med.blank) 2 1 (strOf [120])
def exL2 : List Sec := wr (Geo.shadow 0 1 2 2 1 0) exL1 0 1 (strOf [121])
theorem ex_e1 : wrE (List.replicate 4 Med.blank) 2 1 = 0 := by decide +kernel
theorem ex_e2 : wrE exL1 0 1 = 0 := by decide +kernel
theorem ex_r : rdE exL2 0 = 0 ∧ rdB exL2 0 = strOf [121] ∧ st exL2 0 = 1 ∧ st exL2 1 = 0 ∧ st exL2 2 = 2 := by decide +kernel
theorem ex_s : strOf [121] = ⟨#[121]⟩ := by decide +kernel
end Go.Proofs.Ytbaclcpnnompnaa

