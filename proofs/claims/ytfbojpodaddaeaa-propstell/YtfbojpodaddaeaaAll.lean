/- all: the iterator over the names. -/
import Derived.Test.YtfbojpodaddaeaaNms
namespace Go.Proofs.Ytfbojpodaddaeaa
open Go.RowKit Go.Shelf
attribute [local go_sem] Oper.semAt_some

/-- The names, byte by byte. -/
def nm : List ByteArray := [⟨#[65, 110, 121]⟩, ⟨#[68, 105, 103, 105, 116]⟩, ⟨#[69, 109, 111, 106, 105]⟩, ⟨#[72, 97, 110]⟩, ⟨#[75, 97, 110, 97]⟩, ⟨#[76, 101, 116, 116, 101, 114]⟩, ⟨#[76, 111, 119, 101, 114]⟩, ⟨#[77, 97, 114, 107]⟩, ⟨#[80, 117, 110, 99, 116]⟩, ⟨#[83, 112, 97, 99, 101]⟩, ⟨#[85, 112, 112, 101, 114]⟩]

/-- The names as one value. -/
def nmV : Value := .agg #[.string ⟨#[65, 110, 121]⟩, .string ⟨#[68, 105, 103, 105, 116]⟩, .string ⟨#[69, 109, 111, 106, 105]⟩, .string ⟨#[72, 97, 110]⟩, .string ⟨#[75, 97, 110, 97]⟩, .string ⟨#[76, 101, 116, 116, 101, 114]⟩, .string ⟨#[76, 111, 119, 101, 114]⟩, .string ⟨#[77, 97, 114, 107]⟩, .string ⟨#[80, 117, 110, 99, 116]⟩, .string ⟨#[83, 112, 97, 99, 101]⟩, .string ⟨#[85, 112, 112, 101, 114]⟩]
theorem idx62 (k : Nat) (hk : k < nm.length) (w : World) : (Instr.index 62 (.agg #[.string ⟨#[65, 110, 121]⟩, .string ⟨#[68, 105, 103, 105, 116]⟩, .string ⟨#[69, 109, 111, 106, 105]⟩, .string ⟨#[72, 97, 110]⟩, .string ⟨#[75, 97, 110, 97]⟩, .string ⟨#[76, 101, 116, 116, 101, 114]⟩, .string ⟨#[76, 111, 119, 101, 114]⟩, .string ⟨#[77, 97, 114, 107]⟩, .string ⟨#[80, 117, 110, 99, 116]⟩, .string ⟨#[83, 112, 97, 99, 101]⟩, .string ⟨#[85, 112, 112, 101, 114]⟩]) (.int .i64 (k : Int))).run Try.prog w = .ok (.string nm[k]) w :=
  match k, hk with
  | 0, _ => by kernel_rfl
  | 1, _ => by kernel_rfl
  | 2, _ => by kernel_rfl
  | 3, _ => by kernel_rfl
  | 4, _ => by kernel_rfl
  | 5, _ => by kernel_rfl
  | 6, _ => by kernel_rfl
  | 7, _ => by kernel_rfl
  | 8, _ => by kernel_rfl
  | 9, _ => by kernel_rfl
  | 10, _ => by kernel_rfl
  | i + 11, h => absurd h (by simp only [nm, List.length_cons, List.length_nil]; omega)

set_option maxRecDepth 100000 in
set_option maxHeartbeats 4000000 in
theorem all1_in (n : Nat) (hn : 1 ≤ n) (l : Nat) (J : Nat → World → Prop)
    (hT : ∀ (s : ByteArray) (w : World), Calls Try.prog 19 #[.string s] w fun e W' => ∃ ao cap, e = .returned (.slice ao (tl s.toList).length cap) ∧ RdR W' ao (tl s.toList) ∧ (ao = none → cap = 0) ∧ Below w.heap.size w W')
    (hgrow : ∀ k A B, J k A → Below A.heap.size A B → J k B)
    (W : World)
    (hY : ∀ k ao cap s W1, J k W1 → (hk : k < nm.length) → Hid (nm[k] = s) → RdR W1 ao (tl s.toList) → YieldAt Fence.wide (n - 1) Try.prog l #[.string s, .slice ao (tl s.toList).length cap] W1 fun e W' => e = .returned (.bool true) ∧ J (k + 1) W')
    (h0 : J 0 W) :
    CallsIn Fence.wide n Try.prog 33 #[.func (.yield l) #[] #[]] W fun e W' => (∃ v, e = .returned v) ∧ J 11 W' := by
  refine callsIn_of_wp Try.func33 rfl trivial ?_ rfl
  simp only [Try.ntmps33, List.size_toArray, List.length_cons, List.length_nil, Nat.reduceAdd, Nat.reduceSub, Array.replicate_succ, Array.replicate_zero, List.push_toArray, List.append_toArray, List.nil_append, List.cons_append]
  gi_wp2
  gi_loopw [7] (fun p wr => ∃ k : Nat, p = .int .i64 (k : Int) ∧ k ≤ 11 ∧ J k wr) (fun p _ => 11 - (intOf p).toNat)
  case atStart => exact ⟨0, rfl, Nat.zero_le _, hgrow _ _ _ h0 (al1 W _)⟩
  case round =>
    obtain ⟨k, rfl, hk, hJ⟩ := hrel
    by_cases hlt : k < 11
    · have hkl : k < nm.length := hlt
      have hix := idx62 k hkl wr
      have hY1 := fun ao cap W1 h => hY k ao cap nm[k] W1 h hkl (hide rfl)
      generalize nm[k] = s at *
      have hti : (k : Int) < 11 := by omega
      have ht := hT s wr
      clear hY h0 hT
      gi_wp2_with (refine ⟨trivial, ?_⟩; gi_at_call 19; refine (callsIn_wide.2 ht).mono ?_; rintro e w2 ⟨ao, cap, rfl, hr2, _, hb2⟩; obtain ⟨fn, tmps, assign, body, hy, hR⟩ := hY1 ao cap w2 (hgrow _ _ _ hJ hb2) hr2; clear hY1 ht hix hgrow)
      refine hR.mono ?_
      rintro e W3 ⟨rfl, hJ3⟩
      clear hR hy
      gi_wp2
      go_roundw
      case rel => exact ⟨k + 1, by go_num, by omega, hJ3⟩
      case measure => simp [intOf]; omega
    · obtain rfl : k = 11 := by omega
      clear hY h0 hT
      gi_wp2
      go_end0
      exact ⟨⟨_, rfl⟩, hJ⟩
end Go.Proofs.Ytfbojpodaddaeaa
