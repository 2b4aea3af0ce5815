/- square of regex's reader. -/
import Derived.Test.YtemanednddhfaaaGreatDoorItm
namespace Go.Proofs.YtemanednddhfaaaGreatDoor
open Go.RowKit
open E (T tk isS rpt beg)
def AnsN (r : E.Res) (R : Nat) (ao : Option Addr) (cap : Nat) (l : List E.Tok) (o : Nat) (w : World) (e : Ending) (w' : World) : Prop :=
 Kp w.heap.size R w w' ∧ ((∃ t j v, r = .ok (t, j) ∧ e = .returned (.tuple #[v, .int .i64 0]) ∧ TR w' (fun b => w.heap.size ≤ b) t v ∧ Rdr w' R ao cap l j o) ∨
   ∃ (c j : Nat) (d : ND) (o' : Nat), r = .error (c, j) ∧ e = .returned (.tuple #[d.v, .int .i64 (c : Int)]) ∧ (((c : Int) != 0) = true) ∧ Rdr w' R ao cap l j o')
def rdAt (w : World) (R : Nat) : Nat := match w.cell? ⟨R, 1, none⟩ with | some (.int _ n) => n.toNat | _ => 0
theorem Rdr.at_ {w : World} {R : Nat} {ao : Option Addr} {cap : Nat} {l : List E.Tok} {i o : Nat} (h : Rdr w R ao cap l i o) : rdAt w R = i := by
 unfold rdAt
 rw [h.cells.2.1]
 simp
theorem Rdr.below {w W : World} {R n : Nat} {ao : Option Addr} {cap : Nat} {l : List E.Tok} {i o : Nat} (h : Rdr w R ao cap l i o) (hb : Below n w W) (hn : R < n) : Rdr W R ao cap l i o :=
 ⟨(hb.block R hn).trans h.box, fun k hk => by
   obtain ⟨b, off, e, h0, h1, h2, h3⟩ := h.rd k hk
   have hlt := h.lo b off e
   have q : ∀ j, W.cell? ⟨b, j, none⟩ = w.cell? ⟨b, j, none⟩ := fun j => hb.cell (p := ⟨b, j, none⟩) (show b < n by omega)
   exact ⟨b, off, e, by rw [q]; exact h0, by rw [q]; exact h1, by rw [q]; exact h2, by rw [q]; exact h3⟩, h.lo⟩
theorem tr_set {W : World} {ok : Nat → Prop} {sp : Option Addr} {S : E.Rs} (a : Int) (sc : Nat) (hr : U.RdR W sp S) : TR W ok (.mk 1 a S [] []) (.agg #[.int .i64 1, .int .i64 a, .slice sp S.length sc, .string ⟨#[]⟩, .slice none 0 0]) := by
 rw [TR]
 exact ⟨sp, sc, none, 0, rfl, hr, Nat.le_refl _, by rw [KR]; trivial⟩
theorem roomN_noI {W : World} {b : Nat} (h : W.heap[b]? = some roomN) : NoI W b := noI_cells (cs := [_, _, _, _, _]) h rfl
theorem rdr_putN {w : World} {sp : Option Addr} {s : E.Rs} {b : Nat} {v0 v1 v2 v3 v4 : Value} (h : U.RdR w sp s) (hx : NoI w b) : U.RdR (putN w b v0 v1 v2 v3 v4) sp s := rdr_but h (fun _ _ hk => putN_other hk) hx
end Go.Proofs.YtemanednddhfaaaGreatDoor
