/- Print of regex. -/
import Derived.Test.YteaaijhppmkfeaaGreatDoorRIss
import Derived.Test.YteaaijhppmkfeaaGreatDoorRWrt
namespace Go.Proofs.YteaaijhppmkfeaaGreatDoor
open Go.RowKit Go.Shelf
open E (T)
attribute [local go_sem] Oper.semAt_some
namespace E
theorem NodeOk.txt {t : T} (h : NodeOk t) : (t.kind = 1 → t.set.length ≤ 1000 ∧ ∀ r ∈ t.set, 0 ≤ r.1 ∧ r.1 ≤ 1114111 ∧ 0 ≤ r.2 ∧ r.2 ≤ 1114111) ∧ t.kids.length ≤ 1000000 := by
 obtain ⟨h1, h2⟩ := h
 refine ⟨fun hk => ?_, ?_⟩
 · rcases h2 with ⟨_, _, h3, h4⟩ | ⟨h3, _⟩ | ⟨h3, _⟩
   · refine ⟨by omega, fun r hr => ?_⟩
     have := (U.S.good_iff r).1 (h4.good r hr)
     omega
   · omega
   · omega
 · unfold kidsOf at h1
   split at h1
   · omega
   · split at h1 <;> omega
mutual
theorem txtOk_of : ∀ (t : T), (∀ p ∈ pre t t, NodeOk p.1) → TxtOk t
 | .mk k a s n ks, h => by
   rw [TxtOk]
   have h0 := (h (.mk k a s n ks, .mk k a s n ks) (by rw [pre]; exact List.mem_cons_self)).txt
   refine ⟨h0.1, h0.2, txtOks_of ks (fun p hp => h p ?_)⟩
   rw [pre]
   exact List.mem_cons_of_mem _ hp
theorem txtOks_of : ∀ (ts : List T), (∀ p ∈ preK ts ts, NodeOk p.1) → TxtOks ts
 | [], _ => by rw [TxtOks]; trivial
 | t :: ts, h => by
   rw [TxtOks]
   rw [preK] at h
   exact ⟨txtOk_of t (fun p hp => h p (List.mem_append_left _ hp)), txtOks_of ts (fun p hp => h p (List.mem_append_right _ hp))⟩
end
open Classical in
noncomputable def prn (t : T) : List UInt8 := if IsP t then text t else []
end E
set_option maxRecDepth 100000 in
set_option maxHeartbeats 8000000 in
theorem print_any7 (t : T) (d : ND) (w : World) (htab : Tabs w) (hdeb : Deb w) (hT : TR w (fun _ => True) t d.v) (hps : (E.pre t t).length ≤ 1000000) (hnb : ∀ p ∈ E.pre t t, E.NodeB p.1) (hlen : E.IsP t → (E.text t).length ≤ 8000000) :
   Calls Tryz.prog 19 #[d.v] w fun e W' => e = .returned (.string ⟨(E.prn t).toArray⟩) ∧ Below w.heap.size w W' := by
 have a1 := al1 w (.cells #[.int .i64 d.k, .int .i64 d.a, .slice d.sp d.sl d.sc, .string d.n, .slice d.kp d.kl d.kc] 26)
 have n1 := heap_alloc_new w (.cells #[.int .i64 d.k, .int .i64 d.a, .slice d.sp d.sl d.sc, .string d.n, .slice d.kp d.kl d.kc] 26)
 have s1 : (w.alloc (.cells #[.int .i64 d.k, .int .i64 d.a, .slice d.sp d.sl d.sc, .string d.n, .slice d.kp d.kl d.kc] 26)).heap.size = w.heap.size + 1 := by simp
 have his := is_any7 t d _ (htab.later a1) (TR.later (fun k hk => a1.block k hk) _ hT) hps hnb
 unfold ND.v at his
 unfold ND.v
 go_enter Tryz.func19, Tryz.ntmps19
 obtain ⟨X1, hX1⟩ : ∃ X1, w.alloc (.cells #[.int .i64 d.k, .int .i64 d.a, .slice d.sp d.sl d.sc, .string d.n, .slice d.kp d.kl d.kc] 26) = X1 := ⟨_, rfl⟩
 rw [hX1] at a1 n1 s1 his
 obtain ⟨q0, q1, q2, q3, q4⟩ := cells_five n1
 go_wp2_with fail
 refine his.mono ?_
 rintro e X2 ⟨⟨b, rfl, hb⟩, hb2⟩
 have HB := hide hb
 have bw2 := nx a1 hb2
 have m1 := (hb2.block w.heap.size (by omega)).trans n1
 obtain ⟨r0, r1, r2, r3, r4⟩ := cells_five m1
 have z2 := hb2.size
 have htr2 := TR.later (fun k hk => bw2.block k hk) _ hT
 have hdeb2 := hdeb.later bw2
 clear his hb hX1 n1
 cases b with
 | false =>
   have hno : ¬ E.IsP t := fun h => by have := HB.out.2 h; cases this
   have HE : Hid (E.prn t = []) := hide (by unfold E.prn; rw [if_neg hno])
   clear HB hno
   go_wp2
   go_ret
   exact ⟨by rw [HE.out]; rfl, bw2⟩
 | true =>
   have hyes : E.IsP t := HB.out.1 rfl
   have HE : Hid (E.prn t = E.text t) := hide (by unfold E.prn; rw [if_pos hyes])
   have hl := hlen hyes
   have hok := E.txtOk_of t hyes.2
   have a3 := al1 X2 (.cells #[.pointer none, .slice none 0 0] 88)
   have hbd := bd_new X2
   have hwr := write_any t hok X2.heap.size X2.heap.size [] d X2 _ rfl a3 hdeb2 htr2 hbd (Nat.le_refl _) (by simpa using hl)
   have m2 := (a3.block w.heap.size (by omega)).trans m1
   obtain ⟨v0, v1, v2, v3, v4⟩ := cells_five m2
   unfold ND.v at hwr
   rw [List.nil_append] at hwr
   clear HB hyes hbd hok hl
   go_wp2_with fail
   refine hwr.mono ?_
   rintro e X4 ⟨⟨v, rfl⟩, hB4, hb4, _⟩
   have hst := bstr_any X2.heap.size X2.heap.size (E.text t) X4 hB4 hb4.size
   clear hwr
   go_wp2_with fail
   refine hst.mono ?_
   rintro e X5 ⟨rfl, hb5⟩
   clear hst
   go_wp2
   go_ret
   exact ⟨by rw [HE.out]; rfl, bw2.trans ((hb4.trans hb5).mono (by omega))⟩
end Go.Proofs.YteaaijhppmkfeaaGreatDoor
