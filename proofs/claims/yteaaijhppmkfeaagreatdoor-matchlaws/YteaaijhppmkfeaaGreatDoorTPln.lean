/- Expressions without variables: isPlain of match. -/
import Derived.Test.YteaaijhppmkfeaaGreatDoorTNml
import Derived.Test.YteaaijhppmkfeaaGreatDoorTIss
import Derived.Test.YteaaijhppmkfeaaGreatDoorTLns
namespace Go.Proofs.YteaaijhppmkfeaaGreatDoor
open Go.RowKit Go.Shelf
open E (Ps Rx T rxOf Vp)
attribute [local go_sem] Oper.semAt_some
namespace E
def PlainP (t : T) : Prop := IsP t ∧ vnk (pre t t) = []
theorem compact_nil {l : List (List UInt8)} : (Go.Lib.compact l).length = 0 ↔ l = [] := by
 constructor
 · intro h
   cases l with
   | nil => rfl
   | cons a l =>
     exfalso
     unfold Go.Lib.compact Go.Lib.compactUpTo at h
     rw [List.length_map, List.length_eq_zero_iff, List.filter_eq_nil_iff] at h
     exact h 0 (List.mem_range.2 (by simp)) (Go.Lib.keeps_lt_one _ 0 (by omega))
 · rintro rfl
   have := Go.Lib.compact_length_le ([] : List (List UInt8))
   simpa using this
theorem nmL_nil (t : T) : (nmL t).length = 0 ↔ vnk (pre t t) = [] := by
 unfold nmL
 rw [compact_nil]
 constructor
 · intro h
   have := congrArg List.length h
   rw [List.length_mergeSort] at this
   exact List.eq_nil_of_length_eq_zero this
 · intro h; rw [h]; simp
theorem vp_of : ∀ (t : T), (∀ p ∈ pre t t, NodeOk p.1) → vnk (pre t t) = [] → Vp t
 | .mk k a s n ks, h, hv => by
   have h0 : NodeOk (.mk k a s n ks) := h (.mk k a s n ks, .mk k a s n ks) (by rw [pre_eq]; simp)
   have hk2 : k ≠ 2 := by
     rintro rfl
     rw [pre_eq] at hv
     simp [vnk, T.kind] at hv
   have hkids : ∀ p ∈ preK ks ks, NodeOk p.1 := fun p hp => h p (by rw [pre_eq]; exact List.mem_cons_of_mem _ hp)
   have hvk : vnk (preK ks ks) = [] := by
     rw [pre_eq] at hv
     simpa [vnk, T.kind, T.kids, hk2] using hv
   obtain ⟨h1, h2⟩ := h0
   simp only [T.kids, T.kind, T.name, T.set] at h1 h2
   match ks, h1, hkids, hvk with
   | [], h1, _, _ =>
     rw [Vp]
     rcases h2 with ⟨e, _, hl, _⟩ | ⟨e, _⟩ | ⟨e1, e2, e3, _⟩
     · exact ⟨.inl e, by omega⟩
     · exact absurd e hk2
     · refine ⟨.inr ?_, by rw [e3]; simp⟩
       unfold kidsOf at h1
       simp at h1
       split at h1 <;> first | omega | (split at h1 <;> omega)
   | [x], h1, hkids, hvk =>
     rw [Vp]
     refine ⟨?_, vp_of x (fun p hp => hkids p (by rw [preK_cons]; exact List.mem_append_left _ hp)) ?_⟩
     · unfold kidsOf at h1
       simp at h1
       split at h1 <;> first | omega | (split at h1 <;> omega)
     · rw [preK_cons, preK_nil, List.append_nil] at hvk
       exact hvk
   | [x, y], h1, hkids, hvk =>
     rw [Vp]
     have hvs : vnk (pre x x) = [] ∧ vnk (pre y y) = [] := by
       rw [preK_cons, preK_cons, preK_nil, List.append_nil] at hvk
       unfold vnk at hvk ⊢
       rw [List.filter_append, List.map_append, List.append_eq_nil_iff] at hvk
       exact hvk
     refine ⟨?_, vp_of x (fun p hp => hkids p (by rw [preK_cons]; exact List.mem_append_left _ hp)) hvs.1, vp_of y (fun p hp => hkids p (by rw [preK_cons, preK_cons]; exact List.mem_append_right _ (List.mem_append_left _ hp))) hvs.2⟩
     unfold kidsOf at h1
     simp at h1
     split at h1 <;> first | omega | (split at h1 <;> omega)
   | x :: y :: z :: r, h1, _, _ =>
     exfalso
     unfold kidsOf at h1
     simp only [List.length_cons] at h1
     split at h1 <;> first | omega | (split at h1 <;> omega)
theorem PlainP.vp {t : T} (h : PlainP t) : Vp t := vp_of t h.1.2 h.2
theorem IsP.names {t : T} (h : IsP t) : ∀ p ∈ pre t t, p.1.name.length ≤ 100000 := by
 intro p hp
 rcases (h.2 p hp).2 with ⟨_, e, _⟩ | ⟨_, _, e⟩ | ⟨_, _, _, e⟩
 · rw [e]; simp
 · unfold nameP at e
   simp only [Bool.and_eq_true, decide_eq_true_eq] at e
   omega
 · rw [e]; simp
end E
set_option maxRecDepth 100000 in
set_option maxHeartbeats 1000000 in
theorem plain_any (t : T) (d : ND) (w : World) (htab : Tabs w) (hT : TR w (fun _ => True) t d.v) (hps : (E.pre t t).length ≤ 1000000) (hnb : ∀ p ∈ E.pre t t, E.NodeB p.1) :
   Calls Tryz.prog 64 #[d.v] w fun e W' => U.Told (E.PlainP t) e ∧ Below w.heap.size w W' := by
 have a1 := al1 w (.cells #[.int .i64 d.k, .int .i64 d.a, .slice d.sp d.sl d.sc, .string d.n, .slice d.kp d.kl d.kc] 26)
 have n1 := heap_alloc_new w (.cells #[.int .i64 d.k, .int .i64 d.a, .slice d.sp d.sl d.sc, .string d.n, .slice d.kp d.kl d.kc] 26)
 have h1 := is_any7 t d _ (htab.later a1) (TR.later (fun k hk => a1.block k hk) _ hT) hps hnb
 have HT := hide hT
 clear hT
 unfold ND.v at h1 ⊢
 go_enter Tryz.func64, Tryz.ntmps64
 go_wp2_with fail
 refine h1.mono ?_
 rintro e W1 ⟨⟨b, rfl, hb⟩, hb1⟩
 have b1 := nx a1 hb1
 have z0 : (w.alloc (.cells #[.int .i64 d.k, .int .i64 d.a, .slice d.sp d.sl d.sc, .string d.n, .slice d.kp d.kl d.kc] 26)).heap.size = w.heap.size + 1 := by simp
 have m1 := (hb1.block w.heap.size (by omega)).trans n1
 obtain ⟨q0, q1, q2, q3, q4⟩ := cells_five m1
 have HB := hide hb
 clear h1 hb n1 m1
 cases b with
 | true =>
   have hI := HB.out.1 rfl
   have h2 := names_any t d W1 (TR.later (fun k hk => b1.block k hk) _ HT.out) hps hI.names
   unfold ND.v at h2
   have HI := hide hI
   clear hI HB
   go_wp2_with fail
   refine h2.mono ?_
   rintro e W2 ⟨u, rfl, ho, hb2⟩
   obtain ⟨ao, cap, rfl⟩ : ∃ ao cap, u = .slice ao (E.nmL t).length cap := by
     obtain ⟨_, ⟨e, h⟩ | ⟨g, cap, cur, e, _⟩⟩ := ho
     · exact ⟨none, 0, by rw [e, h]⟩
     · exact ⟨_, _, e⟩
   have b2 := nx b1 hb2
   have HN := hide (E.nmL_nil t)
   clear h2 ho hb2 q0 q1 q2 q3 q4
   generalize (E.nmL t).length = n at *
   go_wp2
   go_ret
   refine ⟨?_, b2⟩
   refine ⟨_, rfl, ?_⟩
   have := HN.out
   unfold E.PlainP
   simp only [HI.out, true_and, ← this]
   simp
 | false =>
   have hI : ¬ E.IsP t := fun h => by have := HB.out.2 h; cases this
   have HI := hide hI
   clear HB hI
   go_wp2
   go_ret
   exact ⟨U.told_no (fun h => HI.out h.1), b1⟩
end Go.Proofs.YteaaijhppmkfeaaGreatDoor
