/- The walk of the statement LatticeFormed. -/
import Derived.Test.YtkaeenholpmpdaaRefFormed
namespace Go.Proofs.Ytkaeenholpmpdaa
open Go.RowKit

set_option maxRecDepth 100000 in
set_option maxHeartbeats 4000000 in
theorem latticeFormed_any (n : Strs) (g : Grid) (s : ByteArray) (w : World) (hn : n.At w) (hg : g.At w) (hs : s.size ≤ 9223372036854775807) :
    Calls Try.prog 3 #[.agg #[.slice n.ao n.len n.cap, .slice g.ao g.len g.cap], .string s] w fun e w' => e = .returned (.bool true) ∧ Below w.heap.size w w' := by
  have B0 := Box2.start w (.slice n.ao n.len n.cap) (.slice g.ao g.len g.cap) 25
  go_enter Try.func3, Try.ntmps3
  go_wp2_with fail
  refine (awake_any _).mono ?_
  rintro e w1 ⟨rfl, hb1⟩
  have B1 := B0.step hb1
  clear hb1 B0
  have c0 := B1.c0
  have c1 := B1.c1
  go_wp2_with fail
  refine (small_any n g _ (hn.kept B1.bl) (hg.kept B1.bl)).mono ?_
  rintro e w2 ⟨rfl, hb2⟩
  have B2 := B1.step hb2
  clear hb2 c0 c1
  cases hsm : smallB n g
  · go_wp2_with fail
    refine (awake_any _).mono ?_
    rintro e w3 ⟨rfl, hb3⟩
    go_wp2
    go_ret
    exact ⟨rfl, (B2.step hb3).bl⟩
  by_cases hlong : 10000 < s.size
  · have dl : decide ((10000 : Int) < s.size) = true := by simp; omega
    go_wp2_with fail
    refine (awake_any _).mono ?_
    rintro e w3 ⟨rfl, hb3⟩
    go_wp2
    go_ret
    exact ⟨rfl, (B2.step hb3).bl⟩
  have dl : decide ((10000 : Int) < s.size) = false := by simp; omega
  have ne : Nonempty (Cls w (.slice n.ao n.len n.cap) (.slice g.ao g.len g.cap)) := ⟨⟨_, B2⟩⟩
  have d0 := fun x : Cls w (.slice n.ao n.len n.cap) (.slice g.ao g.len g.cap) => x.box.c0
  have d1 := fun x : Cls w (.slice n.ao n.len n.cap) (.slice g.ao g.len g.cap) => x.box.c1
  go_wp2
  refine wp_region_cls B2 (by kernel_rfl) (by kernel_rfl) ?_
  repeat (first | go_big_quiet_step ((first
    | (go_at_call 11; exact Calls.cls _ (formed_any n g _ (hn.kept (Cls.box _).bl) (hg.kept (Cls.box _).bl)))
    | (go_at_call 12; exact Calls.cls _ (rformed_any n g _ (hn.kept (Cls.box _).bl) (hg.kept (Cls.box _).bl)))
    | (go_at_call 13; exact Calls.cls _ (name_any s _))
    | (go_at_call 14; exact Calls.cls _ ((rname_any s _ hs).mono (fun _ _ h => ⟨h.1, by rw [h.2]; exact Below.refl _ _⟩))))))
  refine wpQuiet_nil ?_
  rintro w4 ⟨x4, rfl⟩
  have B4 := x4.box
  go_wp2
  go_ret
  exact ⟨rfl, B4.bl⟩
end Go.Proofs.Ytkaeenholpmpdaa
