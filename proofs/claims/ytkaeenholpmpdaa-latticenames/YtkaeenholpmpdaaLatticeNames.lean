/- Proved: in every formed lattice (of at most 100 names and rows) lattice.Find finds each name and nothing else, lattice.Below lists just what lattice.Leq tells, and lattice.Same tells two lattices alike just where the document's comparing does: the statement LatticeNames returns true at every input and leaves its arguments as they were. Conditions: none beyond the row's own. -/
import Derived.Test.YtkaeenholpmpdaaLawNames
import Derived.Test.YtkaeenholpmpdaaOpen
import Derived.OpenShut
import Derived.ShutString
import Derived.ChangeOld
import Derived.Below
namespace Go.Proofs.Ytkaeenholpmpdaa
open Go.ChangeShapes Go.WideShapes Go.ChangeAt Go.RowKit
open Go.ChangeMaps (open_string shut_string)

theorem latticeNames_any (n : Strs) (g : Grid) (n2 : Strs) (g2 : Grid) (s : ByteArray) (w : World) (hn : n.At w) (hg : g.At w) (hn2 : n2.At w) (hg2 : g2.At w) :
    Calls Try.prog 7 #[.agg #[.slice n.ao n.len n.cap, .slice g.ao g.len g.cap], .agg #[.slice n2.ao n2.len n2.cap, .slice g2.ao g2.len g2.cap], .string s] w fun e w' => e = .returned (.bool true) ∧ Below w.heap.size w w' := by
  cases hF : formedB n g
  · exact latticeNames_nf n g n2 g2 s w hF hn hg hn2 hg2
  · have h0 := hn.nil (formed_parts hF).2.1
    obtain ⟨ao, b, o, len, cap, f⟩ := n
    dsimp only at h0
    subst h0
    exact latticeNames_pos b o len cap f g n2 g2 s w hF hn hg hn2 hg2

set_option maxRecDepth 100000 in
theorem latticeNames_lifted (os : Os) (started : os.Started) (H : Type) (enc : TypeId × Value → H) :
    ReturnsInHanded {} Try.checked os 7 .any (Rows.latticeNamesSpec.pre6 enc Try.prog Try.f7 Rows.latticeNamesRow.domain false) (Rows.latticeNamesSpec.post enc Try.prog Try.f7 false true false false) := by
  refine returnsInHanded_of_change (C := Try.checked) Try.own started (by kernel_rfl) Try.func7
    (ChangeSpec.witness6 (enc := enc) (C := Try.checked) false ⟨#[], #[.agg #[.slice none 0 0, .slice none 0 0], .agg #[.slice none 0 0, .slice none 0 0], .string ⟨#[]⟩], []⟩ 8 (by kernel_rfl) (by kernel_rfl) (by kernel_rfl) (by kernel_rfl)) ?_
  intro W base args ds gs before hval0 hW _ _
  have hval : ∀ (j : Nat) t v, Try.f7.params[j]? = some t → args[j]? = some v → Value.okWide Try.prog W .any base t v := hval0
  have hW' := hW
  obtain ⟨p, q, hA0, hV, rfl, _, _⟩ := hW
  have hA : DataW.TrodAll enc Try.prog W 0 (fun _ => true) true Try.f7.params.toList args.toList ds p := hA0
  rw [Try.params7] at hA hval
  obtain ⟨v0, v1, v2, d0, d1, d2, p0, p1, p2, rfl, rfl, rfl, h0, h1, h2⟩ := trodAll_three hA
  obtain ⟨rfl, rfl⟩ := trodVars_none hV
  have k0 := h0
  have k1 := h1
  have lt0 : ∀ x ∈ p0, x.block < W.heap.size := by obtain ⟨m, hm⟩ := k0; exact DataW.trod_lt m _ _ _ hm
  have lt1 : ∀ x ∈ p1, x.block < W.heap.size := by obtain ⟨m, hm⟩ := k1; exact DataW.trod_lt m _ _ _ hm
  obtain ⟨n, g, rfl, hn, hg⟩ := open_lat (hval 0 25 v0 rfl rfl) h0
  obtain ⟨n2, g2, rfl, hn2, hg2⟩ := open_lat (hval 1 25 v1 rfl rfl) h1
  obtain ⟨s, rfl, rfl, rfl, hs⟩ := open_string Try.underlying9 (hval 2 9 v2 rfl rfl) h2
  clear hA0 hval0
  refine (latticeNames_any n g n2 g2 s W hn hg hn2 hg2).mono fun e W' ⟨he, bel⟩ => ?_
  subst he
  exact ⟨_, rfl, _, _, _, [], _, [], hW', trodAll_mk1 (shut_bool Try.underlying4 _), trodAll_mk3 (Below.trod Try.laidOut (by kernel_rfl) (of_decide_eq_true (by kernel_rfl)) k0 bel lt0) (Below.trod Try.laidOut (by kernel_rfl) (of_decide_eq_true (by kernel_rfl)) k1 bel lt1) (shut_string Try.underlying9 hs), rfl, bel.frame _, fun h => by cases h⟩

theorem latticeNames_holds : Rows.LatticeNamesSaid :=
  OpenClaim.holds_of_wide 7 Try.f7 rfl rfl rfl rfl rfl rfl rfl ⟨rfl, rfl, rfl, rfl, rfl⟩ rfl rfl rfl rfl rfl (by kernel_rfl) Try.func7 (by kernel_rfl)
    (of_decide_eq_true (by kernel_rfl)) (by unfold Func.isWrapper; first | (rw [if_pos (by decide +kernel)]; kernel_rfl) | (rw [if_neg (by decide +kernel)]; exact ⟨rfl, rfl⟩))
    (fun os started H enc _ => latticeNames_lifted os started H enc)
#print axioms latticeNames_holds
end Go.Proofs.Ytkaeenholpmpdaa
