import Derived.Test.YtgiohagjanodmaaK1
import Derived.Test.YtgiohagjanodmaaK2
import Derived.Test.YtgiohagjanodmaaK3
import Derived.Test.YtgiohagjanodmaaA
namespace Go.Proofs.Ytgiohagjanodmaa.W
open Go.RowKit
set_option linter.unusedVariables false

theorem keeps_all (l : List M.Ar) (v : Value) (page pages q c : Int) (wp : (Lit.int .i64 page).wf = true) (wn : (Lit.int .i64 pages).wf = true) (_ : (Lit.int .i64 q).wf = true) (wc : (Lit.int .i64 c).wf = true) (w : World) (h : Has w v l) (hf : AllFit l) :
    Calls Try.prog 5 #[v, .int .i64 page, .int .i64 pages, .int .i64 q, .int .i64 c] w fun e w' => e = .returned (.bool true) ∧ Below w.heap.size w w' := by
  have hp := i64_of _ wp
  have hn := i64_of _ wn
  have hc := i64_of _ wc
  by_cases hr : M.checkN l = 0 ∧ M.pagesB page pages = true
  · have hU := unmap_comes l page pages hr.1 hr.2
    have hpb := (M.pagesB_iff page pages).1 hr.2
    have hpg : 1 ≤ page ∧ page ≤ 255 := by omega
    by_cases hE : (mapN l page pages q).2 = 0
    · exact keeps_map l v page pages q c w h hf hp hn hc hpg hE hU (not_both l page pages q hE)
    · by_cases hG : (protectN l page pages q).2 = 0
      · exact keeps_prot l v page pages q c w h hf hp hn hc hpg hE hU hG
      · exact keeps_un l v page pages q c w h hf hp hn hc hpg hE hU hG
  · exact keeps_none l v page pages q c w h hf hp hn hc (none_comes l page pages q _ hr) (none_comes l page pages 0 _ hr) (none_comes l page pages q _ hr)
end Go.Proofs.Ytgiohagjanodmaa.W
