import Derived.Test.YtkdigjpejnebkaaGreatGS02
import Derived.Test.YtkdigjpejnebkaaGreatGS04
set_option linter.unusedVariables false
set_option maxRecDepth 100000
set_option linter.unusedSimpArgs false
namespace Go.Proofs.YtkdigjpejnebkaaGreat
namespace AW
open Go.RowKit
set_option maxHeartbeats 2000000 in
theorem turn_unmap_own (l : List AM.Ar) (v : Value) (page pages q : Int) (w : World) (h : Has w v l) (hf : AllFit l) (hp : -9223372036854775808 <= page /\ page <= 9223372036854775807) (hn : -9223372036854775808 <= pages /\ pages <= 9223372036854775807) :
  Calls Tryz.prog 143 #[v,.int .i64 page,.int .i64 pages,.int .i64 q,.func (.func 209) #[] #[]] w fun e w'=>∃ r,e = .returned (.tuple #[r,.int .i64 (AM.turnN l page pages q howUnmap).2]) /\ Own w.heap.size w' r (AM.turnN l page pages q howUnmap).1 /\ Below w.heap.size w w':=by
 by_cases hc : AM.checkN l = 0
 · by_cases hpp : AM.pagesB page pages = true
   · by_cases hqq : AM.protB q = true
     · have HT : Hid (AM.turnN l page pages q howUnmap = if AM.errFrom (AM.spreadN l) howUnmap page.toNat pages.toNat = 0 then (AM.gatherN (AM.turned (AM.spreadN l) howUnmap page (page + pages)),0) else ([],AM.errFrom (AM.spreadN l) howUnmap page.toNat pages.toNat)):=by
        show _ = _;simp [AM.turnN,hc,hpp,hqq]
       have hpb:=(AM.pagesB_iff page pages).1 hpp
       obtain ⟨Z,hZ⟩ : ∃ Z,Z = AM.cellsL (fun _=>AM.off):=⟨_,rfl⟩
       have hz:=zv56
       rw [<- hZ] at hz
       have hZs : Z.size = 768:=by rw [hZ];exact AM.cellsL_size _
       clear hZ
       go_enter Tryz.func143,Tryz.ntmps143
       go_wp2_with fail
       refine (check_any l v _ h hf).mono ?_
       rintro e w1 ⟨rfl,hb1⟩
       rw [hc]
       have HC : Hid (AM.checkN l = 0):=hc
       clear hc
       go_wp2_with fail
       refine (rightPages_any _ _ _ hp hn).mono ?_
       rintro e w' ⟨rfl,rfl⟩
       go_wp2_with fail
       refine (rightProt_any _ _).mono ?_
       rintro e w' ⟨rfl,rfl⟩
       go_wp2_with fail
       refine (spread_any l v _ (h.below hb1) HC.out).mono ?_
       rintro e w2 ⟨rfl,hb2⟩
       have HB2 : Hid (Below w.heap.size w w2):=hb1.trans (hb2.mono hb1.size)
       obtain ⟨F,hF⟩ : ∃ F,F = AM.spreadN l:=⟨_,rfl⟩
       rw [<- hF] at HT ⊢
       obtain ⟨C,hC⟩ : ∃ C,C = AM.cellsL F:=⟨_,rfl⟩
       have hCs : C.size = 768:=by rw [hC];exact AM.cellsL_size _
       have HCF : Hid (C = AM.cellsL F):=hC
       rw [<- hC]
       clear hb1 hb2 hF hC hpp hqq
       have hn2 : Hid ((w2.alloc (.cells Z 256)).heap[w2.heap.size]? = some (.cells Z 256 (0,0))):=B.new w2 Z 256
       go_wp2_with (refine wpList_store_row rfl 256 _ _ rfl w2.heap.size C rfl rfl 256 Z hn2.out (by rw [hCs];exact size56) (by rw [hZs,hCs]) (by rw [HCF.out];exact AM.cellsL_one _) ?_)
       have HA0 : Hid (((w2.alloc (.cells Z 256)).setRow w2.heap.size C).heap[w2.heap.size]? = some (.cells C 256 (0,0))):=setRow_heap _ _ _ _ 256 (0,0) hn2.out
       have HB3 : Hid (Below w.heap.size w ((w2.alloc (.cells Z 256)).setRow w2.heap.size C)):=below_setRow (HB2.out.alloc HB2.out.size _) HB2.out.size _
       have hsz2:=HB2.out.size
       go_loopw [14] (fun t wr=>∃ n : Nat,page <= (n : Int) /\ (n : Int) <= page + pages /\ t = .int .i64 n /\ (∀ k : Nat,page.toNat <= k -> k < n -> (howUnmap (F k)).2 = 0) /\ wr.heap[w2.heap.size]? = some (.cells (AM.cellsL (AM.turned F howUnmap page n)) 256 (0,0)) /\ Below w.heap.size w wr) (fun t _=>(page + pages - intOf t).toNat)
       case atStart =>
        refine ⟨page.toNat,by omega,by omega,by rw [Int.toNat_of_nonneg (by omega)],fun k h1 h2=>by omega,?_,HB3.out⟩
        rw [Int.toNat_of_nonneg (by omega),AM.turned_begin,<- HCF.out]
        exact HA0.out
       case round =>
        obtain ⟨n,hn1,hn3,rfl,hno,hA,hb⟩:=hrel
        have HN : Hid (∀ k : Nat,page.toNat <= k -> k < n -> (howUnmap (F k)).2 = 0):=hno
        have HA : Hid (wr.heap[w2.heap.size]? = some (.cells (AM.cellsL (AM.turned F howUnmap page n)) 256 (0,0))):=hA
        have HB : Hid (Below w.heap.size w wr):=hb
        have hAl : w2.heap.size < wr.heap.size:=B.isLt hA
        by_cases hin : (n : Int) < page + pages
        · have z0:=B.cell hA (n * 3) (AM.cellsL_get0 _ n (by omega))
          have z1:=B.cell hA (n * 3 + 1) (AM.cellsL_get1 _ n (by omega))
          have z2:=B.cell hA (n * 3 + 2) (AM.cellsL_get2 _ n (by omega))
          rw [AM.turned_at] at z0 z1 z2
          have hn256 : (n : Int) < 256:=by omega
          clear hno hA hb
          obtain ⟨s,hs⟩ : ∃ s,s = F n:=⟨_,rfl⟩
          rw [<- hs] at z0 z1 z2
          have HS : Hid (s = F n):=hs
          clear hs
          go_wp2_with fail
          refine (unmap1_any s _).mono ?_
          rintro e w3 ⟨rfl,hb3⟩
          have bA:=B.below HA.out hb3 hAl
          have y0:=B.cell bA (n * 3) (AM.cellsL_get0 _ n (by omega))
          have y1:=B.cell bA (n * 3 + 1) (AM.cellsL_get1 _ n (by omega))
          have y2:=B.cell bA (n * 3 + 2) (AM.cellsL_get2 _ n (by omega))
          have yf:=B.free bA
          have HA3 : Hid (w3.heap[w2.heap.size]? = some (.cells (AM.cellsL (AM.turned F howUnmap page n)) 256 (0,0))):=bA
          have HBB : Hid (Below w.heap.size w w3):=HB.out.trans (hb3.mono HB.out.size)
          have hsz3 : w2.heap.size < w3.heap.size:=B.isLt bA
          clear bA hb3 z0 z1 z2
          obtain ⟨r,hr⟩ : ∃ r,r = howUnmap s:=⟨_,rfl⟩
          rw [<- hr]
          have HR : Hid (r = howUnmap s):=hr
          clear hr
          unfold aggSt
          by_cases he : r.2 = 0
          · have he' : (r.2 != 0) = false:=by simp [he]
            have HE : Hid (r.2 = 0):=he
            clear he
            go_wp2
            go_roundw
            case rel =>
             have hset:=B.set (B.set (B.set HA3.out (n * 3) (.bool r.1.m)) (n * 3 + 1) (.int .i64 r.1.p)) (n * 3 + 2) (.bool r.1.z)
             have est:=AM.turned_step F howUnmap page n hn1
             rw [<- HS.out,<- HR.out] at est
             rw [AM.cellsL_set (AM.turned F howUnmap page n) n r.1 (by omega),est] at hset
             refine ⟨n + 1,by omega,by omega,by go_num,fun k h1 h2=>if e : k = n then by rw [e,<- HS.out,<- HR.out];exact HE.out else HN.out k h1 (by omega),?_,?_⟩
             · rw [show ((n + 1 : Nat) : Int) = (n : Int) + 1 from by omega]
               exact B.alloc hset _
             · have hb4:=((HBB.out.setCell (p:=⟨w2.heap.size,n * 3,none⟩) hsz2 (.bool r.1.m)).setCell (p:=⟨w2.heap.size,n * 3 + 1,none⟩) hsz2 (.int .i64 r.1.p)).setCell (p:=⟨w2.heap.size,n * 3 + 2,none⟩) hsz2 (.bool r.1.z)
               exact hb4.alloc hb4.size _
            case measure=>simp [intOf];omega
          · have he' : (r.2 != 0) = true:=by simpa using he
            have HE : Hid (r.2 ≠ 0):=he
            clear he
            have ht : Hid (AM.turnN l page pages q howUnmap = ([],r.2)):=by
             have herr : AM.errFrom F howUnmap page.toNat pages.toNat = r.2:=by
              rw [HR.out,HS.out]
              exact AM.errFrom_at F howUnmap _ _ n (by omega) (by omega) HN.out (by rw [<- HS.out,<- HR.out];exact HE.out)
             show _ = _
             rw [HT.out,herr,if_neg HE.out]
            go_wp2
            go_ret2
            exact ⟨.slice none 0 0,by rw [ht.out];rfl,by rw [ht.out];exact Own.nil _ _,HBB.out.alloc HBB.out.size _⟩
        · have hend : Hid ((n : Int) = page + pages):=by show _ = _;omega
          have ht : Hid (AM.turnN l page pages q howUnmap = (AM.gatherN (AM.turned F howUnmap page n),0)):=by
           have herr : AM.errFrom F howUnmap page.toNat pages.toNat = 0:=AM.errFrom_zero F howUnmap _ _ (fun k h1 h2=>HN.out k h1 (by have:=hend.out;omega))
           show _ = _
           rw [HT.out,herr,if_pos rfl,hend.out]
          clear hno hA hb
          go_wp2_with (refine wpList_load_row rfl 256 _ rfl w2.heap.size rfl 256 _ (0,0) _ HA.out Tryz.underlying256 rfl (by rw [AM.cellsL_size];exact size56) ?_)
          refine (gather_own _ _).mono ?_
          rintro e w4 ⟨r,rfl,hr,hb4⟩
          go_wp2
          go_ret2
          exact ⟨r,by rw [ht.out];rfl,by rw [ht.out];exact hr.mono HB.out.size,HB.out.trans (hb4.mono HB.out.size)⟩
     · have hqq' : AM.protB q = false:=by simpa using hqq
       have HT : Hid (AM.turnN l page pages q howUnmap = ([],3)):=by show _ = _;simp [AM.turnN,hc,hpp,hqq']
       clear hqq
       go_enter Tryz.func143,Tryz.ntmps143
       go_wp2_with fail
       refine (check_any l v _ h hf).mono ?_
       rintro e w1 ⟨rfl,hb1⟩
       rw [hc]
       clear hc
       go_wp2_with fail
       refine (rightPages_any _ _ _ hp hn).mono ?_
       rintro e w' ⟨rfl,rfl⟩
       go_wp2_with fail
       refine (rightProt_any _ _).mono ?_
       rintro e w' ⟨rfl,rfl⟩
       go_wp2
       go_ret2
       exact ⟨.slice none 0 0,by rw [HT.out];rfl,by rw [HT.out];exact Own.nil _ _,hb1⟩
   · have hpp' : AM.pagesB page pages = false:=by simpa using hpp
     have HT : Hid (AM.turnN l page pages q howUnmap = ([],3)):=by show _ = _;simp [AM.turnN,hc,hpp']
     clear hpp
     go_enter Tryz.func143,Tryz.ntmps143
     go_wp2_with fail
     refine (check_any l v _ h hf).mono ?_
     rintro e w1 ⟨rfl,hb1⟩
     rw [hc]
     clear hc
     go_wp2_with fail
     refine (rightPages_any _ _ _ hp hn).mono ?_
     rintro e w' ⟨rfl,rfl⟩
     go_wp2
     go_ret2
     exact ⟨.slice none 0 0,by rw [HT.out];rfl,by rw [HT.out];exact Own.nil _ _,hb1⟩
 · have HT : Hid (AM.turnN l page pages q howUnmap = ([],AM.checkN l)):=by show _ = _;simp [AM.turnN,hc]
   have hc' : (AM.checkN l != 0) = true:=by simpa using hc
   go_enter Tryz.func143,Tryz.ntmps143
   go_wp2_with fail
   refine (check_any l v _ h hf).mono ?_
   rintro e w1 ⟨rfl,hb1⟩
   go_wp2
   go_ret2
   exact ⟨.slice none 0 0,by rw [HT.out];rfl,by rw [HT.out];exact Own.nil _ _,hb1⟩
set_option maxHeartbeats 2000000 in
theorem turn_protect_own (l : List AM.Ar) (v : Value) (page pages q : Int) (P : Nat) (w : World) (h : Has w v l) (hf : AllFit l) (hp : -9223372036854775808 <= page /\ page <= 9223372036854775807) (hn : -9223372036854775808 <= pages /\ pages <= 9223372036854775807) (hP : w.cell? ⟨P,0,none⟩ = some (.int .i64 q)) :
  Calls Tryz.prog 143 #[v,.int .i64 page,.int .i64 pages,.int .i64 q,.func (.func 208) #[] #[.pointer (some ⟨P,0,none⟩)]] w fun e w'=>∃ r,e = .returned (.tuple #[r,.int .i64 (AM.turnN l page pages q (howProtect q)).2]) /\ Own w.heap.size w' r (AM.turnN l page pages q (howProtect q)).1 /\ Below w.heap.size w w':=by
 by_cases hc : AM.checkN l = 0
 · by_cases hpp : AM.pagesB page pages = true
   · by_cases hqq : AM.protB q = true
     · have HT : Hid (AM.turnN l page pages q (howProtect q) = if AM.errFrom (AM.spreadN l) (howProtect q) page.toNat pages.toNat = 0 then (AM.gatherN (AM.turned (AM.spreadN l) (howProtect q) page (page + pages)),0) else ([],AM.errFrom (AM.spreadN l) (howProtect q) page.toNat pages.toNat)):=by
        show _ = _;simp [AM.turnN,hc,hpp,hqq]
       have hpb:=(AM.pagesB_iff page pages).1 hpp
       obtain ⟨Z,hZ⟩ : ∃ Z,Z = AM.cellsL (fun _=>AM.off):=⟨_,rfl⟩
       have hz:=zv56
       rw [<- hZ] at hz
       have hZs : Z.size = 768:=by rw [hZ];exact AM.cellsL_size _
       clear hZ
       go_enter Tryz.func143,Tryz.ntmps143
       go_wp2_with fail
       refine (check_any l v _ h hf).mono ?_
       rintro e w1 ⟨rfl,hb1⟩
       rw [hc]
       have HC : Hid (AM.checkN l = 0):=hc
       clear hc
       go_wp2_with fail
       refine (rightPages_any _ _ _ hp hn).mono ?_
       rintro e w' ⟨rfl,rfl⟩
       go_wp2_with fail
       refine (rightProt_any _ _).mono ?_
       rintro e w' ⟨rfl,rfl⟩
       go_wp2_with fail
       refine (spread_any l v _ (h.below hb1) HC.out).mono ?_
       rintro e w2 ⟨rfl,hb2⟩
       have HB2 : Hid (Below w.heap.size w w2):=hb1.trans (hb2.mono hb1.size)
       obtain ⟨F,hF⟩ : ∃ F,F = AM.spreadN l:=⟨_,rfl⟩
       rw [<- hF] at HT ⊢
       obtain ⟨C,hC⟩ : ∃ C,C = AM.cellsL F:=⟨_,rfl⟩
       have hCs : C.size = 768:=by rw [hC];exact AM.cellsL_size _
       have HCF : Hid (C = AM.cellsL F):=hC
       rw [<- hC]
       clear hb1 hb2 hF hC hpp hqq
       have hn2 : Hid ((w2.alloc (.cells Z 256)).heap[w2.heap.size]? = some (.cells Z 256 (0,0))):=B.new w2 Z 256
       go_wp2_with (refine wpList_store_row rfl 256 _ _ rfl w2.heap.size C rfl rfl 256 Z hn2.out (by rw [hCs];exact size56) (by rw [hZs,hCs]) (by rw [HCF.out];exact AM.cellsL_one _) ?_)
       have HA0 : Hid (((w2.alloc (.cells Z 256)).setRow w2.heap.size C).heap[w2.heap.size]? = some (.cells C 256 (0,0))):=setRow_heap _ _ _ _ 256 (0,0) hn2.out
       have HB3 : Hid (Below w.heap.size w ((w2.alloc (.cells Z 256)).setRow w2.heap.size C)):=below_setRow (HB2.out.alloc HB2.out.size _) HB2.out.size _
       have hsz2:=HB2.out.size
       go_loopw [14] (fun t wr=>∃ n : Nat,page <= (n : Int) /\ (n : Int) <= page + pages /\ t = .int .i64 n /\ (∀ k : Nat,page.toNat <= k -> k < n -> ((howProtect q) (F k)).2 = 0) /\ wr.heap[w2.heap.size]? = some (.cells (AM.cellsL (AM.turned F (howProtect q) page n)) 256 (0,0)) /\ Below w.heap.size w wr) (fun t _=>(page + pages - intOf t).toNat)
       case atStart =>
        refine ⟨page.toNat,by omega,by omega,by rw [Int.toNat_of_nonneg (by omega)],fun k h1 h2=>by omega,?_,HB3.out⟩
        rw [Int.toNat_of_nonneg (by omega),AM.turned_begin,<- HCF.out]
        exact HA0.out
       case round =>
        obtain ⟨n,hn1,hn3,rfl,hno,hA,hb⟩:=hrel
        have HN : Hid (∀ k : Nat,page.toNat <= k -> k < n -> ((howProtect q) (F k)).2 = 0):=hno
        have HA : Hid (wr.heap[w2.heap.size]? = some (.cells (AM.cellsL (AM.turned F (howProtect q) page n)) 256 (0,0))):=hA
        have HB : Hid (Below w.heap.size w wr):=hb
        have hAl : w2.heap.size < wr.heap.size:=B.isLt hA
        have hPw : wr.cell? ⟨P,0,none⟩ = some (.int .i64 q):=(hb.cell (p:=⟨P,0,none⟩) (World.block_lt_of_cell? w _ hP)).trans hP
        by_cases hin : (n : Int) < page + pages
        · have z0:=B.cell hA (n * 3) (AM.cellsL_get0 _ n (by omega))
          have z1:=B.cell hA (n * 3 + 1) (AM.cellsL_get1 _ n (by omega))
          have z2:=B.cell hA (n * 3 + 2) (AM.cellsL_get2 _ n (by omega))
          rw [AM.turned_at] at z0 z1 z2
          have hn256 : (n : Int) < 256:=by omega
          clear hno hA hb
          obtain ⟨s,hs⟩ : ∃ s,s = F n:=⟨_,rfl⟩
          rw [<- hs] at z0 z1 z2
          have HS : Hid (s = F n):=hs
          clear hs
          go_wp2_with fail
          refine (protect1_any s q P _ hPw).mono ?_
          rintro e w3 ⟨rfl,hb3⟩
          have bA:=B.below HA.out hb3 hAl
          have y0:=B.cell bA (n * 3) (AM.cellsL_get0 _ n (by omega))
          have y1:=B.cell bA (n * 3 + 1) (AM.cellsL_get1 _ n (by omega))
          have y2:=B.cell bA (n * 3 + 2) (AM.cellsL_get2 _ n (by omega))
          have yf:=B.free bA
          have HA3 : Hid (w3.heap[w2.heap.size]? = some (.cells (AM.cellsL (AM.turned F (howProtect q) page n)) 256 (0,0))):=bA
          have HBB : Hid (Below w.heap.size w w3):=HB.out.trans (hb3.mono HB.out.size)
          have hsz3 : w2.heap.size < w3.heap.size:=B.isLt bA
          clear bA hb3 z0 z1 z2
          obtain ⟨r,hr⟩ : ∃ r,r = (howProtect q) s:=⟨_,rfl⟩
          rw [<- hr]
          have HR : Hid (r = (howProtect q) s):=hr
          clear hr
          unfold aggSt
          by_cases he : r.2 = 0
          · have he' : (r.2 != 0) = false:=by simp [he]
            have HE : Hid (r.2 = 0):=he
            clear he
            go_wp2
            go_roundw
            case rel =>
             have hset:=B.set (B.set (B.set HA3.out (n * 3) (.bool r.1.m)) (n * 3 + 1) (.int .i64 r.1.p)) (n * 3 + 2) (.bool r.1.z)
             have est:=AM.turned_step F (howProtect q) page n hn1
             rw [<- HS.out,<- HR.out] at est
             rw [AM.cellsL_set (AM.turned F (howProtect q) page n) n r.1 (by omega),est] at hset
             refine ⟨n + 1,by omega,by omega,by go_num,fun k h1 h2=>if e : k = n then by rw [e,<- HS.out,<- HR.out];exact HE.out else HN.out k h1 (by omega),?_,?_⟩
             · rw [show ((n + 1 : Nat) : Int) = (n : Int) + 1 from by omega]
               exact B.alloc hset _
             · have hb4:=((HBB.out.setCell (p:=⟨w2.heap.size,n * 3,none⟩) hsz2 (.bool r.1.m)).setCell (p:=⟨w2.heap.size,n * 3 + 1,none⟩) hsz2 (.int .i64 r.1.p)).setCell (p:=⟨w2.heap.size,n * 3 + 2,none⟩) hsz2 (.bool r.1.z)
               exact hb4.alloc hb4.size _
            case measure=>simp [intOf];omega
          · have he' : (r.2 != 0) = true:=by simpa using he
            have HE : Hid (r.2 ≠ 0):=he
            clear he
            have ht : Hid (AM.turnN l page pages q (howProtect q) = ([],r.2)):=by
             have herr : AM.errFrom F (howProtect q) page.toNat pages.toNat = r.2:=by
              rw [HR.out,HS.out]
              exact AM.errFrom_at F (howProtect q) _ _ n (by omega) (by omega) HN.out (by rw [<- HS.out,<- HR.out];exact HE.out)
             show _ = _
             rw [HT.out,herr,if_neg HE.out]
            go_wp2
            go_ret2
            exact ⟨.slice none 0 0,by rw [ht.out];rfl,by rw [ht.out];exact Own.nil _ _,HBB.out.alloc HBB.out.size _⟩
        · have hend : Hid ((n : Int) = page + pages):=by show _ = _;omega
          have ht : Hid (AM.turnN l page pages q (howProtect q) = (AM.gatherN (AM.turned F (howProtect q) page n),0)):=by
           have herr : AM.errFrom F (howProtect q) page.toNat pages.toNat = 0:=AM.errFrom_zero F (howProtect q) _ _ (fun k h1 h2=>HN.out k h1 (by have:=hend.out;omega))
           show _ = _
           rw [HT.out,herr,if_pos rfl,hend.out]
          clear hno hA hb
          go_wp2_with (refine wpList_load_row rfl 256 _ rfl w2.heap.size rfl 256 _ (0,0) _ HA.out Tryz.underlying256 rfl (by rw [AM.cellsL_size];exact size56) ?_)
          refine (gather_own _ _).mono ?_
          rintro e w4 ⟨r,rfl,hr,hb4⟩
          go_wp2
          go_ret2
          exact ⟨r,by rw [ht.out];rfl,by rw [ht.out];exact hr.mono HB.out.size,HB.out.trans (hb4.mono HB.out.size)⟩
     · have hqq' : AM.protB q = false:=by simpa using hqq
       have HT : Hid (AM.turnN l page pages q (howProtect q) = ([],3)):=by show _ = _;simp [AM.turnN,hc,hpp,hqq']
       clear hqq
       go_enter Tryz.func143,Tryz.ntmps143
       go_wp2_with fail
       refine (check_any l v _ h hf).mono ?_
       rintro e w1 ⟨rfl,hb1⟩
       rw [hc]
       clear hc
       go_wp2_with fail
       refine (rightPages_any _ _ _ hp hn).mono ?_
       rintro e w' ⟨rfl,rfl⟩
       go_wp2_with fail
       refine (rightProt_any _ _).mono ?_
       rintro e w' ⟨rfl,rfl⟩
       go_wp2
       go_ret2
       exact ⟨.slice none 0 0,by rw [HT.out];rfl,by rw [HT.out];exact Own.nil _ _,hb1⟩
   · have hpp' : AM.pagesB page pages = false:=by simpa using hpp
     have HT : Hid (AM.turnN l page pages q (howProtect q) = ([],3)):=by show _ = _;simp [AM.turnN,hc,hpp']
     clear hpp
     go_enter Tryz.func143,Tryz.ntmps143
     go_wp2_with fail
     refine (check_any l v _ h hf).mono ?_
     rintro e w1 ⟨rfl,hb1⟩
     rw [hc]
     clear hc
     go_wp2_with fail
     refine (rightPages_any _ _ _ hp hn).mono ?_
     rintro e w' ⟨rfl,rfl⟩
     go_wp2
     go_ret2
     exact ⟨.slice none 0 0,by rw [HT.out];rfl,by rw [HT.out];exact Own.nil _ _,hb1⟩
 · have HT : Hid (AM.turnN l page pages q (howProtect q) = ([],AM.checkN l)):=by show _ = _;simp [AM.turnN,hc]
   have hc' : (AM.checkN l != 0) = true:=by simpa using hc
   go_enter Tryz.func143,Tryz.ntmps143
   go_wp2_with fail
   refine (check_any l v _ h hf).mono ?_
   rintro e w1 ⟨rfl,hb1⟩
   go_wp2
   go_ret2
   exact ⟨.slice none 0 0,by rw [HT.out];rfl,by rw [HT.out];exact Own.nil _ _,hb1⟩
def mapN (l : List AM.Ar) (page pages q : Int) : List AM.Ar × Int:=AM.turnN l page pages q (howMap q)
def unmapN (l : List AM.Ar) (page pages : Int) : List AM.Ar × Int:=AM.turnN l page pages 0 howUnmap
def protectN (l : List AM.Ar) (page pages q : Int) : List AM.Ar × Int:=AM.turnN l page pages q (howProtect q)
def I64 (n : Int) : Prop:=-9223372036854775808 <= n /\ n <= 9223372036854775807
set_option maxHeartbeats 400000 in
theorem map_own (l : List AM.Ar) (v : Value) (page pages q : Int) (w : World) (h : Has w v l) (hf : AllFit l) (hp : I64 page) (hn : I64 pages) :
  Calls Tryz.prog 121 #[v,.int .i64 page,.int .i64 pages,.int .i64 q] w fun e w'=>∃ r,e = .returned (.tuple #[r,.int .i64 (mapN l page pages q).2]) /\ Own w.heap.size w' r (mapN l page pages q).1 /\ Below w.heap.size w w':=by
 have hb0 : Below w.heap.size w (w.alloc (.cells #[.int .i64 q] 3)):=(Below.refl _ _).alloc (Nat.le_refl _) _
 have hP:=B.cell (B.new w #[.int .i64 q] 3) 0 rfl
 have H:=h.below hb0
 have HP : Hid ((w.alloc (.cells #[.int .i64 q] 3)).cell? ⟨w.heap.size,0,none⟩ = some (.int .i64 q)):=hP
 clear hP
 go_enter Tryz.func121,Tryz.ntmps121
 go_wp2_with fail
 refine (turn_map_own l v page pages q w.heap.size _ H hf hp hn HP.out).mono ?_
 rintro e w1 ⟨r,rfl,hr,hb1⟩
 go_wp2
 go_ret2
 exact ⟨r,rfl,hr.mono hb0.size,hb0.trans (hb1.mono hb0.size)⟩
set_option maxHeartbeats 400000 in
theorem unmap_own (l : List AM.Ar) (v : Value) (page pages : Int) (w : World) (h : Has w v l) (hf : AllFit l) (hp : I64 page) (hn : I64 pages) :
  Calls Tryz.prog 202 #[v,.int .i64 page,.int .i64 pages] w fun e w'=>∃ r,e = .returned (.tuple #[r,.int .i64 (unmapN l page pages).2]) /\ Own w.heap.size w' r (unmapN l page pages).1 /\ Below w.heap.size w w':=by
 go_enter Tryz.func202,Tryz.ntmps202
 go_wp2_with fail
 refine (turn_unmap_own l v page pages 0 _ h hf hp hn).mono ?_
 rintro e w1 ⟨r,rfl,hr,hb1⟩
 go_wp2
 go_ret2
 exact ⟨r,rfl,hr,hb1⟩
set_option maxHeartbeats 400000 in
theorem protect_own (l : List AM.Ar) (v : Value) (page pages q : Int) (w : World) (h : Has w v l) (hf : AllFit l) (hp : I64 page) (hn : I64 pages) :
  Calls Tryz.prog 201 #[v,.int .i64 page,.int .i64 pages,.int .i64 q] w fun e w'=>∃ r,e = .returned (.tuple #[r,.int .i64 (protectN l page pages q).2]) /\ Own w.heap.size w' r (protectN l page pages q).1 /\ Below w.heap.size w w':=by
 have hb0 : Below w.heap.size w (w.alloc (.cells #[.int .i64 q] 3)):=(Below.refl _ _).alloc (Nat.le_refl _) _
 have hP:=B.cell (B.new w #[.int .i64 q] 3) 0 rfl
 have H:=h.below hb0
 have HP : Hid ((w.alloc (.cells #[.int .i64 q] 3)).cell? ⟨w.heap.size,0,none⟩ = some (.int .i64 q)):=hP
 clear hP
 go_enter Tryz.func201,Tryz.ntmps201
 go_wp2_with fail
 refine (turn_protect_own l v page pages q w.heap.size _ H hf hp hn HP.out).mono ?_
 rintro e w1 ⟨r,rfl,hr,hb1⟩
 go_wp2
 go_ret2
 exact ⟨r,rfl,hr.mono hb0.size,hb0.trans (hb1.mono hb0.size)⟩
theorem fit_all {l : List AM.Ar} (h : ∀ a ∈ l,AM.Fits a) (hn : l.length <= 140737488351232) : AllFit l:=by
 refine ⟨fun i hi=>?_,hn⟩
 have e : AM.at_ l i = l[i]:=by simp [AM.at_,hi]
 rw [e]
 exact h _ (List.getElem_mem hi)
theorem fit_nil : AllFit []:=fit_all (fun a h=>by simp at h) (by simp)
end AW
end Go.Proofs.YtkdigjpejnebkaaGreat
