import Derived.Test.YtkdigjpejnebkaaGreatGU00
import Derived.Test.YtkdigjpejnebkaaGreatProg
import Derived.Test.YtkdigjpejnebkaaGreatGU05
import Derived.WalkLawsBesides
import Derived.WalkSpells
import Derived.Test.YtkdigjpejnebkaaGreatGU12
import Derived.Test.YtkdigjpejnebkaaGreatGU11
import Derived.Test.YtkdigjpejnebkaaGreatGU04
import Derived.Test.YtkdigjpejnebkaaGreatGU01
set_option maxHeartbeats 20000000
set_option linter.unusedVariables false
set_option maxRecDepth 100000
set_option linter.unusedSimpArgs false
namespace Go.Proofs.YtkdigjpejnebkaaGreat
namespace W
open Go.RowKit
theorem ai {p:Prop} (h:p):Hid p:=h
theorem aY {a b:Bool} (h:a=b):Ending.returned (.bool a)=.returned (.bool b):=by rw[h]
theorem xA (n:Int) (w:World):Calls Tryz.prog 165 #[.int .u8 n] w fun e w'=>e=.returned (.bool (M.om n))/\w=w':=by
 by_cases h1:97<=n/\n<=122
 · have e:M.om n=true:=by unfold M.om;rw[decide_eq_true h1];rfl
   rw[e]
   obtain⟨a,b⟩:=h1
   go_enter Tryz.func165,Tryz.ntmps165
   go_wp2
   go_ret
   exact⟨rfl,rfl⟩
 · by_cases h2:48<=n/\n<=57
   · have e:M.om n=true:=by unfold M.om;rw[decide_eq_true h2];simp
     rw[e]
     obtain⟨a,b⟩:=h2
     have c:decide (97<=n)=false:=by simp;omega
     clear h1
     go_enter Tryz.func165,Tryz.ntmps165
     go_wp2
     go_ret
     exact⟨rfl,rfl⟩
   · by_cases h3:n=95
     · subst h3
       go_enter Tryz.func165,Tryz.ntmps165
       go_wp2
       go_ret
       exact⟨rfl,rfl⟩
     · have e:M.om n=false:=by unfold M.om;rw[decide_eq_false h1,decide_eq_false h2,decide_eq_false h3];rfl
       rw[e]
       have h3':(n==95)=false:=by simpa using h3
       by_cases a:97<=n
       · have b:decide (n<=122)=false:=by simp;omega
         have c:48<=n:=by omega
         have d:decide (n<=57)=false:=by simp;omega
         clear h1 h2
         go_enter Tryz.func165,Tryz.ntmps165
         go_wp2
         go_ret
         exact⟨rfl,rfl⟩
       · have a':decide (97<=n)=false:=by simpa using a
         by_cases c:48<=n
         · have d:decide (n<=57)=false:=by simp;omega
           clear h1 h2
           go_enter Tryz.func165,Tryz.ntmps165
           go_wp2
           go_ret
           exact⟨rfl,rfl⟩
         · have c':decide (48<=n)=false:=by simpa using c
           clear h1 h2
           go_enter Tryz.func165,Tryz.ntmps165
           go_wp2
           go_ret
           exact⟨rfl,rfl⟩
theorem FO (s:ByteArray) (w:World) (hs:M.bD s.size):Calls Tryz.prog 149 #[.string s] w fun e w'=>e=.returned (.bool (M.oo s))/\w=w':=by
 unfold M.bD at hs
 have V8:s.size<=maxLen:=by unfold maxLen;omega
 by_cases h1:1<=s.size
 · by_cases h2:s.size<=12
   · have d1:¬(s.size:Int)<1:=by omega
     have d2:¬12<(s.size:Int):=by omega
     go_enter Tryz.func149,Tryz.ntmps149
     go_wp2
     go_loop [14] (fun i=>∃k:Nat,k<=s.size/\i=I k/\∀j (hj:j<s.size),j<k->M.om s[j].toNat=true) (fun i=>s.size-(intOf i).toNat)
     case atStart=>exact⟨0,by omega,rfl,fun j _ h=>by omega⟩
     case round =>
      obtain⟨k,hk,rfl,hall⟩:=hrel
      have HA:=ai hall
      clear hall
      by_cases hlt:k<s.size
      · cases hc:M.om s[k].toNat
        · have HR:=ai (M.Qd s k hlt hc)
          go_wp2_with (go_at_call 165;refine(xA _ _).mono ?_;rintro e w' ⟨rfl,rfl⟩;rw[hc])
          go_ret
          exact⟨aY HR.o.symm,rfl⟩
        · have HC:=ai hc
          go_wp2_with (go_at_call 165;refine(xA _ _).mono ?_;rintro e w' ⟨rfl,rfl⟩;rw[hc])
          go_round
          case rel=>exact⟨k+1,by omega,by go_num,fun j hj h=>if e:j=k then by subst e;exact HC.o else HA.o j hj (by omega)⟩
          case measure=>simp[intOf];omega
      · obtain rfl:k=s.size:=by omega
        have HR:=ai (M.MA s h1 h2 (fun k hk=>HA.o k hk hk))
        go_wp2
        go_ret
        exact⟨aY HR.o.symm,rfl⟩
   · have HR:=ai (M.Dc s (fun h=>h2 h.2))
     have d1:¬(s.size:Int)<1:=by omega
     have d2:12<(s.size:Int):=by omega
     go_enter Tryz.func149,Tryz.ntmps149
     go_wp2
     go_ret
     exact⟨aY HR.o.symm,rfl⟩
 · have HR:=ai (M.Dc s (fun h=>h1 h.1))
   have d1:(s.size:Int)<1:=by omega
   go_enter Tryz.func149,Tryz.ntmps149
   go_wp2
   go_ret
   exact⟨aY HR.o.symm,rfl⟩
end W
namespace LW
open Go.RowKit
open W (ai)
theorem aY {a b:Bool} (h:a=b):Ending.returned (.bool a)=.returned (.bool b):=by rw[h]
theorem oY (s:LM.Sh) (w:World) (h:LM.Cc w s.ao s.ik) (hf:LM.SA s) :
  Calls Tryz.prog 66 #[.agg (LM.pH s)] w fun e w'=>e=.returned (.bool (LM.fq s))/\Below w.heap.size w w':=by
 obtain⟨f1,f2,f3,f4⟩:=hf
 obtain⟨pg,dt,fs,ao,cap⟩:=s
 simp only at f1 f2 f3 f4
 unfold M.dF at f1
 unfold M.bD at f2 f3
 simp only[LM.pH]
 have hdl:dt.size<=maxLen:=by unfold maxLen;omega
 have F4:=ai f4
 have HH:=ai h
 clear f4 h
 have HB:=ai ((Below.refl w.heap.size w).alloc (Nat.le_refl _) (.cells #[I pg,.string dt,.slice ao fs.length cap] 62))
 by_cases h1:pg<1
 · have e:LM.fq ⟨pg,dt,fs,ao,cap⟩=false:=by
    unfold LM.fq LM.uR
    rw[decide_eq_false (by simp only;omega),Bool.false_and]
   rw[e]
   go_enter Tryz.func66,Tryz.ntmps66
   go_wp2
   go_ret
   exact⟨rfl,HB.o⟩
 by_cases h2:255<pg
 · have e:LM.fq ⟨pg,dt,fs,ao,cap⟩=false:=by
    unfold LM.fq LM.uR
    rw[decide_eq_false (by simp only;omega),Bool.false_and]
   rw[e]
   go_enter Tryz.func66,Tryz.ntmps66
   go_wp2
   go_ret
   exact⟨rfl,HB.o⟩
 by_cases h3:dt.size=16
 · have h3':(dt.size:Int)=16:=by omega
   have e:LM.uR ⟨pg,dt,fs,ao,cap⟩=true:=by
    unfold LM.uR
    exact decide_eq_true ⟨by simp only;omega,by simp only;omega,h3⟩
   have E:Hid (LM.fq ⟨pg,dt,fs,ao,cap⟩=LM.dG fs fs.length):=by
    show _=_
    unfold LM.fq
    rw[e,Bool.true_and]
   clear e h3
   go_enter Tryz.func66,Tryz.ntmps66
   go_wp2
   go_loopw [23,3] (fun i en wr=>∃k:Nat,k<=fs.length/\i=I k/\en=I (LM.pE fs k)/\LM.dG fs k=true/\Below w.heap.size w wr) (fun i _ _=>fs.length-(intOf i).toNat)
   case atStart=>exact⟨0,by omega,rfl,rfl,rfl,HB.o⟩
   case round =>
    obtain⟨k,hk,rfl,rfl,hg,hb⟩:=hrel
    have HG:=ai hg
    have kH:=ai hb
    clear hg
    by_cases hlt:k<fs.length
    · obtain⟨b,off,hao,hbl,bP⟩:=(HH.o.below hb) (by omega)
      subst hao
      obtain⟨c0,c1⟩:=bP k hlt
      obtain⟨g1,g2⟩:=F4.o k hlt
      have hed:=LM.s7 fs k HG.o
      obtain⟨f,Wb⟩:=ex (LM.rD fs k)
      rw[<- Wb] at c0 c1 g1 g2
      unfold M.dF at g1
      unfold M.bD at g2
      have hfl:f.bytes.size<=maxLen:=by unfold maxLen;omega
      have mI:=ai Wb
      clear Wb bP hb
      obtain⟨en,hen⟩:=ex (LM.pE fs k)
      rw[<- hen] at hed
      have qq:=ai hen
      rw[<- hen]
      clear hen
      have dJ:=ai (kH.o.alloc kH.o.size (.cells #[I f.off,.string f.bytes] 121))
      by_cases q1:f.off<en
      · have HX:Hid (LM.dG fs fs.length=false):=LM.qd fs k hlt (by rw[<- mI.o,<- qq.o];exact LM.wa (by omega))
        go_wp2
        go_ret
        exact⟨aY (by rw[E.o,HX.o]),dJ.o⟩
      by_cases q2:16<f.off
      · have HX:Hid (LM.dG fs fs.length=false):=LM.qd fs k hlt (by rw[<- mI.o,<- qq.o];exact LM.wa (by omega))
        go_wp2
        go_ret
        exact⟨aY (by rw[E.o,HX.o]),dJ.o⟩
      by_cases q3:(f.bytes.size:Int)<1
      · have HX:Hid (LM.dG fs fs.length=false):=LM.qd fs k hlt (by rw[<- mI.o,<- qq.o];exact LM.wa (by omega))
        go_wp2
        go_ret
        exact⟨aY (by rw[E.o,HX.o]),dJ.o⟩
      by_cases q4:16-f.off<(f.bytes.size:Int)
      · have HX:Hid (LM.dG fs fs.length=false):=LM.qd fs k hlt (by rw[<- mI.o,<- qq.o];exact LM.wa (by omega))
        go_wp2
        go_ret
        exact⟨aY (by rw[E.o,HX.o]),dJ.o⟩
      · have HX:Hid (LM.dG fs (k+1)=true):=by
         show _=_
         simp only[LM.dG,Bool.and_eq_true]
         exact⟨HG.o,by rw[<- mI.o,<- qq.o];exact(LM.sY _ _).2 (by omega)⟩
        have HY:Hid (LM.pE fs (k+1)=f.off+(f.bytes.size:Int)):=by show _=_;simp only[LM.pE];rw[<- mI.o]
        go_wp2
        go_roundw
        case rel=>exact⟨k+1,by omega,by go_num,by rw[HY.o],HX.o,dJ.o⟩
        case measure=>simp[intOf];omega
    · obtain rfl:k=fs.length:=by omega
      go_wp2
      go_ret
      exact⟨aY (by rw[E.o,HG.o]),kH.o⟩
 · have e:LM.fq ⟨pg,dt,fs,ao,cap⟩=false:=by
    unfold LM.fq LM.uR
    rw[decide_eq_false (fun h=>h3 h.2.2),Bool.false_and]
   have h3':((dt.size:Int)==16)=false:=by simp;omega
   rw[e]
   go_enter Tryz.func66,Tryz.ntmps66
   go_wp2
   go_ret
   exact⟨rfl,HB.o⟩
theorem TR {s t:ByteArray} {a b:Int} (h:s=t) (g:a=b):Ending.returned (.tuple #[.string s,I a])=.returned (.tuple #[.string t,I b]):=by rw[h,g]
theorem NH (s:LM.Sh) (w:World) (h:LM.Cc w s.ao s.ik) (hf:LM.SA s) :
  Calls Tryz.prog 24 #[.agg (LM.pH s)] w fun e w'=>e=.returned (.tuple #[.string (LM.ou s).1,I (LM.ou s).2])/\Below w.heap.size w w':=by
 have HR:Hid (∀W,Below w.heap.size w W->Calls Tryz.prog 66 #[.agg (LM.pH s)] W fun e w'=>e=.returned (.bool (LM.fq s))/\Below W.heap.size W w'):=fun W hb=>oY s W (h.below hb) hf
 obtain⟨f1,f2,f3,f4⟩:=hf
 obtain⟨pg,dt,fs,ao,cap⟩:=s
 simp only at f1 f2 f3 f4
 unfold M.bD at f2 f3
 simp only[LM.pH] at HR
 simp only[LM.pH]
 have hdl:dt.size<=maxLen:=by unfold maxLen;omega
 have F4:=ai f4
 have HH:=ai h
 clear f4 h f1
 have HB:=ai ((Below.refl w.heap.size w).alloc (Nat.le_refl _) (.cells #[I pg,.string dt,.slice ao fs.length cap] 62))
 have BX:=ai (B.new w #[I pg,.string dt,.slice ao fs.length cap] 62)
 by_cases hs:LM.fq ⟨pg,dt,fs,ao,cap⟩=true
 · have HN:Hid (LM.ou ⟨pg,dt,fs,ao,cap⟩=(LM.nQ dt fs fs.length,0)):=by
    show _=_
    unfold LM.ou
    rw[if_pos hs]
    rfl
   obtain⟨hd,Ym⟩:LM.uR ⟨pg,dt,fs,ao,cap⟩=true/\LM.dG fs fs.length=true:=by
    unfold LM.fq at hs
    simpa using hs
   have Bn:dt.size=16:=by
    unfold LM.uR at hd
    exact(of_decide_eq_true hd).2.2
   have Po:=ai Ym
   rw[hs] at HR
   clear hs hd Ym
   go_enter Tryz.func24,Tryz.ntmps24
   go_wp2_with (first | (go_at_call 66;refine(HR.o _ HB.o).mono ?_;rintro e w1 ⟨rfl,hb⟩;have HB:=ai (HB.o.trans (hb.mono HB.o.size));have BX:=ai (B.below BX.o hb (B.isLt BX.o));have q0:=B.cell BX.o 0 rfl;have q1:=B.cell BX.o 1 rfl;have q2:=B.cell BX.o 2 rfl;clear hb) | (go_at_call 67;refine(CW.IW _ _ (by omega)).mono ?_;rintro e w2 ⟨rfl,hb⟩;have HB:=ai (HB.o.trans (hb.mono HB.o.size));have BX:=ai (B.below BX.o hb (B.isLt BX.o));have q0:=B.cell BX.o 0 rfl;have q1:=B.cell BX.o 1 rfl;have q2:=B.cell BX.o 2 rfl;clear hb))
   go_loopw [16,4] (fun i d wr=>∃k:Nat,k<=fs.length/\i=I k/\d=.string (LM.nQ dt fs k)/\Below w.heap.size w wr) (fun i _ _=>fs.length-(intOf i).toNat)
   case atStart=>exact⟨0,by omega,rfl,rfl,HB.o⟩
   case round =>
    obtain⟨k,hk,rfl,rfl,hb⟩:=hrel
    have kH:=ai hb
    by_cases hlt:k<fs.length
    · obtain⟨b,off,hao,hbl,bP⟩:=(HH.o.below hb) (by omega)
      subst hao
      obtain⟨c0,c1⟩:=bP k hlt
      have hok:=(LM.sY _ _).1 (LM.xN fs fs.length Po.o k hlt)
      have hgk:LM.dG fs k=true:=by
       cases e:LM.dG fs k
       · rw[LM.mM fs k fs.length (by omega) e] at Po
         cases Po
       · rfl
      have hed:=LM.s7 fs k hgk
      have hsz:=LM.uH dt fs Bn k hgk
      have kG:Hid (LM.nQ dt fs (k+1)=CL.over (LM.nQ dt fs k) (LM.rD fs k).off.toNat (LM.rD fs k).bytes):=rfl
      obtain⟨f,Wb⟩:=ex (LM.rD fs k)
      rw[<- Wb] at c0 c1 hok kG
      obtain⟨D,hD⟩:=ex (LM.nQ dt fs k)
      rw[<- hD] at hsz kG
      rw[<- hD]
      obtain⟨o,ho⟩:∃o:Nat,f.off=(o:Int):=⟨f.off.toNat,by omega⟩
      rw[ho] at c0 hok
      rw[ho,Int.toNat_natCast] at kG
      clear Wb hD hgk bP hb
      have dJ:=ai (kH.o.alloc kH.o.size (.cells #[I (o:Int),.string f.bytes] 121))
      go_wp2_with (go_at_call 68;refine(CW.Bb D f.bytes o _ (by omega) (by omega)).mono ?_;rintro e w3 ⟨rfl,hb⟩;have dJ:=ai (dJ.o.trans (hb.mono dJ.o.size));clear hb)
      go_roundw
      case rel=>exact⟨k+1,by omega,by go_num,by rw[kG.o],dJ.o⟩
      case measure=>simp[intOf];omega
    · obtain rfl:k=fs.length:=by omega
      go_wp2
      go_ret2
      exact⟨TR (by rw[HN.o]) (by rw[HN.o]),kH.o⟩
 · have hs':LM.fq ⟨pg,dt,fs,ao,cap⟩=false:=by simpa using hs
   have HN:Hid (LM.ou ⟨pg,dt,fs,ao,cap⟩=(⟨#[]⟩,1)):=by
    show _=_
    unfold LM.ou
    rw[if_neg hs]
   rw[hs'] at HR
   clear hs hs'
   rw[HN.o]
   go_enter Tryz.func24,Tryz.ntmps24
   go_wp2_with (go_at_call 66;refine(HR.o _ HB.o).mono ?_;rintro e w1 ⟨rfl,hb⟩;have HB:=ai (HB.o.trans (hb.mono HB.o.size));clear hb)
   go_ret2
   exact⟨rfl,HB.o⟩
end LW
namespace LM
open Go.RowKit
def ju (a:AM.Ar) (n:Nat):List Int:=(List.range n).map (fun m:Nat=>a.page+(m:Int))
def bN (l:List AM.Ar):Nat->List Int
 | 0=>[]
 | i+1=>bN l i++ju (AM.at_ l i) (AM.at_ l i).aj.toNat
def bk (l:List AM.Ar):List Int:=bN l l.length
def eX (l:List AM.Ar) (hs:List Sh):Bool:=decide (hs.map (·.page)=bk l)
def nE (l:List AM.Ar):Nat->Bool
 | 0=>false
 | k+1=>nE l k || (AM.at_ l k).zero
def iu (l:List AM.Ar):Bool:=nE l l.length
def gD (hs:List Sh):Nat->Bool
 | 0=>true
 | k+1=>gD hs k&&fq (gm hs k)
def mj (hs:List Sh):Bool:=gD hs hs.length
def Gr (l:List AM.Ar) (en:Int):Bool:=(AM.aP l (en.tdiv 16)).2&&(decide (2<=(AM.aP l (en.tdiv 16)).1.bE)&&decide (en.tmod 8=0))
def lO (l:List AM.Ar) (hs:List Sh) (en:Int):Int:=if AM.aD l=0 then (if !iu l&&(eX l hs&&(mj hs&&Gr l en)) then 0 else 1) else AM.aD l
theorem o8 (a:AM.Ar) (n:Nat):ju a (n+1)=ju a n++[a.page+(n:Int)]:=by
 unfold ju
 rw[List.range_succ,List.map_append]
 rfl
theorem A3 (a:AM.Ar) (n m:Nat) (h:n<m):∃t,ju a m=ju a n++(a.page+(n:Int))::t:=by
 induction m with
 | zero=>omega
 | succ m ih =>
  by_cases e:n=m
  · subst e;exact⟨[],o8 a n⟩
  · obtain⟨t,ht⟩:=ih (by omega)
    exact⟨t++[a.page+(m:Int)],by rw[o8,ht];simp⟩
theorem sF (l:List AM.Ar) (i:Nat):∀n,i<=n->∃t,bN l n=bN l i++t
 | 0, h => by obtain rfl:i=0 := by omega
              exact⟨[],by simp⟩
 | n+1,h=>by
  by_cases e:i=n+1
  · subst e;exact⟨[],by simp⟩
  · obtain⟨t,ht⟩:=sF l i n (by omega)
    exact⟨t++ju (AM.at_ l n) (AM.at_ l n).aj.toNat,by simp only[bN];rw[ht,List.append_assoc]⟩
theorem o7 (l:List AM.Ar) (i:Nat) (hi:i<l.length) (n:Nat) (hn:n<(AM.at_ l i).aj.toNat):∃t,bk l=(bN l i++ju (AM.at_ l i) n)++((AM.at_ l i).page+(n:Int))::t:=by
 obtain⟨t,ht⟩:=sF l (i+1) l.length (by omega)
 obtain⟨u,hu⟩:=A3 (AM.at_ l i) n _ hn
 refine⟨u++t,?_⟩
 unfold bk
 rw[ht]
 simp only[bN]
 rw[hu]
 simp
theorem uz (l:List AM.Ar):∀(k n:Nat),k<=n->nE l k=true->nE l n=true
 | k, 0, h, hk => by obtain rfl:k=0 := by omega
                     exact hk
 | k,n+1,h,hk=>by
  by_cases e:k=n+1
  · subst e;exact hk
  · simp[nE,uz l k n (by omega) hk]
theorem PC (l:List AM.Ar) (k:Nat) (hk:k<l.length) (h:(AM.at_ l k).zero=true):iu l=true:=uz l (k+1) l.length (by omega) (by simp[nE,h])
theorem oV (l:List Sh):∀(k n:Nat),k<=n->gD l k=false->gD l n=false
 | k, 0, h, hk => by obtain rfl:k=0 := by omega
                     exact hk
 | k,n+1,h,hk=>by
  by_cases e:k=n+1
  · subst e;exact hk
  · simp[gD,oV l k n (by omega) hk]
theorem E3 (l:List Sh) (k:Nat) (hk:k<l.length) (h:fq (gm l k)=false):mj l=false:=oV l (k+1) l.length (by omega) (by simp[gD,h])
theorem uC (l:List Sh):∀n,gD l n=true->∀i,i<n->fq (gm l i)=true
 | 0,_,i,hi=>by omega
 | n+1,h,i,hi=>by
  simp only[gD,Bool.and_eq_true] at h
  by_cases e:i=n
  · subst e;exact h.2
  · exact uC l n h.1 i (by omega)
theorem qH (hs:List Sh) (c:Nat) (h:c<hs.length):(hs.take (c+1)).map (·.page)=(hs.take c).map (·.page)++[(gm hs c).page]:=by
 rw[List.take_succ_eq_append_getElem h,List.map_append]
 unfold gm
 rw[List.getD_eq_getElem?_getD,List.getElem?_eq_getElem h]
 rfl
theorem rI {l:List AM.Ar} {hs:List Sh} {pre t:List Int} {x:Int} (hp:(hs.take hs.length).map (·.page)=pre) (ho:bk l=pre++x::t):eX l hs=false:=by
 unfold eX
 refine decide_eq_false (fun e=>?_)
 rw[List.take_length] at hp
 rw[hp,ho] at e
 have:=congrArg List.length e
 simp at this
theorem rJ {l:List AM.Ar} {hs:List Sh} {pre t:List Int} {x:Int} {c:Nat} (hc:c<hs.length) (hp:(hs.take c).map (·.page)=pre) (ho:bk l=pre++x::t) (hx:(gm hs c).page≠x):eX l hs=false:=by
 unfold eX
 refine decide_eq_false (fun e=>?_)
 have h1:=qH hs c hc
 rw[hp] at h1
 have h2:hs.map (·.page)=(hs.take (c+1)).map (·.page)++(hs.drop (c+1)).map (·.page):=by rw[<- List.map_append,List.take_append_drop]
 rw[h2,h1,ho,List.append_assoc] at e
 have:=List.append_cancel_left e
 simp at this
 exact hx this.1
theorem uh {l:List AM.Ar} {hs:List Sh} {c:Nat} (hc:c<=hs.length) (hp:(hs.take c).map (·.page)=bN l l.length):eX l hs=decide (c=hs.length):=by
 unfold eX
 by_cases e:c=hs.length
 · subst e
   rw[List.take_length] at hp
   have hp':hs.map (·.page)=bk l:=hp
   rw[decide_eq_true hp',decide_eq_true rfl]
 · rw[decide_eq_false e]
   refine decide_eq_false (fun g=>?_)
   have h1:=congrArg List.length hp
   have h2:=congrArg List.length g
   rw[List.length_map,List.length_take] at h1
   rw[List.length_map] at h2
   unfold bk at h2
   omega
def Ov (w:World) (b off:Nat) (l:List Sh):Prop:=∀i,i<l.length ->
 w.cell? (Ad b (off+i*3))=some (I (gm l i).page)/\w.cell? (Ad b (off+i*3+1))=some (.string (gm l i).data)/\w.cell? (Ad b (off+i*3+2))=some (.slice (gm l i).ao (gm l i).ik.length (gm l i).cap)/\Cc w (gm l i).ao (gm l i).ik
theorem Xi {w w':World} {b off:Nat} {l:List Sh} (hb:Below w.heap.size w w') (hlt:b<w.heap.size) (h:Ov w b off l):Ov w' b off l:=fun i hi=>by
 obtain⟨c0,c1,c2,c3⟩:=h i hi
 exact⟨(M.aA hb hlt).trans c0,(M.aA hb hlt).trans c1,(M.aA hb hlt).trans c2,c3.below hb⟩
def nZ (w:World) (ao:Option Addr) (l:List Sh):Prop:=M.dU Ov w ao l
theorem nZ.below {w w':World} {ao:Option Addr} {l:List Sh} (h:nZ w ao l) (hb:Below w.heap.size w w'):nZ w' ao l:=M.dU.below (lie:=Ov) (fun hb hlt h=>Xi hb hlt h) h hb
def Jd (l:List Sh):Prop:=M.bD l.length/\∀k,k<l.length->SA (gm l k)
theorem Ff {p:Int} (h:0<=p/\p<=3):p=0∨p=1∨p=2∨p=3:=by omega
theorem Gl (l:List AM.Ar) (hc:AM.aD l=0) (p:Int) (h:(AM.aP l p).2=true):0<=(AM.aP l p).1.bE/\(AM.aP l p).1.bE<=3:=by
 by_cases e:∃k,k<l.length/\AM.hit (AM.at_ l k) p=true
 · obtain⟨k,hk,hh⟩:=e
   have:∃k,k<l.length/\AM.hit (AM.at_ l k) p=true/\∀i,i<k->AM.hit (AM.at_ l i) p=false:=by
    induction k using Nat.strongRecOn with
    | _ k ih =>
     by_cases g:∃j,j<k/\AM.hit (AM.at_ l j) p=true
     · obtain⟨j,hj,hj2⟩:=g
       exact ih j hj (by omega) hj2
     · exact⟨k,hk,hh,fun i hi=>by
        cases q:AM.hit (AM.at_ l i) p
        · rfl
        · exact(g ⟨i,hi,q⟩).elim⟩
   obtain⟨k,hk,h1,h2⟩:=this
   rw[AM.mC l p k hk h2 h1]
   have:=AM.dC l k (AM.dD l hc k hk)
   exact⟨this.2.2.2.1,this.2.2.2.2⟩
 · rw[AM.jO l p (fun i hi=>by
    cases q:AM.hit (AM.at_ l i) p
    · rfl
    · exact(e ⟨i,hi,q⟩).elim)] at h
   cases h
end LM
namespace LW
open Go.RowKit
open W (ai)
theorem Ee (ao:Option Addr) (cap:Nat) (w:World) :
  Calls Tryz.prog 62 #[.slice ao 0 cap] w fun e w'=>e=.returned (.bool (LM.iu []))/\Below w.heap.size w w':=by
 go_enter Tryz.func62,Tryz.ntmps62
 go_wp2
 refine wp_loop_rounds 1 ?_
 rw[rounds_succ]
 go_wp2
 go_ret
 exact⟨rfl,Below.refl _ _⟩
theorem BW (l:List AM.Ar) (b off cap:Nat) (w:World) (hl:AM.zt w b off l) (hn:l.length<=140737488351232) :
  Calls Tryz.prog 62 #[.slice (some (Ad b off)) l.length cap] w fun e w'=>e=.returned (.bool (LM.iu l))/\Below w.heap.size w w':=by
 go_enter Tryz.func62,Tryz.ntmps62
 go_wp2
 go_loopw [7] (fun i wr=>∃k:Nat,k<=l.length/\i=I k/\LM.nE l k=false/\Below w.heap.size w wr) (fun i _=>l.length-(intOf i).toNat)
 case atStart=>exact⟨0,by omega,rfl,rfl,Below.refl _ _⟩
 case round =>
  obtain⟨k,hk,rfl,hz,hb⟩:=hrel
  have HZ:=ai hz
  have kH:=ai hb
  clear hz
  by_cases hlt:k<l.length
  · obtain⟨c0,c1,c2,c3⟩:=(hl.below hb) k hlt
    obtain⟨a,ha⟩:=ex (AM.at_ l k)
    rw[<- ha] at c0 c1 c2 c3
    have HA:=ai ha
    clear ha hb
    by_cases hzr:a.zero=true
    · have HX:Hid (LM.iu l=true):=LM.PC l k hlt (by rw[<- HA.o];exact hzr)
      go_wp2
      go_ret
      exact⟨aY (by rw[HX.o]),kH.o.alloc kH.o.size _⟩
    · have Xq:a.zero=false:=by simpa using hzr
      clear hzr
      have HX:Hid (LM.nE l (k+1)=false):=by
       show _=_
       simp only[LM.nE]
       rw[HZ.o,<- HA.o,Xq]
       rfl
      go_wp2
      go_roundw
      case rel=>exact⟨k+1,by omega,by go_num,HX.o,kH.o.alloc kH.o.size _⟩
      case measure=>simp[intOf];omega
  · obtain rfl:k=l.length:=by omega
    go_wp2
    go_ret
    exact⟨aY HZ.o.symm,kH.o⟩
theorem Ef (l:List AM.Ar) (v:Value) (w:World) (h:AW.Has w v l) (hf:AW.dE l) :
  Calls Tryz.prog 62 #[v] w fun e w'=>e=.returned (.bool (LM.iu l))/\Below w.heap.size w w':=by
 obtain⟨ao,cap,rfl,h⟩:=h
 rcases h with rfl | ⟨b,off,rfl,hl⟩
 · exact Ee ao cap w
 · exact BW l b off cap w hl hf.2
theorem vA (hs:List LM.Sh) (ao:Option Addr) (cap:Nat) (w:World) (h:LM.nZ w ao hs) (hf:LM.Jd hs) :
  Calls Tryz.prog 64 #[.slice ao hs.length cap] w fun e w'=>e=.returned (.bool (LM.mj hs))/\Below w.heap.size w w':=by
 have HF:=ai hf
 have HH:=ai h
 have hn:hs.length<=140737488351232:=hf.1
 clear h hf
 go_enter Tryz.func64,Tryz.ntmps64
 go_wp2
 go_loopw [7] (fun i wr=>∃k:Nat,k<=hs.length/\i=I k/\LM.gD hs k=true/\Below w.heap.size w wr) (fun i _=>hs.length-(intOf i).toNat)
 case atStart=>exact⟨0,by omega,rfl,rfl,Below.refl _ _⟩
 case round =>
  obtain⟨k,hk,rfl,hz,hb⟩:=hrel
  have HZ:=ai hz
  have kH:=ai hb
  clear hz
  by_cases hlt:k<hs.length
  · obtain⟨b,off,hao,hbl,bP⟩:=(HH.o.below hb) (by omega)
    subst hao
    obtain⟨c0,c1,c2,c3⟩:=bP k hlt
    have sU:=HF.o.2 k hlt
    have HE:Hid (LM.gD hs (k+1)=LM.fq (LM.gm hs k)):=by
     show _=_
     simp only[LM.gD]
     rw[HZ.o,Bool.true_and]
    have Ja:Hid (LM.fq (LM.gm hs k)=false->LM.mj hs=false):=fun e=>LM.E3 hs k hlt e
    obtain⟨s,SU⟩:=ex (LM.gm hs k)
    rw[<- SU] at c0 c1 c2 c3 sU HE Ja
    clear SU bP hb
    have dJ:=ai (kH.o.alloc kH.o.size (.cells #[I s.page,.string s.data,.slice s.ao s.ik.length s.cap] 62))
    have HC:Hid (∀W,Below wr.heap.size wr W->Calls Tryz.prog 66 #[.agg #[I s.page,.string s.data,.slice s.ao s.ik.length s.cap]] W fun e w'=>e=.returned (.bool (LM.fq s))/\Below W.heap.size W w'):=fun W hb=>oY s W (c3.below hb) sU
    clear c3 sU
    cases e:LM.fq s with
    | true =>
     rw[e] at HC HE
     clear e
     go_wp2_with (go_at_call 66;refine(HC.o _ ((Below.refl _ _).alloc (Nat.le_refl _) _)).mono ?_;rintro e w1 ⟨rfl,hb⟩;have dJ:=ai (dJ.o.trans (hb.mono dJ.o.size));clear hb)
     go_roundw
     case rel=>exact⟨k+1,by omega,by go_num,HE.o,dJ.o⟩
     case measure=>simp[intOf];omega
    | false =>
     have HX:=ai (Ja.o e)
     rw[e] at HC
     clear e Ja HE
     go_wp2_with (go_at_call 66;refine(HC.o _ ((Below.refl _ _).alloc (Nat.le_refl _) _)).mono ?_;rintro e w1 ⟨rfl,hb⟩;have dJ:=ai (dJ.o.trans (hb.mono dJ.o.size));clear hb)
     go_ret
     exact⟨aY (by rw[HX.o]),dJ.o⟩
  · obtain rfl:k=hs.length:=by omega
    go_wp2
    go_ret
    exact⟨aY HZ.o.symm,kH.o⟩
theorem oU {a a':Option Addr} {n n' m m':Nat} (h1:a=a') (h2:n=n') (h3:m=m'):Value.slice a n m=.slice a' n' m':=by rw[h1,h2,h3]
theorem py (l:List AM.Ar) (hs:List LM.Sh) (en:Int) (va:Value) (ao:Option Addr) (cap:Nat) (w:World) (ha:AW.Has w va l) (hc:AM.aD l=0) (h:LM.nZ w ao hs) (hn:hs.length<=140737488351232) (hcap:hs.length<=cap) :
  Calls Tryz.prog 63 #[.agg #[va,.slice ao hs.length cap,I en]] w fun e w'=>e=.returned (.bool (LM.eX l hs))/\Below w.heap.size w w':=by
 obtain⟨b,off,K9⟩:∃b off,0<hs.length->ao=some (Ad b off)/\b<w.heap.size/\LM.Ov w b off hs:=by
  by_cases h0:0<hs.length
  · obtain⟨b,off,h1,h2,h3⟩:=h h0
    exact⟨b,off,fun _=>⟨h1,h2,h3⟩⟩
  · exact⟨0,0,fun g=>(h0 g).elim⟩
 have ZV:=ai K9
 have HC:=ai hc
 have hlen:=AM.dY l hc
 obtain⟨aa,ca,rfl,hal⟩:=ha
 have nD:Hid (0<l.length->∃b off,aa=some (Ad b off)/\AM.zt w b off l):=fun g=>by
  rcases hal with rfl | ⟨b,off,e,hl⟩
  · exact(Nat.lt_irrefl 0 g).elim
  · exact⟨b,off,e,hl⟩
 clear K9 hc h hal
 have HB:=ai ((Below.refl w.heap.size w).alloc (Nat.le_refl _) (.cells #[.slice aa l.length ca,.slice ao hs.length cap,I en] 25))
 go_enter Tryz.func63,Tryz.ntmps63
 go_wp2
 go_loopw [12,3] (fun ix v wr=>∃(i c:Nat) (ov:Option Addr),i<=l.length/\ix=I i/\v=.slice ov (hs.length-c) (cap-c)/\c<=hs.length/\(c<hs.length->ov=some (Ad b (off+c*3)))/\(hs.take c).map (·.page)=LM.bN l i/\Below w.heap.size w wr) (fun ix _ _=>l.length-(intOf ix).toNat)
 case atStart=>exact⟨0,0,ao,by omega,rfl,rfl,by omega,fun g=>by rw[(ZV.o g).1,Nat.zero_mul,Nat.add_zero],rfl,HB.o⟩
 case round =>
  obtain⟨i,c,ov,hi,rfl,rfl,hcl,hao,htk,hb⟩:=hrel
  have O2:=ai hao
  have Cw:=ai htk
  have kH:=ai hb
  clear hao htk
  by_cases hlt:i<l.length
  · obtain⟨ba,abw,Ke,hl⟩:=nD.o (by omega)
    subst Ke
    obtain⟨c0,c1,c2,c3⟩:=(hl.below hb) i hlt
    have hbk:=AM.dC l i (AM.dD l HC.o i hlt)
    have qN:Hid (∀n,n<(AM.at_ l i).aj.toNat->∃t,LM.bk l=(LM.bN l i++LM.ju (AM.at_ l i) n)++((AM.at_ l i).page+(n:Int))::t):=fun n hn=>LM.o7 l i hlt n hn
    have kG:Hid (LM.bN l (i+1)=LM.bN l i++LM.ju (AM.at_ l i) (AM.at_ l i).aj.toNat):=rfl
    obtain⟨a,Ke⟩:=ex (AM.at_ l i)
    rw[<- Ke] at c0 c1 c2 c3 hbk qN kG
    clear Ke hb
    obtain⟨P,hP⟩:∃P:Nat,a.aj=(P:Int):=⟨a.aj.toNat,by omega⟩
    rw[hP] at c1 hbk qN kG
    rw[Int.toNat_natCast] at qN kG
    have dJ:=ai (kH.o.alloc kH.o.size (.cells #[I a.page,I (P:Int),I a.bE,.bool a.zero] 59))
    have BA:=ai (B.new wr #[I a.page,I (P:Int),I a.bE,.bool a.zero] 59)
    go_wp2
    go_loopw [18,3] (fun nx v wi=>∃(n c:Nat) (ov:Option Addr),n<=P/\nx=I n/\v=.slice ov (hs.length-c) (cap-c)/\c<=hs.length/\(c<hs.length->ov=some (Ad b (off+c*3)))/\(hs.take c).map (·.page)=LM.bN l i++LM.ju a n/\Below w.heap.size w wi/\wi.heap[wr.heap.size]?=some (.cells #[I a.page,I (P:Int),I a.bE,.bool a.zero] 59 (0,0))) (fun nx _ _=>P-(intOf nx).toNat)
    case atStart=>exact⟨0,c,ov,by omega,rfl,rfl,hcl,O2.o,by rw[Cw.o];simp[LM.ju],dJ.o,BA.o⟩
    case round =>
     obtain⟨n,c,ov,hn',rfl,rfl,hcl,hao,htk,hb,UN⟩:=hrel
     have O2:=ai hao
     have Cw:=ai htk
     have yC:=ai hb
     have Z5:=ai UN
     have x0:=B.cell UN 0 rfl
     clear hao htk UN
     by_cases K7:n<P
     · obtain⟨t,ht⟩:=qN.o n K7
       have HT:=ai ht
       clear ht
       by_cases hce:c=hs.length
       · have HX:Hid (LM.eX l hs=false):=LM.rI (by have h:=Cw.o;rw[hce] at h;exact h) HT.o
         have hz:hs.length-c=0:=by omega
         rw[hz]
         clear hz hce
         go_wp2
         go_quiet (fail)
         go_wp2
         go_ret
         exact⟨aY HX.o.symm,below_drewN yC.o _⟩
       · have vI:c<hs.length:=by omega
         have hcz:(((hs.length-c:Nat):Int)==0)=false:=by simp;omega
         have acF:0<hs.length-c:=by omega
         obtain⟨-,g2,g3⟩:=ZV.o (by omega)
         obtain⟨d0,d1,d2,d3⟩:=(LM.Xi (hb.mono (Nat.le_of_eq rfl)) g2 g3) c vI
         have Ke:=O2.o vI
         subst Ke
         have acp:(1:Int)<=((hs.length-c:Nat):Int):=by omega
         by_cases mA:(LM.gm hs c).page=a.page+(n:Int)
         · have HX:Hid ((hs.take (c+1)).map (·.page)=LM.bN l i++LM.ju a (n+1)):=by
            show _=_
            rw[LM.qH hs c vI,Cw.o,mA,LM.o8,List.append_assoc]
           rw[mA] at d0
           clear mA d1 d2 d3 hb hce
           by_cases hc1:cap-c=1
           · go_wp2
             go_quiet (fail)
             go_wp2
             go_roundw
             case rel=>exact⟨n+1,c+1,_,by omega,by go_num,oU rfl (by omega) (by omega),by omega,fun g=>by omega,HX.o,below_drewN yC.o _,Z5.o⟩
             case measure=>simp[intOf];omega
           · go_wp2
             go_quiet (fail)
             go_wp2
             go_roundw
             case rel=>exact⟨n+1,c+1,_,by omega,by go_num,oU rfl (by omega) (by omega),by omega,fun g=>by simp[Nat.add_mul,Nat.add_assoc],HX.o,below_drewN yC.o _,Z5.o⟩
             case measure=>simp[intOf];omega
         · have HX:Hid (LM.eX l hs=false):=LM.rJ vI Cw.o HT.o mA
           have hpz:((LM.gm hs c).page==a.page+(n:Int))=false:=by simpa using mA
           clear mA d1 d2 d3 hb hce
           go_wp2
           go_quiet (fail)
           go_wp2
           go_ret
           exact⟨aY HX.o.symm,below_drewN yC.o _⟩
     · obtain rfl:n=P:=by omega
       go_wp2
       go_roundw
       case rel=>exact⟨i+1,c,ov,by omega,by go_num,rfl,hcl,O2.o,by rw[kG.o];exact Cw.o,yC.o⟩
       case measure=>simp[intOf];omega
  · obtain rfl:i=l.length:=by omega
    have HX:=ai (LM.uh hcl Cw.o)
    go_wp2
    go_ret
    refine⟨aY ?_,kH.o⟩
    rw[HX.o]
    rw[Bool.eq_iff_iff]
    simp
    omega
theorem cU {k:IntKind} {a b:Int} (h:a=b):Ending.returned (.int k a)=.returned (.int k b):=by rw[h]
theorem wS (l:List AM.Ar) (va vs:Value) (en:Int) (w:World) (ha:AW.Has w va l) (hf:AW.dE l) (hc:AM.aD l=0) (he:M.dF en) (sQ:∃ao n c,va=.slice ao n c) (hvs:∃ao n c,vs=.slice ao n c) :
  Calls Tryz.prog 65 #[.agg #[va,vs,I en]] w fun e w'=>e=.returned (.bool (LM.Gr l en))/\Below w.heap.size w w':=by
 have qB:Hid (AM.aX l (en.tdiv 16)=AM.aP l (en.tdiv 16)):=by show _=_;simp[AM.aX,hc]
 have EH:=ai (LM.Gl l hc (en.tdiv 16))
 have HE:Hid (LM.Gr l en=((AM.aP l (en.tdiv 16)).2&&(decide (2<=(AM.aP l (en.tdiv 16)).1.bE)&&decide (en.tmod 8=0)))):=rfl
 have Lq:Hid (∀W,Below w.heap.size w W->Calls Tryz.prog 95 #[va,I (en.tdiv 16)] W fun e w'=>e=.returned (.tuple #[.agg (AW.cellsOf (AM.aP l (en.tdiv 16)).1),.bool (AM.aP l (en.tdiv 16)).2])/\Below W.heap.size W w'):=fun W hb=>by
  have h:=AW.DL l va (en.tdiv 16) W (ha.below hb) hf
  rw[qB.o] at h
  exact h
 obtain⟨r,hr⟩:=ex (AM.aP l (en.tdiv 16))
 rw[<- hr] at EH HE Lq
 clear hr qB ha hf hc
 obtain⟨⟨pg,pn,pr,zr⟩,ok⟩:=r
 simp only[AW.cellsOf] at Lq EH HE
 obtain⟨aa,na,ca,rfl⟩:=sQ
 obtain⟨ao,no,co,rfl⟩:=hvs
 unfold M.dF at he
 have HB:=ai ((Below.refl w.heap.size w).alloc (Nat.le_refl _) (.cells #[.slice aa na ca,.slice ao no co,I en] 25))
 have BX:=ai (B.new w #[.slice aa na ca,.slice ao no co,I en] 25)
 rw[HE.o]
 cases ok with
 | false =>
  go_enter Tryz.func65,Tryz.ntmps65
  go_wp2_with (go_at_call 95;refine(Lq.o _ HB.o).mono ?_;rintro e w1 ⟨rfl,hb⟩;have HB:=ai (HB.o.trans (hb.mono HB.o.size));clear hb)
  go_ret
  exact⟨rfl,HB.o.alloc HB.o.size _⟩
 | true =>
  have oK:=LM.Ff (EH.o rfl)
  have b0:bits BinOp.and IntKind.i64 0 2=0:=by decide
  have b1:bits BinOp.and IntKind.i64 1 2=0:=by decide
  have b2:bits BinOp.and IntKind.i64 2 2=2:=by decide
  have b3:bits BinOp.and IntKind.i64 3 2=2:=by decide
  clear EH
  by_cases h8:en.tmod 8=0
  · rcases oK with rfl | rfl | rfl | rfl
    all_goals
     go_enter Tryz.func65,Tryz.ntmps65
     go_wp2_with (go_at_call 95;refine(Lq.o _ HB.o).mono ?_;rintro e w1 ⟨rfl,hb⟩;have HB:=ai (HB.o.trans (hb.mono HB.o.size));have BX:=ai (B.below BX.o hb (B.isLt BX.o));have UK:=B.isLt BX.o;have x2:=B.cell BX.o 2 rfl;clear hb)
     go_ret
     exact⟨aY (by simp[h8]),HB.o.alloc HB.o.size _⟩
  · have h8':(en.tmod 8==0)=false:=by simpa using h8
    rcases oK with rfl | rfl | rfl | rfl
    all_goals
     go_enter Tryz.func65,Tryz.ntmps65
     go_wp2_with (go_at_call 95;refine(Lq.o _ HB.o).mono ?_;rintro e w1 ⟨rfl,hb⟩;have HB:=ai (HB.o.trans (hb.mono HB.o.size));have BX:=ai (B.below BX.o hb (B.isLt BX.o));have UK:=B.isLt BX.o;have x2:=B.cell BX.o 2 rfl;clear hb)
     go_ret
     exact⟨aY (by simp[h8]),HB.o.alloc HB.o.size _⟩
theorem isSlice {w:World} {v:Value} {l:List AM.Ar} (h:AW.Has w v l):∃ao n c,v=.slice ao n c:=by
 obtain⟨ao,cap,h,_⟩:=h
 exact⟨ao,_,cap,h⟩
theorem dx (l:List AM.Ar) (hs:List LM.Sh) (en:Int) (va:Value) (ao:Option Addr) (cap:Nat) (w:World) (ha:AW.Has w va l) (hf:AW.dE l) (h:LM.nZ w ao hs) (y9:LM.Jd hs) (hcap:hs.length<=cap) (he:M.dF en) :
  Calls Tryz.prog 21 #[.agg #[va,.slice ao hs.length cap,I en]] w fun e w'=>e=.returned (I (LM.lO l hs en))/\Below w.heap.size w w':=by
 have vQ:Hid (∀W,Below w.heap.size w W->Calls Tryz.prog 61 #[va] W fun e w'=>e=.returned (I (AM.aD l))/\Below W.heap.size W w'):=fun W hb=>AW.dx l va W (ha.below hb) hf
 have HZ:Hid (∀W,Below w.heap.size w W->Calls Tryz.prog 62 #[va] W fun e w'=>e=.returned (.bool (LM.iu l))/\Below W.heap.size W w'):=fun W hb=>Ef l va W (ha.below hb) hf
 have EK:Hid (AM.aD l=0->∀W,Below w.heap.size w W->Calls Tryz.prog 63 #[.agg #[va,.slice ao hs.length cap,I en]] W fun e w'=>e=.returned (.bool (LM.eX l hs))/\Below W.heap.size W w'):=fun hc W hb=>py l hs en va ao cap W (ha.below hb) hc (h.below hb) y9.1 hcap
 have RQ:Hid (∀W,Below w.heap.size w W->Calls Tryz.prog 64 #[.slice ao hs.length cap] W fun e w'=>e=.returned (.bool (LM.mj hs))/\Below W.heap.size W w'):=fun W hb=>vA hs ao cap W (h.below hb) y9
 have qq:Hid (AM.aD l=0->∀W,Below w.heap.size w W->Calls Tryz.prog 65 #[.agg #[va,.slice ao hs.length cap,I en]] W fun e w'=>e=.returned (.bool (LM.Gr l en))/\Below W.heap.size W w'):=fun hc W hb=>wS l va _ en W (ha.below hb) hf hc he (isSlice ha) ⟨_,_,_,rfl⟩
 have HR:Hid (LM.lO l hs en=if AM.aD l=0 then (if !LM.iu l&&(LM.eX l hs&&(LM.mj hs&&LM.Gr l en)) then 0 else 1) else AM.aD l):=rfl
 obtain⟨aa,na,ca,rfl⟩:=isSlice ha
 clear ha hf h y9 hcap he
 obtain⟨N,hN⟩:=ex hs.length
 rw[<- hN] at EK RQ qq
 rw[<- hN]
 obtain⟨z,hz⟩:=ex (LM.iu l)
 rw[<- hz] at HZ HR
 obtain⟨q,hq⟩:=ex (LM.eX l hs)
 rw[<- hq] at EK HR
 obtain⟨s,hs'⟩:=ex (LM.mj hs)
 rw[<- hs'] at RQ HR
 obtain⟨r,hr⟩:=ex (LM.Gr l en)
 rw[<- hr] at qq HR
 obtain⟨C,hC⟩:=ex (AM.aD l)
 rw[<- hC] at vQ EK qq HR
 rw[HR.o]
 clear hN hz hq hs' hr hC HR
 have HB:=ai ((Below.refl w.heap.size w).alloc (Nat.le_refl _) (.cells #[.slice aa na ca,.slice ao N cap,I en] 25))
 have BX:=ai (B.new w #[.slice aa na ca,.slice ao N cap,I en] 25)
 by_cases hc:C=0
 · subst hc
   have ad5:=ai (EK.o rfl)
   have ad3:=ai (qq.o rfl)
   clear EK qq
   rw[if_pos rfl]
   cases z <;> cases q <;> cases s <;> cases r
   all_goals
    go_enter Tryz.func21,Tryz.ntmps21
    go_wp2_with (first
     | (go_at_call 61;refine(vQ.o _ HB.o).mono ?_;rintro e w1 ⟨rfl,hb⟩;have HB:=ai (HB.o.trans (hb.mono HB.o.size));have BX:=ai (B.below BX.o hb (B.isLt BX.o));have x0:=B.cell BX.o 0 rfl;have x1:=B.cell BX.o 1 rfl;have x2:=B.cell BX.o 2 rfl;clear hb)
     | (go_at_call 62;refine(HZ.o _ HB.o).mono ?_;rintro e w1 ⟨rfl,hb⟩;have HB:=ai (HB.o.trans (hb.mono HB.o.size));have BX:=ai (B.below BX.o hb (B.isLt BX.o));have x0:=B.cell BX.o 0 rfl;have x1:=B.cell BX.o 1 rfl;have x2:=B.cell BX.o 2 rfl;clear hb)
     | (go_at_call 63;refine(ad5.o _ HB.o).mono ?_;rintro e w1 ⟨rfl,hb⟩;have HB:=ai (HB.o.trans (hb.mono HB.o.size));have BX:=ai (B.below BX.o hb (B.isLt BX.o));have x0:=B.cell BX.o 0 rfl;have x1:=B.cell BX.o 1 rfl;have x2:=B.cell BX.o 2 rfl;clear hb)
     | (go_at_call 64;refine(RQ.o _ HB.o).mono ?_;rintro e w1 ⟨rfl,hb⟩;have HB:=ai (HB.o.trans (hb.mono HB.o.size));have BX:=ai (B.below BX.o hb (B.isLt BX.o));have x0:=B.cell BX.o 0 rfl;have x1:=B.cell BX.o 1 rfl;have x2:=B.cell BX.o 2 rfl;clear hb)
     | (go_at_call 65;refine(ad3.o _ HB.o).mono ?_;rintro e w1 ⟨rfl,hb⟩;have HB:=ai (HB.o.trans (hb.mono HB.o.size));clear hb))
    go_ret
    exact⟨rfl,HB.o⟩
 · have hc':(C==0)=false:=by simpa using hc
   rw[if_neg hc]
   go_enter Tryz.func21,Tryz.ntmps21
   go_wp2_with (go_at_call 61;refine(vQ.o _ HB.o).mono ?_;rintro e w1 ⟨rfl,hb⟩;have HB:=ai (HB.o.trans (hb.mono HB.o.size));clear hb)
   go_ret
   exact⟨rfl,HB.o⟩
end LW
namespace LM
open Go.RowKit
/-! the pages of areas that are right rise -/
structure Ob where
 i:M.Im
 a:M.At
 base:Int
def ob0:Ob:=⟨⟨⟨#[]⟩,[],[],[],[],0⟩,⟨none,0,none,0,none,0,none,0⟩,0⟩
def dP (l:List Ob) (k:Nat):Ob:=l.getD k ob0
def kF (o:Ob):Array Value:=#[.string o.i.name,.slice o.a.an o.i.needs.length o.a.cn,.slice o.a.ag o.i.cW.length o.a.cg,.slice o.a.ay o.i.syms.length o.a.cy,.slice o.a.ar o.i.fu.length o.a.cr,I o.i.entry,I o.base]
def RI (w:World) (b off:Nat) (l:List Ob):Prop:=∀k,k<l.length ->
 (w.cell? (Ad b (off+k*7))=some (.string (dP l k).i.name)/\w.cell? (Ad b (off+k*7+1))=some (.slice (dP l k).a.an (dP l k).i.needs.length (dP l k).a.cn) /\
  w.cell? (Ad b (off+k*7+2))=some (.slice (dP l k).a.ag (dP l k).i.cW.length (dP l k).a.cg)/\w.cell? (Ad b (off+k*7+3))=some (.slice (dP l k).a.ay (dP l k).i.syms.length (dP l k).a.cy) /\
  w.cell? (Ad b (off+k*7+4))=some (.slice (dP l k).a.ar (dP l k).i.fu.length (dP l k).a.cr)/\w.cell? (Ad b (off+k*7+5))=some (I (dP l k).i.entry)/\w.cell? (Ad b (off+k*7+6))=some (I (dP l k).base))/\M.mH w (dP l k).a (dP l k).i
theorem abG {w w':World} {b off:Nat} {l:List Ob} (hb:Below w.heap.size w w') (hlt:b<w.heap.size) (h:RI w b off l):RI w' b off l:=fun k hk=>by
 obtain⟨⟨c0,c1,c2,c3,c4,c5,c6⟩,hi⟩:=h k hk
 exact⟨⟨(M.aA hb hlt).trans c0,(M.aA hb hlt).trans c1,(M.aA hb hlt).trans c2,(M.aA hb hlt).trans c3,(M.aA hb hlt).trans c4,(M.aA hb hlt).trans c5,(M.aA hb hlt).trans c6⟩,hi.below hb⟩
def Ox (w:World) (ao:Option Addr) (l:List Ob):Prop:=M.dU RI w ao l
theorem Ox.below {w w':World} {ao:Option Addr} {l:List Ob} (h:Ox w ao l) (hb:Below w.heap.size w w'):Ox w' ao l:=M.dU.below (lie:=RI) (fun hb hlt h=>abG hb hlt h) h hb
def mr (i:M.Im):M.Sg:=M.dB i.cW (i.cW.length-1)
def zj (o:Ob):Int:=o.base+(mr o.i).page+(mr o.i).aj
def ve (o:Ob) (Cu:Int):Int:=o.base*16+Cu
def sw (s:M.Sg):Int:=if s.wr then (if s.ex then 3 else 1) else (if s.ex then 2 else 0)
theorem nJ {i:M.Im} (hc:M.ji i=0) (k:Nat) (hk:k<i.cW.length):0<=(M.dB i.cW k).page/\1<=(M.dB i.cW k).aj/\(M.dB i.cW k).page+(M.dB i.cW k).aj<=255/\((M.dB i.cW k).data.size:Int)<=(M.dB i.cW k).aj*16:=by
 unfold M.ji at hc
 split at hc
 · simp at hc
 · split at hc
   · simp at hc
   · split at hc
     · simp at hc
     · rename_i h
       have h':M.AZ i=true:=by simpa using h
       unfold M.AZ at h'
       have:=M.ym M.fE M.O6 i.cW k hk h'
       unfold M.fE at this
       exact of_decide_eq_true this
theorem counts_of {i:M.Im} (hc:M.ji i=0):1<=i.cW.length/\i.cW.length<=6/\i.needs.length<=4/\i.syms.length<=12/\i.fu.length<=16:=by
 unfold M.ji at hc
 split at hc
 · simp at hc
 · split at hc
   · simp at hc
   · rename_i h
     have h':M.qg i=true:=by simpa using h
     unfold M.qg at h'
     exact of_decide_eq_true h'
theorem uG {i:M.Im} (hc:M.ji i=0):0<=(mr i).page/\1<=(mr i).aj/\(mr i).page+(mr i).aj<=255:=by
 have h1:=counts_of hc
 have h2:=nJ hc (i.cW.length-1) (by omega)
 exact⟨h2.1,h2.2.1,h2.2.2.1⟩
end LM
namespace LW
open Go.RowKit
open W (ai)
theorem iB (o:LM.Ob) (w:World) (h:M.mH w o.a o.i) (hc:M.ji o.i=0) (h0:0<=o.base) (h1:o.base<=100000) :
  Calls Tryz.prog 101 #[.agg (LM.kF o)] w fun e w'=>e=.returned (I (LM.zj o))/\Below w.heap.size w w':=by
 have hl:=LM.uG hc
 have hn:=LM.counts_of hc
 have HS:=h.cW
 obtain⟨⟨nm,ns,gs,ys,rs,en⟩,⟨an,cn,ag,cg,ay,cy,ar,cr⟩,ba⟩:=o
 simp only[LM.kF]
 simp only at HS hn h0 h1
 obtain⟨b,off,hag,hbl,bP⟩:=HS (by omega)
 subst hag
 have E:Hid (LM.zj ⟨⟨nm,ns,gs,ys,rs,en⟩,⟨an,cn,some (Ad b off),cg,ay,cy,ar,cr⟩,ba⟩=ba+(M.dB gs (gs.length-1)).page+(M.dB gs (gs.length-1)).aj):=rfl
 have hl':0<=(M.dB gs (gs.length-1)).page/\1<=(M.dB gs (gs.length-1)).aj/\(M.dB gs (gs.length-1)).page+(M.dB gs (gs.length-1)).aj<=255:=hl
 obtain⟨c0,c1,c2,c3,c4⟩:=bP (gs.length-1) (by omega)
 rw[E.o]
 obtain⟨s,hs⟩:=ex (M.dB gs (gs.length-1))
 rw[<- hs] at c0 c1 c2 c3 c4 hl'
 rw[<- hs]
 clear hs hl bP HS h E
 obtain⟨G,hG⟩:=ex gs.length
 rw[<- hG] at c0 c1 c2 c3 c4 hn
 rw[<- hG]
 clear hG hc
 have hG1:(1:Int)<=(G:Int):=by omega
 have hG2:0<G:=by omega
 have HB:=ai ((Below.refl w.heap.size w).alloc (Nat.le_refl _) (.cells #[.string nm,.slice an ns.length cn,.slice (some (Ad b off)) G cg,.slice ay ys.length cy,.slice ar rs.length cr,I en,I ba] 178))
 go_enter Tryz.func101,Tryz.ntmps101
 go_wp2
 go_ret
 exact⟨rfl,HB.o.alloc HB.o.size _⟩
theorem Eh (o:LM.Ob) (Cu:Int) (w:World) (h0:0<=o.base) (h1:o.base<=100000) (h2:0<=Cu) (h3:Cu<=100000) :
  Calls Tryz.prog 104 #[.agg (LM.kF o),I Cu] w fun e w'=>e=.returned (I (LM.ve o Cu))/\Below w.heap.size w w':=by
 obtain⟨⟨nm,ns,gs,ys,rs,en⟩,⟨an,cn,ag,cg,ay,cy,ar,cr⟩,ba⟩:=o
 simp only[LM.kF,LM.ve]
 simp only at h0 h1
 go_enter Tryz.func104,Tryz.ntmps104
 go_wp2
 go_ret
 exact⟨rfl,(Below.refl _ _).alloc (Nat.le_refl _) _⟩
theorem Mk (s:M.Sg) (w:World) :
  Calls Tryz.prog 122 #[.agg #[I s.page,I s.aj,.string s.data,.bool s.wr,.bool s.ex]] w fun e w'=>e=.returned (I (LM.sw s))/\Below w.heap.size w w':=by
 obtain⟨pg,pn,dt,wr,ex⟩:=s
 have b1:bits BinOp.or IntKind.i64 0 1=1:=by decide
 have b2:bits BinOp.or IntKind.i64 0 2=2:=by decide
 have b3:bits BinOp.or IntKind.i64 1 2=3:=by decide
 cases wr <;> cases ex
 all_goals
  go_enter Tryz.func122,Tryz.ntmps122
  go_wp2
  go_ret
  exact⟨cU (by first | rfl | simp[LM.sw,b1,b2,b3]),(Below.refl _ _).alloc (Nat.le_refl _) _⟩
end LW
namespace W
open Go.RowKit
end W
end Go.Proofs.YtkdigjpejnebkaaGreat
