import Derived.Test.YtpgifpeohlllfaaGreatGS00
import Derived.Test.YtpgifpeohlllfaaGreatGS02
set_option maxHeartbeats 20000000
set_option linter.unusedVariables false
set_option maxRecDepth 100000
set_option linter.unusedSimpArgs false
namespace Go.Proofs.YtpgifpeohlllfaaGreat
namespace AM
open Go.RowKit
def look (l:List Ar) (n:Nat):St:=let r:=aM l n;if r.2 then ⟨true,r.1.bO,r.1.zero⟩ else off
def iT (G:List Ar):Ar:=at_ G (G.length-1)
def iz (G:List Ar) (a:Ar):Bool:=dQ a.page a.aH&&iO a.bO&&(G.length==0 || fG (iT G) a)
theorem yK (p n q:Int) (z:Bool) (x:Int):hit ⟨p,n,q,z⟩ x=decide (p<=x/\x<p+n):=rfl
theorem mY (a:Ar) (x:Int):hit a x=true↔a.page<=x/\x<a.page+a.aH:=⟨fun h=>of_decide_eq_true h,fun h=>decide_eq_true h⟩
theorem eT (G:List Ar) (a:Ar):iT (G++[a])=a:=by simp[iT,at_]
theorem rp (G H:List Ar):∀k,k<=G.length->gB (G++H) k=gB G k
 | 0,_=>rfl
 | k+1,h=>by
  simp only[gB,rp G H k (by omega)]
  congr 1
  unfold nu
  rw[iD G H k (by omega)]
  by_cases e:k=0
  · subst e;rfl
  · rw[iD G H (k-1) (by omega)]
theorem iM (G:List Ar) (a:Ar):good (G++[a])=(good G&&iz G a):=by
 unfold good
 rw[List.length_append]
 show gB (G++[a]) (G.length+1)=_
 simp only[gB,rp G [a] G.length (Nat.le_refl _)]
 congr 1
 unfold nu iz iT
 rw[mH]
 by_cases e:G.length=0
 · simp[e]
 · rw[iD G [a] (G.length-1) (by omega)]
theorem nA:∀(G:List Ar) (a:Ar) (p:Int),aM (G++[a]) p=if (aM G p).2 then aM G p else if hit a p then (a,true) else (nil,false)
 | [],a,p=>by simp[aM]
 | b::r,a,p=>by
  simp only[List.cons_append,aM]
  by_cases h:hit b p=true
  · simp[h]
  · simp[h,nA r a p]
theorem rz:∀(G:List Ar) (p:Int),(aM G p).2=false->aM G p=(nil,false)
 | [],p,_=>rfl
 | b::r,p,h=>by
  simp only[aM] at h ⊢
  by_cases c:hit b p=true
  · simp[c] at h
  · simp only[c] at h ⊢
    exact rz r p h
theorem nY (G:List Ar) (a:Ar) (n:Nat):look (G++[a]) n=if (aM G n).2 then look G n else if hit a n then ⟨true,a.bO,a.zero⟩ else off:=by
 unfold look
 rw[nA]
 by_cases h:(aM G n).2=true
 · simp[h]
 · simp only[h]
   by_cases c:hit a n=true
   · simp[c]
   · simp[c]
theorem jx:∀(m:Nat) (G:List Ar),G.length=m->good G=true->∀p:Int,(aM G p).2=true->1<=p/\p<(iT G).ez
 | 0,G,hm,_,p,h=>by
  have e:G=[]:=List.eq_nil_of_length_eq_zero hm
  subst e;simp[aM] at h
 | m+1,G,hm,hg,p,h=>by
  rcases List.eq_nil_or_concat G with rfl | ⟨H,a,rfl⟩
  · simp at hm
  · rw[List.concat_eq_append] at *
    rw[iM,Bool.and_eq_true] at hg
    obtain⟨U9,hok⟩:=hg
    rw[eT]
    simp only[iz,Bool.and_eq_true,dQ,decide_eq_true_eq] at hok
    obtain⟨⟨Yk,_⟩,hfo⟩:=hok
    rw[nA] at h
    by_cases c:(aM H p).2=true
    · have ih:=jx m H (by simpa using hm) U9 p c
      refine⟨ih.1,?_⟩
      have hne:¬H.length=0:=by
       intro e
       have e':H=[]:=List.eq_nil_of_length_eq_zero e
       subst e';simp[aM] at c
      simp only[beq_iff_eq,Bool.or_eq_true,hne,false_or] at hfo
      have hle:(iT H).ez<=a.page:=by
       unfold fG at hfo
       split at hfo
       · omega
       · simp at hfo;omega
      unfold Ar.ez at *
      omega
    · simp only[c] at h
      by_cases d:hit a p=true
      · simp only[hit,decide_eq_true_eq] at d
        unfold Ar.ez at *
        omega
      · simp[d] at h
structure tT (F:Nat->St):Prop where
 zero:(F 0).m=false
 none:∀n,(F n).m=false->F n=off
 bO:∀n,0<=(F n).p/\(F n).p<=3
theorem LG (H:List Ar) (a:Ar):zn (H++[a])=H++[⟨a.page,a.aH+1,a.bO,a.zero⟩]:=by
 unfold zn
 have e:at_ (H++[a]) ((H++[a]).length-1)=a:=eT H a
 rw[e]
 simp
structure aex (F:Nat->St) (k:Nat) (G:List Ar):Prop where
 good:good G=true
 look:∀n:Nat,AM.look G n=if n<k then F n else off
 yes:(eH F k).m=true->0<G.length/\(iT G).ez=k/\(iT G).bO=(eH F k).p/\(iT G).zero=(eH F k).z
 no:(eH F k).m=false->G.length=0∨(iT G).ez<k∨k=0
theorem Eg (G:List Ar) (n:Nat) (h:AM.look G n=off):(aM G n).2=false:=by
 unfold AM.look at h
 by_cases c:(aM G n).2=true
 · simp only[c,if_true] at h
   have:=congrArg St.m h
   simp[off] at this
 · simpa using c
theorem oK (F:Nat->St) (hF:tT F):∀k,k<=256->aex F k (bg F k)
 | 0,_=>⟨rfl,fun n=>rfl,fun h=>by simp[eH,off] at h,fun _=>.inl rfl⟩
 | k+1,hk=>by
  have ih:=oK F hF k (by omega)
  obtain⟨G,hG⟩:=ex (bg F k)
  rw[<- hG] at ih
  simp only[bg]
  rw[<- hG]
  by_cases hm:(F k).m=false
  · rw[if_pos hm]
    refine⟨ih.good,fun n=>?_,fun h=>?_,fun _=>?_⟩
    · rw[ih.look n]
      by_cases h1:n<k
      · rw[if_pos h1,if_pos (by omega)]
      · rw[if_neg h1]
        by_cases h2:n<k+1
        · obtain rfl:n=k:=by omega
          rw[if_pos h2,hF.none n hm]
        · rw[if_neg h2]
    · have:(F k).m=true:=h
      rw[hm] at this;cases this
    · by_cases hl:(eH F k).m=true
      · obtain⟨h0,h1,_⟩:=ih.yes hl
        exact .inr (.inl (by rw[h1];omega))
      · rcases ih.no (by simpa using hl) with h | h | h
        · exact .inl h
        · exact .inr (.inl (by omega))
        · subst h
          have:G=[]:=hG
          exact .inl (by rw[this];rfl)
  · have hm':(F k).m=true:=by simpa using hm
    rw[if_neg hm]
    have hk1:1<=k:=by
     by_cases e:k=0
     · subst e;rw[hF.zero] at hm';cases hm'
     · omega
    have o5:=Eg G k (by rw[ih.look k,if_neg (by omega)])
    by_cases he:qL (F k) (eH F k)=true
    · rw[if_pos he]
      have hst:=B6 _ _ he
      obtain⟨h0,h1,h2,h3⟩:=ih.yes (by rw[<- hst];exact hm')
      rcases List.eq_nil_or_concat G with hnil | ⟨H,a,hH⟩
      · rw[hnil] at h0;simp at h0
      · rw[List.concat_eq_append] at hH
        rw[hH,eT] at h1 h2 h3
        have hg:=ih.good
        rw[hH,iM,Bool.and_eq_true] at hg
        obtain⟨U9,hok⟩:=hg
        have Yl:=hok
        simp only[iz,Bool.and_eq_true,dQ,decide_eq_true_eq] at Yl
        obtain⟨⟨Yk,Ew⟩,hfo⟩:=Yl
        rw[hH,LG]
        unfold Ar.ez at h1
        refine⟨?_,fun n=>?_,fun _=>⟨by simp,?_,?_,?_⟩,fun h=>?_⟩
        · rw[iM,U9,Bool.true_and]
          simp only[iz,Bool.and_eq_true,dQ,decide_eq_true_eq]
          exact⟨⟨⟨Yk.1,by omega,by omega⟩,Ew⟩,hfo⟩
        · have hl:=ih.look n
          rw[hH] at hl
          rw[nY] at hl ⊢
          by_cases c:(aM H n).2=true
          · rw[if_pos c] at hl ⊢
            rw[hl]
            have hb:=jx _ H rfl U9 n c
            have hle:(n:Int)<a.page+a.aH:=by
             have hne:¬H.length=0:=by
              intro e
              have e':H=[]:=List.eq_nil_of_length_eq_zero e
              subst e';simp[aM] at c
             simp only[beq_iff_eq,Bool.or_eq_true,hne,false_or] at hfo
             have hle:(iT H).ez<=a.page:=by
              unfold fG at hfo
              split at hfo
              · omega
              · simp at hfo;omega
             omega
            rw[if_pos (show n<k by omega),if_pos (show n<k+1 by omega)]
          · rw[if_neg c] at hl ⊢
            by_cases d:n=k
            · subst d
              rw[if_pos (by rw[yK];exact decide_eq_true (by omega)),if_pos (by omega)]
              show St.mk true a.bO a.zero=F n
              rw[h2,h3,<- hst,<- hm']
            · by_cases e:hit a n=true
              · rw[if_pos e] at hl
                have e2:hit ⟨a.page,a.aH+1,a.bO,a.zero⟩ n=true:=by
                 rw[mY] at e;rw[yK];exact decide_eq_true (by omega)
                rw[if_pos e2]
                show St.mk true a.bO a.zero=_
                rw[hl]
                rw[mY] at e
                rw[if_pos (show n<k by omega),if_pos (show n<k+1 by omega)]
              · have e2:¬hit ⟨a.page,a.aH+1,a.bO,a.zero⟩ n=true:=by
                 rw[mY] at e;rw[yK,decide_eq_true_eq];omega
                rw[if_neg e] at hl
                rw[if_neg e2,hl]
                by_cases f:n<k
                · rw[if_pos f,if_pos (by omega)]
                · rw[if_neg f,if_neg (by omega)]
        · rw[eT];show a.page+(a.aH+1)=_;omega
        · rw[eT];show a.bO=(F k).p;rw[h2,hst]
        · rw[eT];show a.zero=(F k).z;rw[h3,hst]
        · have:(F k).m=false:=h
          rw[hm'] at this;cases this
    · have he':qL (F k) (eH F k)=false:=by simpa using he
      rw[if_neg he]
      refine⟨?_,fun n=>?_,fun _=>⟨by simp,?_,?_,?_⟩,fun h=>?_⟩
      · rw[iM,ih.good,Bool.true_and]
        simp only[iz,Bool.and_eq_true,dQ,iO,decide_eq_true_eq]
        refine⟨⟨⟨by omega,by omega,by omega⟩,hF.bO k⟩,?_⟩
        by_cases h0:G.length=0
        · simp[h0]
        · simp only[Bool.or_eq_true,beq_iff_eq,h0,false_or]
          by_cases hl:(eH F k).m=true
          · obtain⟨_,h1,h2,h3⟩:=ih.yes hl
            unfold fG
            rw[if_pos h1.symm]
            rcases IC _ _ he' with q | ⟨_,q⟩ | ⟨_,_,q⟩
            · rw[hm',hl] at q;simp at q
            · simp only[Bool.or_eq_true,bne_iff_ne,h2]
              left
              simpa using q
            · simp only[Bool.or_eq_true,bne_iff_ne,h3]
              right
              simpa using q
          · rcases ih.no (by simpa using hl) with h | h | h
            · exact absurd h h0
            · unfold fG
              rw[if_neg (by show ¬(k:Int)=_;omega)]
              simpa using h
            · omega
      · rw[nY]
        by_cases c:(aM G n).2=true
        · rw[if_pos c,ih.look n]
          by_cases f:n<k
          · rw[if_pos f,if_pos (by omega)]
          · exfalso
            have:=Eg G n (by rw[ih.look n,if_neg f])
            rw[c] at this;cases this
        · rw[if_neg c]
          have c':(aM G n).2=false:=by simpa using c
          by_cases d:n=k
          · subst d
            rw[if_pos (by rw[yK];exact decide_eq_true (by omega)),if_pos (by omega)]
            show St.mk true (F n).p (F n).z=F n
            rw[<- hm']
          · rw[if_neg (by rw[yK,decide_eq_true_eq];omega)]
            have hl:=ih.look n
            have e0:AM.look G n=off:=by unfold AM.look;simp[c']
            rw[e0] at hl
            by_cases f:n<k
            · rw[if_pos f] at hl;rw[if_pos (by omega),hl]
            · rw[if_neg (by omega)]
      · rw[eT];show(k:Int)+1=_;omega
      · rw[eT];rfl
      · rw[eT];rfl
      · have:(F k).m=false:=h
        rw[hm'] at this;cases this
theorem vI (F:Nat->St) (hF:tT F):good (eJ F)=true:=(oK F hF 256 (Nat.le_refl _)).good
theorem vD (F:Nat->St) (hF:tT F) (n:Nat) (hn:n<256):look (eJ F) n=F n:=by
 have:=(oK F hF 256 (Nat.le_refl _)).look n
 rw[if_pos hn] at this
 exact this
theorem mN (l:List Ar):∀(m:Nat) (G:List Ar),G.length=m->good G=true->∀n:Nat,look G n=bB G G.length n
 | 0,G,hm,_,n=>by
  have e:G=[]:=List.eq_nil_of_length_eq_zero hm
  subst e;rfl
 | m+1,G,hm,hg,n=>by
  rcases List.eq_nil_or_concat G with rfl | ⟨H,a,rfl⟩
  · simp at hm
  · rw[List.concat_eq_append] at *
    rw[iM,Bool.and_eq_true] at hg
    have ih:=mN l m H (by simpa using hm) hg.1 n
    have hs:∀k,k<=H.length->bB (H++[a]) k=bB H k:=by
     intro k
     induction k with
     | zero=>intro _;rfl
     | succ k ihk=>intro hk;simp only[bB];rw[ihk (by omega),iD H [a] k (by omega)]
    rw[List.length_append]
    show _=bB (H++[a]) (H.length+1) n
    simp only[bB]
    rw[hs H.length (Nat.le_refl _),mH,nY]
    simp only[gP]
    by_cases c:(aM H n).2=true
    · rw[if_pos c,ih]
      have hb:=jx _ H rfl hg.1 n c
      have hok:=hg.2
      simp only[iz,Bool.and_eq_true] at hok
      have hfo:=hok.2
      have hne:¬H.length=0:=by
       intro e
       have e':H=[]:=List.eq_nil_of_length_eq_zero e
       subst e';simp[aM] at c
      simp only[beq_iff_eq,Bool.or_eq_true,hne,false_or] at hfo
      have hle:(iT H).ez<=a.page:=by
       unfold fG at hfo
       split at hfo
       · omega
       · simp at hfo;omega
      rw[if_neg (by omega)]
    · rw[if_neg c]
      have e0:look H n=off:=by unfold look;simp[show(aM H n).2=false by simpa using c]
      by_cases d:hit a n=true
      · rw[if_pos d,if_pos (by simpa [hit] using d)]
      · rw[if_neg d,if_neg (by simpa [hit] using d),<- ih,e0]
theorem rh (l:List Ar) (h:aR l=0):good l=true:=by
 unfold aR at h
 split at h
 · simp at h
 · split at h
   · assumption
   · simp at h
theorem qT (l:List Ar) (hc:aR l=0):∀k,k<=l.length->(bB l k 0).m=false/\(∀n,(bB l k n).m=false->bB l k n=off)/\(∀n,0<=(bB l k n).p/\(bB l k n).p<=3)
 | 0,_=>⟨rfl,fun n _=>rfl,fun n=>by simp[bB,off]⟩
 | k+1,hk=>by
  have ih:=qT l hc k (by omega)
  have ho:=df l k (cR l hc k (by omega))
  refine⟨?_,fun n=>?_,fun n=>?_⟩
  · simp only[bB,gP];rw[if_neg (by omega)];exact ih.1
  · simp only[bB,gP]
    split
    · intro h;simp at h
    · exact ih.2.1 n
  · simp only[bB,gP]
    split
    · exact⟨ho.2.2.2.1,ho.2.2.2.2⟩
    · exact ih.2.2 n
theorem vN (l:List Ar) (hc:aR l=0):tT (cK l):=by
 have h:=qT l hc l.length (Nat.le_refl _)
 exact⟨h.1,h.2.1,h.2.2⟩
theorem EL (F:Nat->St) (hF:tT F) (how:St->St×Int) (page t:Int) (hp:1<=page)
  (hn:∀s,(s.m=false->s=off)->((how s).1.m=false->(how s).1=off)) (hq:∀s,0<=s.p/\s.p<=3->0<=(how s).1.p/\(how s).1.p<=3):tT (turned F how page t):=by
 refine⟨?_,fun n=>?_,fun n=>?_⟩
 · simp only[turned];rw[if_neg (by omega)];exact hF.zero
 · simp only[turned]
   split
   · exact hn (F n) (hF.none n)
   · exact hF.none n
 · simp only[turned]
   split
   · exact hq (F n) (hF.bO n)
   · exact hF.bO n
theorem vH (F:Nat->St) (h0:(F 0).m=false):∀k,(bg F (k+1)).length<=k
 | 0=>by simp[bg,h0]
 | k+1=>by
  have ih:=vH F h0 k
  rw[bg]
  split
  · omega
  · split
    · rw[jH];omega
    · simp;omega
theorem oM (F:Nat->St) (hF:tT F):aR (eJ F)=0:=by
 have hl:(eJ F).length<=255:=vH F hF.zero 255
 have hg:=vI F hF
 unfold aR
 rw[if_neg (by omega),if_pos hg]
theorem tL (l:List Ar) (hc:aR l=0) (F:Nat->St) (p:Nat) (h:look l p=F p):(aT l p).2=(F p).m/\(aT l p).1.bO=(F p).p/\(aT l p).1.zero=(F p).z:=by
 have e:aT l p=aM l p:=by simp[aT,hc]
 rw[e,<- h]
 unfold look
 by_cases c:(aM l p).2=true
 · simp[c]
 · have c':(aM l p).2=false:=by simpa using c
   rw[rz l p c']
   simp[nil,off]
theorem EP (F:Nat->St) (hF:tT F) (p:Nat) (hp:p<256):(aT (eJ F) p).2=(F p).m/\(aT (eJ F) p).1.bO=(F p).p/\(aT (eJ F) p).1.zero=(F p).z :=
 tL _ (oM F hF) F p (vD F hF p hp)
theorem EO (l:List Ar) (hc:aR l=0) (p:Nat):(aT l p).2=(cK l p).m/\(aT l p).1.bO=(cK l p).p/\(aT l p).1.zero=(cK l p).z :=
 tL l hc (cK l) p (mN l _ l rfl (rh l hc) p)
theorem fX (l:List Ar) (hc:aR l=0):(∀i,i<l.length->Fits (at_ l i))/\l.length<=140737488351232:=by
 refine⟨fun i hi=>?_,by have:=gQ l hc;omega⟩
 have ho:=df l i (cR l hc i hi)
 unfold Fits
 omega
theorem EU (F:Nat->St) (how:St->St×Int):∀(c n:Nat),ik F how n c=0->∀k,n<=k->k<n+c->(how (F k)).2=0
 | 0,n,_,k,h1,h2=>by omega
 | c+1,n,h,k,h1,h2=>by
  simp only[ik] at h
  split at h
  · rename_i h0
    by_cases e:k=n
    · rw[e];exact h0
    · exact EU F how c (n+1) h k (by omega) (by omega)
  · rename_i h0;exact absurd h h0
end AM
namespace LM
open Go.RowKit
def gI (a:AM.Ar) (n:Nat):List Int:=(List.range n).map (fun m:Nat=>a.page+(m:Int))
def dA (l:List AM.Ar):Nat->List Int
 | 0=>[]
 | i+1=>dA l i++gI (AM.at_ l i) (AM.at_ l i).aH.toNat
def dO (l:List AM.Ar):List Int:=dA l l.length
def eB (l:List AM.Ar) (hs:List Sh):Bool:=decide (hs.map (·.page)=dO l)
def km (l:List AM.Ar):Nat->Bool
 | 0=>false
 | k+1=>km l k || (AM.at_ l k).zero
def fe (l:List AM.Ar):Bool:=km l l.length
def gy (hs:List Sh):Nat->Bool
 | 0=>true
 | k+1=>gy hs k&&bN (aW hs k)
def jm (hs:List Sh):Bool:=gy hs hs.length
def j4 (l:List AM.Ar) (en:Int):Bool:=(AM.aM l (en.tdiv 16)).2&&(decide (2<=(AM.aM l (en.tdiv 16)).1.bO)&&decide (en.tmod 8=0))
def gF (l:List AM.Ar) (hs:List Sh) (en:Int):Int:=if AM.aR l=0 then (if !fe l&&(eB l hs&&(jm hs&&j4 l en)) then 0 else 1) else AM.aR l
theorem mP (a:AM.Ar) (n:Nat):gI a (n+1)=gI a n++[a.page+(n:Int)]:=by
 unfold gI
 rw[List.range_succ,List.map_append]
 rfl
theorem Co (a:AM.Ar) (n m:Nat) (h:n<m):∃t,gI a m=gI a n++(a.page+(n:Int))::t:=by
 induction m with
 | zero=>omega
 | succ m ih =>
  by_cases e:n=m
  · subst e;exact⟨[],mP a n⟩
  · obtain⟨t,ht⟩:=ih (by omega)
    exact⟨t++[a.page+(m:Int)],by rw[mP,ht];simp⟩
theorem s6 (l:List AM.Ar) (i:Nat):∀n,i<=n->∃t,dA l n=dA l i++t
 | 0, h => by obtain rfl:i=0 := by omega
              exact⟨[],by simp⟩
 | n+1,h=>by
  by_cases e:i=n+1
  · subst e;exact⟨[],by simp⟩
  · obtain⟨t,ht⟩:=s6 l i n (by omega)
    exact⟨t++gI (AM.at_ l n) (AM.at_ l n).aH.toNat,by simp only[dA];rw[ht,List.append_assoc]⟩
theorem D7 (l:List AM.Ar) (i:Nat) (hi:i<l.length) (n:Nat) (hn:n<(AM.at_ l i).aH.toNat):∃t,dO l=(dA l i++gI (AM.at_ l i) n)++((AM.at_ l i).page+(n:Int))::t:=by
 obtain⟨t,ht⟩:=s6 l (i+1) l.length (by omega)
 obtain⟨u,hu⟩:=Co (AM.at_ l i) n _ hn
 refine⟨u++t,?_⟩
 unfold dO
 rw[ht]
 simp only[dA]
 rw[hu]
 simp
theorem uT (l:List AM.Ar):∀(k n:Nat),k<=n->km l k=true->km l n=true
 | k, 0, h, hk => by obtain rfl:k=0 := by omega
                     exact hk
 | k,n+1,h,hk=>by
  by_cases e:k=n+1
  · subst e;exact hk
  · simp[km,uT l k n (by omega) hk]
theorem Qv (l:List AM.Ar) (k:Nat) (hk:k<l.length) (h:(AM.at_ l k).zero=true):fe l=true:=uT l (k+1) l.length (by omega) (by simp[km,h])
theorem Ap (l:List AM.Ar):∀n,km l n=false->∀i,i<n->(AM.at_ l i).zero=false
 | 0,_,i,hi=>by omega
 | n+1,h,i,hi=>by
  simp only[km,Bool.or_eq_false_iff] at h
  by_cases e:i=n
  · subst e;exact h.2
  · exact Ap l n h.1 i (by omega)
theorem pL (l:List Sh):∀(k n:Nat),k<=n->gy l k=false->gy l n=false
 | k, 0, h, hk => by obtain rfl:k=0 := by omega
                     exact hk
 | k,n+1,h,hk=>by
  by_cases e:k=n+1
  · subst e;exact hk
  · simp[gy,pL l k n (by omega) hk]
theorem Gh (l:List Sh) (k:Nat) (hk:k<l.length) (h:bN (aW l k)=false):jm l=false:=pL l (k+1) l.length (by omega) (by simp[gy,h])
theorem uW (l:List Sh):∀n,gy l n=true->∀i,i<n->bN (aW l i)=true
 | 0,_,i,hi=>by omega
 | n+1,h,i,hi=>by
  simp only[gy,Bool.and_eq_true] at h
  by_cases e:i=n
  · subst e;exact h.2
  · exact uW l n h.1 i (by omega)
theorem qY (hs:List Sh) (c:Nat) (h:c<hs.length):(hs.take (c+1)).map (·.page)=(hs.take c).map (·.page)++[(aW hs c).page]:=by
 rw[List.take_succ_eq_append_getElem h,List.map_append]
 unfold aW
 rw[List.getD_eq_getElem?_getD,List.getElem?_eq_getElem h]
 rfl
theorem Hr {l:List AM.Ar} {hs:List Sh} {pre t:List Int} {x:Int} (hp:(hs.take hs.length).map (·.page)=pre) (ho:dO l=pre++x::t):eB l hs=false:=by
 unfold eB
 refine decide_eq_false (fun e=>?_)
 rw[List.take_length] at hp
 rw[hp,ho] at e
 have:=congrArg List.length e
 simp at this
theorem Hs {l:List AM.Ar} {hs:List Sh} {pre t:List Int} {x:Int} {c:Nat} (hc:c<hs.length) (hp:(hs.take c).map (·.page)=pre) (ho:dO l=pre++x::t) (hx:(aW hs c).page≠x):eB l hs=false:=by
 unfold eB
 refine decide_eq_false (fun e=>?_)
 have h1:=qY hs c hc
 rw[hp] at h1
 have h2:hs.map (·.page)=(hs.take (c+1)).map (·.page)++(hs.drop (c+1)).map (·.page):=by rw[<- List.map_append,List.take_append_drop]
 rw[h2,h1,ho,List.append_assoc] at e
 have:=List.append_cancel_left e
 simp at this
 exact hx this.1
theorem Lu {l:List AM.Ar} {hs:List Sh} {c:Nat} (hc:c<=hs.length) (hp:(hs.take c).map (·.page)=dA l l.length):eB l hs=decide (c=hs.length):=by
 unfold eB
 by_cases e:c=hs.length
 · subst e
   rw[List.take_length] at hp
   have hp':hs.map (·.page)=dO l:=hp
   rw[decide_eq_true hp',decide_eq_true rfl]
 · rw[decide_eq_false e]
   refine decide_eq_false (fun g=>?_)
   have h1:=congrArg List.length hp
   have h2:=congrArg List.length g
   rw[List.length_map,List.length_take] at h1
   rw[List.length_map] at h2
   unfold dO at h2
   omega
def Py (w:World) (b off:Nat) (l:List Sh):Prop:=∀i,i<l.length ->
 w.cell? (Ad b (off+i*3))=some (I (aW l i).page)/\w.cell? (Ad b (off+i*3+1))=some (.string (aW l i).data)/\w.cell? (Ad b (off+i*3+2))=some (.slice (aW l i).ao (aW l i).bh.length (aW l i).cap)/\nE w (aW l i).ao (aW l i).bh
theorem QY {w w':World} {b off:Nat} {l:List Sh} (hb:Below w.heap.size w w') (hlt:b<w.heap.size) (h:Py w b off l):Py w' b off l:=fun i hi=>by
 obtain⟨c0,c1,c2,c3⟩:=h i hi
 exact⟨(M.bk hb hlt).trans c0,(M.bk hb hlt).trans c1,(M.bk hb hlt).trans c2,c3.below hb⟩
def gT (w:World) (ao:Option Addr) (l:List Sh):Prop:=M.fh Py w ao l
theorem gT.below {w w':World} {ao:Option Addr} {l:List Sh} (h:gT w ao l) (hb:Below w.heap.size w w'):gT w' ao l:=M.fh.below (lie:=Py) (fun hb hlt h=>QY hb hlt h) h hb
def lJ (l:List Sh):Prop:=M.bf l.length/\∀k,k<l.length->De (aW l k)
theorem x9 {p:Int} (h:0<=p/\p<=3):p=0∨p=1∨p=2∨p=3:=by omega
theorem yP (l:List AM.Ar) (hc:AM.aR l=0) (p:Int) (h:(AM.aM l p).2=true):0<=(AM.aM l p).1.bO/\(AM.aM l p).1.bO<=3:=by
 by_cases e:∃k,k<l.length/\AM.hit (AM.at_ l k) p=true
 · obtain⟨k,hk,hh⟩:=e
   have:∃k,k<l.length/\AM.hit (AM.at_ l k) p=true/\∀i,i<k->AM.hit (AM.at_ l i) p=false:=by
    induction k using Nat.strongRecOn with
    | _ k ih =>
     by_cases g:∃j,j<k/\AM.hit (AM.at_ l j) p=true
     · obtain⟨j,hj,G8⟩:=g
       exact ih j hj (by omega) G8
     · exact⟨k,hk,hh,fun i hi=>by
        cases q:AM.hit (AM.at_ l i) p
        · rfl
        · exact(g ⟨i,hi,q⟩).elim⟩
   obtain⟨k,hk,h1,h2⟩:=this
   rw[AM.jF l p k hk h2 h1]
   have:=AM.df l k (AM.cR l hc k hk)
   exact⟨this.2.2.2.1,this.2.2.2.2⟩
 · rw[AM.jd l p (fun i hi=>by
    cases q:AM.hit (AM.at_ l i) p
    · rfl
    · exact(e ⟨i,hi,q⟩).elim)] at h
   cases h
def gz (hs:List Sh) (k:Nat):Bool:=k==0 || decide ((aW hs (k-1)).page<(aW hs k).page)
def cB (hs:List Sh):Nat->Bool
 | 0=>true
 | k+1=>cB hs k&&(bN (aW hs k)&&gz hs k)
def cV (hs:List Sh):Bool:=cB hs hs.length
theorem jP (l:List Sh):∀(k n:Nat),k<=n->cB l k=false->cB l n=false
 | k, 0, h, hk => by obtain rfl:k=0 := by omega
                     exact hk
 | k,n+1,h,hk=>by
  by_cases e:k=n+1
  · subst e;exact hk
  · simp[cB,jP l k n (by omega) hk]
theorem DY (l:List Sh) (k:Nat) (hk:k<l.length) (h:(bN (aW l k)&&gz l k)=false):cV l=false:=jP l (k+1) l.length (by omega) (by simp only[cB];rw[h,Bool.and_false])
theorem jz (l:List Sh):∀n,cB l n=true->∀i,i<n->bN (aW l i)=true/\gz l i=true
 | 0,_,i,hi=>by omega
 | n+1,h,i,hi=>by
  simp only[cB,Bool.and_eq_true] at h
  by_cases e:i=n
  · subst e;exact h.2
  · exact jz l n h.1 i (by omega)
theorem AH (l:List Sh):∀n,(∀i,i<n->bN (aW l i)=true/\gz l i=true)->cB l n=true
 | 0,_=>rfl
 | n+1,h=>by
  simp only[cB,Bool.and_eq_true]
  exact⟨AH l n (fun i hi=>h i (by omega)),h n (by omega)⟩
def G1 (l:List AM.Ar) (hs:List Sh) (k:Nat):Bool:=(AM.aM l (aW hs k).page).2&&!(AM.aM l (aW hs k).page).1.zero
def mr (l:List AM.Ar) (hs:List Sh):Nat->Bool
 | 0=>true
 | k+1=>mr l hs k&&G1 l hs k
theorem yG (l:List AM.Ar) (hs:List Sh):∀(k n:Nat),k<=n->mr l hs k=false->mr l hs n=false
 | k, 0, h, hk => by obtain rfl:k=0 := by omega
                     exact hk
 | k,n+1,h,hk=>by
  by_cases e:k=n+1
  · subst e;exact hk
  · simp[mr,yG l hs k n (by omega) hk]
theorem UN (l:List AM.Ar) (hs:List Sh) (k:Nat) (hk:k<hs.length) (h:G1 l hs k=false):mr l hs hs.length=false:=yG l hs (k+1) hs.length (by omega) (by simp only[mr];rw[h,Bool.and_false])
theorem CF (l:List AM.Ar) (hs:List Sh):∀n,mr l hs n=true->∀i,i<n->G1 l hs i=true
 | 0,_,i,hi=>by omega
 | n+1,h,i,hi=>by
  simp only[mr,Bool.and_eq_true] at h
  by_cases e:i=n
  · subst e;exact h.2
  · exact CF l hs n h.1 i (by omega)
theorem I7 (l:List AM.Ar) (hs:List Sh):∀n,(∀i,i<n->G1 l hs i=true)->mr l hs n=true
 | 0,_=>rfl
 | n+1,h=>by
  simp only[mr,Bool.and_eq_true]
  exact⟨I7 l hs n (fun i hi=>h i (by omega)),h n (by omega)⟩
def iU (l:List AM.Ar) (hs:List Sh) (en:Int):Int:=if AM.aR l=0 then (if decide ((hs.length:Int)=AM.sumTo l l.length)&&(cV hs&&(mr l hs hs.length&&j4 l en)) then 0 else 1) else AM.aR l
/-! the pages of areas that are right rise -/
def iE (L:List Int):Prop:=L.Pairwise (·<·)
theorem ov (a:AM.Ar) (n:Nat) (x:Int):x∈gI a n↔a.page<=x/\x<a.page+(n:Int):=by
 unfold gI
 rw[List.mem_map]
 constructor
 · rintro⟨m,hm,rfl⟩
   have:=List.mem_range.1 hm
   omega
 · rintro⟨h1,h2⟩
   exact⟨(x-a.page).toNat,List.mem_range.2 (by omega),by omega⟩
theorem qW (a:AM.Ar):∀n,iE (gI a n)
 | 0=>by simp[gI,iE]
 | n+1=>by
  rw[mP]
  unfold iE
  rw[List.pairwise_append]
  refine⟨qW a n,by simp,fun x hx y hy=>?_⟩
  have:=(ov a n x).1 hx
  simp at hy
  omega
theorem zX (a:AM.Ar) (n:Nat):(gI a n).length=n:=by simp[gI]
theorem IL (l:List AM.Ar) (hc:AM.aR l=0) (i:Nat) (hi:i+1<l.length):(AM.at_ l i).page+(AM.at_ l i).aH<=(AM.at_ l (i+1)).page:=by
 have h:=AM.cR l hc (i+1) hi
 simp only[AM.nu,Bool.and_eq_true,Nat.add_sub_cancel] at h
 have h2:=h.2
 have e:(i+1==0)=false:=by simp
 rw[e,Bool.false_or] at h2
 unfold AM.fG AM.Ar.ez at h2
 split at h2
 · omega
 · simp at h2
   omega
theorem rQ (l:List AM.Ar) (hc:AM.aR l=0):∀i,i<=l.length->∀x∈dA l i,∀j,j<l.length->i<=j->x<(AM.at_ l j).page
 | 0,_,x,hx,j,_,_=>by simp[dA] at hx
 | i+1,hi,x,hx,j,hj,hij=>by
  simp only[dA,List.mem_append] at hx
  rcases hx with hx | hx
  · exact rQ l hc i (by omega) x hx j hj (by omega)
  · have hk:=AM.df l i (AM.cR l hc i (by omega))
    have h1:=(ov _ _ _).1 hx
    have step:∀d,i+1+d<l.length->(AM.at_ l i).page+(AM.at_ l i).aH<=(AM.at_ l (i+1+d)).page:=by
     intro d
     induction d with
     | zero=>intro h;exact IL l hc i h
     | succ d ih =>
      intro h
      have h2:=ih (by omega)
      have h3:=IL l hc (i+1+d) h
      have h4:=AM.df l (i+1+d) (AM.cR l hc (i+1+d) (by omega))
      have e:i+1+(d+1)=i+1+d+1:=by omega
      rw[e]
      omega
    have:=step (j-(i+1)) (by omega)
    have e:i+1+(j-(i+1))=j:=by omega
    rw[e] at this
    omega
theorem mh (l:List AM.Ar) (hc:AM.aR l=0):∀i,i<=l.length->iE (dA l i)
 | 0,_=>by simp[dA,iE]
 | i+1,hi=>by
  simp only[dA]
  unfold iE
  rw[List.pairwise_append]
  refine⟨mh l hc i (by omega),qW _ _,fun x hx y hy=>?_⟩
  have h1:=rQ l hc i (by omega) x hx i (by omega) (Nat.le_refl _)
  have h2:=(ov _ _ _).1 hy
  omega
theorem mi (l:List AM.Ar) (hc:AM.aR l=0):∀i,i<=l.length->((dA l i).length:Int)=AM.sumTo l i
 | 0,_=>rfl
 | i+1,hi=>by
  have ih:=mi l hc i (by omega)
  have hk:=AM.df l i (AM.cR l hc i (by omega))
  simp only[dA,AM.sumTo,List.length_append,zX]
  omega
theorem kU (l:List AM.Ar) (x:Int):∀i,x∈dA l i↔∃k,k<i/\AM.hit (AM.at_ l k) x=true
 | 0=>by simp[dA]
 | i+1=>by
  simp only[dA,List.mem_append]
  rw[kU l x i,ov]
  constructor
  · rintro(⟨k,hk,h⟩ | h)
    · exact⟨k,by omega,h⟩
    · exact⟨i,by omega,by unfold AM.hit AM.Ar.ez;exact decide_eq_true ⟨h.1,by omega⟩⟩
  · rintro⟨k,hk,h⟩
    by_cases e:k=i
    · subst e
      right
      unfold AM.hit AM.Ar.ez at h
      have:=of_decide_eq_true h
      omega
    · exact .inl ⟨k,by omega,h⟩
theorem mO {x:Int} {L:List Int} (h:iE (x::L)):iE L/\∀z∈L,x<z:=⟨(List.pairwise_cons.1 h).2,(List.pairwise_cons.1 h).1⟩
theorem rN:∀(K L:List Int),iE L->iE K->(∀z∈L,z∈K)->L.length<=K.length
 | [],L,_,_,hm=>by
  cases L with
  | nil=>exact Nat.le_refl _
  | cons x L=>exact absurd (hm x List.mem_cons_self) (by simp)
 | y::K,L,hL,hK,hm=>by
  cases L with
  | nil=>exact Nat.zero_le _
  | cons x L =>
   obtain⟨hL1,hL2⟩:=mO hL
   obtain⟨OL,hK2⟩:=mO hK
   by_cases e:x=y
   · subst e
     have:=rN K L hL1 OL (fun z hz=>by
      have h1:=hL2 z hz
      rcases List.mem_cons.1 (hm z (List.mem_cons_of_mem _ hz)) with g | g
      · omega
      · exact g)
     simp only[List.length_cons]
     omega
   · have hx:x∈K:=by
      rcases List.mem_cons.1 (hm x List.mem_cons_self) with g | g
      · exact(e g).elim
      · exact g
     have hyx:=hK2 x hx
     have:=rN K (x::L) hL OL (fun z hz=>by
      rcases List.mem_cons.1 hz with g | g
      · subst g;exact hx
      · have h1:=hL2 z g
        rcases List.mem_cons.1 (hm z hz) with q | q
        · omega
        · exact q)
     simp only[List.length_cons] at this ⊢
     omega
theorem AE:∀(L K:List Int),iE L->iE K->(∀z∈L,z∈K)->K.length<=L.length->L=K
 | [],K,_,_,_,hl=>by
  cases K with
  | nil=>rfl
  | cons y K=>simp at hl
 | x::L,K,hL,hK,hm,hl=>by
  cases K with
  | nil=>exact absurd (hm x List.mem_cons_self) (by simp)
  | cons y K =>
   obtain⟨hL1,hL2⟩:=mO hL
   obtain⟨OL,hK2⟩:=mO hK
   have e:x=y:=by
    rcases List.mem_cons.1 (hm x List.mem_cons_self) with g | g
    · exact g
    · have hyx:=hK2 x g
      have:=rN K (x::L) hL OL (fun z hz=>by
       rcases List.mem_cons.1 hz with q | q
       · subst q;exact g
       · have h1:=hL2 z q
         rcases List.mem_cons.1 (hm z hz) with r | r
         · omega
         · exact r)
      simp only[List.length_cons] at this hl
      omega
   subst e
   rw[AE L K hL1 OL (fun z hz=>by
    have h1:=hL2 z hz
    rcases List.mem_cons.1 (hm z (List.mem_cons_of_mem _ hz)) with g | g
    · omega
    · exact g) (by simp only[List.length_cons] at hl;omega)]
theorem u5 (hs:List Sh) (h:cV hs=true):iE (hs.map (·.page)):=by
 have step:∀i j,i<j->j<hs.length->(aW hs i).page<(aW hs j).page:=by
  intro i j hij hj
  induction j with
  | zero=>omega
  | succ j ih =>
   have h1:=(jz hs hs.length h (j+1) hj).2
   unfold gz at h1
   have e:(j+1==0)=false:=by simp
   rw[e,Bool.false_or] at h1
   have h2:=of_decide_eq_true h1
   rw[Nat.add_sub_cancel] at h2
   by_cases e2:i=j
   · subst e2;exact h2
   · have:=ih (by omega) (by omega)
     omega
 unfold iE
 rw[List.pairwise_iff_getElem]
 intro i j hi hj hij
 rw[List.length_map] at hi hj
 have:=step i j hij hj
 unfold aW at this
 rw[List.getD_eq_getElem?_getD,List.getD_eq_getElem?_getD,List.getElem?_eq_getElem hi,List.getElem?_eq_getElem hj] at this
 simpa using this
theorem DX (hs:List Sh) (h:iE (hs.map (·.page))) (k:Nat) (hk:k<hs.length):gz hs k=true:=by
 unfold gz
 by_cases e:k=0
 · subst e;rfl
 · have e2:(k==0)=false:=by simpa using e
   rw[e2,Bool.false_or]
   unfold iE at h
   rw[List.pairwise_iff_getElem] at h
   have:=h (k-1) k (by rw[List.length_map];omega) (by rw[List.length_map];exact hk) (by omega)
   refine decide_eq_true ?_
   unfold aW
   rw[List.getD_eq_getElem?_getD,List.getD_eq_getElem?_getD,List.getElem?_eq_getElem (by omega:k-1<hs.length),List.getElem?_eq_getElem hk]
   simpa using this
theorem yQ (l:List AM.Ar) (p:Int) (k:Nat) (hk:k<l.length) (h:AM.hit (AM.at_ l k) p=true):∃j,j<l.length/\AM.aM l p=(AM.at_ l j,true):=by
 induction k using Nat.strongRecOn with
 | _ k ih =>
  by_cases g:∃j,j<k/\AM.hit (AM.at_ l j) p=true
  · obtain⟨j,hj,G8⟩:=g
    exact ih j hj (by omega) G8
  · exact⟨k,hk,AM.jF l p k hk (fun i hi=>by
     cases q:AM.hit (AM.at_ l i) p
     · rfl
     · exact(g ⟨i,hi,q⟩).elim) h⟩
theorem Bh (l:List AM.Ar) (p:Int) (h:(AM.aM l p).2=true):∃k,k<l.length/\AM.hit (AM.at_ l k) p=true:=by
 by_cases e:∃k,k<l.length/\AM.hit (AM.at_ l k) p=true
 · exact e
 · rw[AM.jd l p (fun i hi=>by
    cases q:AM.hit (AM.at_ l i) p
    · rfl
    · exact(e ⟨i,hi,q⟩).elim)] at h
   cases h
theorem at_mem (hs:List Sh) (k:Nat) (h:k<hs.length):(aW hs k).page∈hs.map (·.page):=by
 unfold aW
 rw[List.getD_eq_getElem?_getD,List.getElem?_eq_getElem h]
 exact List.mem_map_of_mem (List.getElem_mem h)
theorem Nu (hs:List Sh) (x:Int) (h:x∈hs.map (·.page)):∃k,k<hs.length/\(aW hs k).page=x:=by
 obtain⟨s,hs1,rfl⟩:=List.mem_map.1 h
 obtain⟨k,hk,e⟩:=List.getElem_of_mem hs1
 refine⟨k,hk,?_⟩
 unfold aW
 rw[List.getD_eq_getElem?_getD,List.getElem?_eq_getElem hk,<- e]
 rfl
theorem xh (l:List AM.Ar) (hc:AM.aR l=0) (p:Int) (j k:Nat) (hj:j<l.length) (hk:k<l.length) (h1:AM.hit (AM.at_ l j) p=true) (h2:AM.hit (AM.at_ l k) p=true):j=k:=by
 have key:∀j k,j<k->k<l.length->AM.hit (AM.at_ l j) p=true->AM.hit (AM.at_ l k) p=true->False:=by
  intro j k hjk hk h1 h2
  have hm:p∈dA l k:=(kU l p k).2 ⟨j,hjk,h1⟩
  have:=rQ l hc k (by omega) p hm k hk (Nat.le_refl _)
  unfold AM.hit at h2
  have:=of_decide_eq_true h2
  omega
 rcases Nat.lt_trichotomy j k with g | g | g
 · exact(key j k g hk h1 h2).elim
 · exact g
 · exact(key k j g hj h2 h1).elim
theorem Ki (l:List AM.Ar) (hs:List Sh) (hc:AM.aR l=0) :
  (!fe l&&(eB l hs&&jm hs))=(decide ((hs.length:Int)=AM.sumTo l l.length)&&(cV hs&&mr l hs hs.length)):=by
 rw[Bool.eq_iff_iff]
 simp only[Bool.and_eq_true,Bool.not_eq_true',decide_eq_true_eq]
 constructor
 · rintro⟨hz,he,hsh⟩
   have he':hs.map (·.page)=dO l:=of_decide_eq_true he
   have hlen:=congrArg List.length he'
   rw[List.length_map] at hlen
   have hr:iE (hs.map (·.page)):=by rw[he'];exact mh l hc l.length (Nat.le_refl _)
   refine⟨by rw[hlen];exact mi l hc l.length (Nat.le_refl _),?_,?_⟩
   · exact AH hs hs.length (fun i hi=>⟨uW hs hs.length hsh i hi,DX hs hr i hi⟩)
   · refine I7 l hs hs.length (fun i hi=>?_)
     have hm:(aW hs i).page∈dA l l.length:=by
      have:=at_mem hs i hi
      rw[he'] at this
      exact this
     obtain⟨k,hk,hh⟩:=(kU l _ _).1 hm
     obtain⟨j,hj,e⟩:=yQ l _ k hk hh
     unfold G1
     rw[e]
     simp[Ap l l.length hz j hj]
 · rintro⟨hlen,hr,hin⟩
   have hsub:∀z∈hs.map (·.page),z∈dO l:=fun z hz=>by
    obtain⟨k,hk,rfl⟩:=Nu hs z hz
    have:=CF l hs hs.length hin k hk
    unfold G1 at this
    simp only[Bool.and_eq_true] at this
    obtain⟨j,hj,hh⟩:=Bh l _ this.1
    exact(kU l _ _).2 ⟨j,hj,hh⟩
   have he':hs.map (·.page)=dO l:=AE _ _ (u5 hs hr) (mh l hc l.length (Nat.le_refl _)) hsub (by
    have:=mi l hc l.length (Nat.le_refl _)
    unfold dO
    rw[List.length_map]
    omega)
   refine⟨?_,decide_eq_true he',?_⟩
   · cases hz:fe l
     · rfl
     · exfalso
       have:∃i,i<l.length/\(AM.at_ l i).zero=true:=by
        by_cases g:∃i,i<l.length/\(AM.at_ l i).zero=true
        · exact g
        · have key:∀n,n<=l.length->km l n=false:=by
           intro n
           induction n with
           | zero=>intro _;rfl
           | succ n ih =>
            intro hn
            simp only[km]
            rw[ih (by omega),Bool.false_or]
            cases q:(AM.at_ l n).zero
            · rfl
            · exact(g ⟨n,by omega,q⟩).elim
          unfold fe at hz
          rw[key l.length (Nat.le_refl _)] at hz
          cases hz
       obtain⟨i,hi,hzi⟩:=this
       have hk:=AM.df l i (AM.cR l hc i hi)
       have hh:AM.hit (AM.at_ l i) (AM.at_ l i).page=true:=by
        unfold AM.hit AM.Ar.ez
        exact decide_eq_true ⟨Int.le_refl _,by omega⟩
       have hm:(AM.at_ l i).page∈hs.map (·.page):=by
        rw[he']
        exact(kU l _ _).2 ⟨i,hi,hh⟩
       obtain⟨k,hk1,hk2⟩:=Nu hs _ hm
       have Ol:=CF l hs hs.length hin k hk1
       unfold G1 at Ol
       rw[hk2] at Ol
       obtain⟨j,hj,e⟩:=yQ l _ i hi hh
       have G8:AM.hit (AM.at_ l j) (AM.at_ l i).page=true:=by
        obtain⟨m,kj,hm2⟩:=Bh l (AM.at_ l i).page (by rw[e])
        have WN:=xh l hc _ m i kj hi hm2 hh
        have:AM.aM l (AM.at_ l i).page=(AM.at_ l i,true):=by
         refine AM.jF l _ i hi (fun q hq=>?_) hh
         cases r:AM.hit (AM.at_ l q) (AM.at_ l i).page
         · rfl
         · have:=xh l hc _ q i (by omega) hi r hh
           omega
        rw[this] at e
        injection e with e1 _
        rw[<- e1]
        exact hh
       have:=xh l hc _ j i hj hi G8 hh
       subst this
       rw[e,hzi] at Ol
       simp at Ol
   · have key:∀n,n<=hs.length->gy hs n=true:=by
      intro n
      induction n with
      | zero=>intro _;rfl
      | succ n ih =>
       intro hn
       simp only[gy,Bool.and_eq_true]
       exact⟨ih (by omega),(jz hs hs.length hr n (by omega)).1⟩
     exact key hs.length (Nat.le_refl _)
theorem jy (l:List AM.Ar) (hs:List Sh) (en:Int):gF l hs en=iU l hs en:=by
 unfold gF iU
 by_cases hc:AM.aR l=0
 · rw[if_pos hc,if_pos hc]
   have h:=Ki l hs hc
   have e:(!fe l&&(eB l hs&&(jm hs&&j4 l en)))=(decide ((hs.length:Int)=AM.sumTo l l.length)&&(cV hs&&(mr l hs hs.length&&j4 l en))):=by
    have a:(!fe l&&(eB l hs&&(jm hs&&j4 l en)))=((!fe l&&(eB l hs&&jm hs))&&j4 l en):=by
     cases fe l <;> cases eB l hs <;> cases jm hs <;> rfl
    have b:(decide ((hs.length:Int)=AM.sumTo l l.length)&&(cV hs&&(mr l hs hs.length&&j4 l en)))=((decide ((hs.length:Int)=AM.sumTo l l.length)&&(cV hs&&mr l hs hs.length))&&j4 l en):=by
     cases decide ((hs.length:Int)=AM.sumTo l l.length) <;> cases cV hs <;> cases mr l hs hs.length <;> rfl
    rw[a,b,h]
   rw[e]
 · rw[if_neg hc,if_neg hc]
end LM
namespace FM
open Go.RowKit
theorem ue:∀(qs ps:List Int),ps.Pairwise (·<·)->qs.Pairwise (·<·)->(∀x∈ps,x∈qs)->ps.length<=qs.length
 | [],[],_,_,_=>Nat.le_refl _
 | [],p::ps,_,_,h=>by cases h p List.mem_cons_self
 | q::qs,[],_,_,_=>by simp
 | q::qs,p::ps,h1,h2,h=>by
  rw[List.pairwise_cons] at h1 h2
  by_cases e:p=q
  · subst e
    have:=ue qs ps h1.2 h2.2 (fun x hx=>by
     rcases List.mem_cons.1 (h x (List.mem_cons_of_mem _ hx)) with g | g
     · have:=h1.1 x hx
       omega
     · exact g)
    simp only[List.length_cons]
    omega
  · have hp:p∈qs:=by
     rcases List.mem_cons.1 (h p List.mem_cons_self) with g | g
     · exact(e g).elim
     · exact g
    have hq:=h2.1 p hp
    have:=ue qs (p::ps) (List.pairwise_cons.2 h1) h2.2 (fun x hx=>by
     rcases List.mem_cons.1 (h x hx) with g | g
     · rcases List.mem_cons.1 hx with k | k
       · omega
       · have:=h1.1 x k
         omega
     · exact g)
    simp only[List.length_cons] at this ⊢
    omega
def run (p:Int):Nat->List Int
 | 0=>[]
 | n+1=>p::run (p+1) n
theorem Gm (p:Int):∀n,(run p n).length=n:=fun n=>by
 induction n generalizing p with
 | zero=>rfl
 | succ n ih=>show(run (p+1) n).length+1=_;rw[ih]
theorem sU:∀(n:Nat) (p x:Int),x∈run p n↔p<=x/\x<p+n
 | 0,p,x=>by constructor <;> intro h;cases h;omega
 | n+1,p,x=>by
  show x∈p::run (p+1) n↔_
  rw[List.mem_cons,sU n (p+1) x]
  omega
theorem xL:∀(n:Nat) (p:Int),(run p n).Pairwise (·<·)
 | 0,p=>List.Pairwise.nil
 | n+1,p=>List.pairwise_cons.2 ⟨fun x hx=>by have:=(sU n (p+1) x).1 hx;omega,xL n (p+1)⟩
def dO:List AM.Ar->List Int
 | []=>[]
 | a::r=>run a.page a.aH.toNat++dO r
theorem A5:∀(l:List AM.Ar) (x:Int),x∈dO l↔(AM.aM l x).2=true
 | [],x=>by constructor <;> intro h <;> cases h
 | a::r,x=>by
  show x∈run a.page a.aH.toNat++dO r↔_
  rw[List.mem_append,sU,A5 r x]
  show _↔(if AM.hit a x=true then (a,true) else AM.aM r x).2=true
  by_cases c:AM.hit a x=true
  · have h6:a.page<=x/\x<a.page+a.aH:=of_decide_eq_true c
    rw[if_pos c]
    exact⟨fun _=>rfl,fun _=>.inl (by omega)⟩
  · have h6:¬(a.page<=x/\x<a.page+a.aH):=fun g=>c (decide_eq_true g)
    rw[if_neg c]
    exact⟨fun g=>by rcases g with g | g;omega;exact g,fun g=>.inr g⟩
def Uk:Int->List AM.Ar->Prop
 | _,[]=>True
 | lo,a::r=>lo<=a.page/\1<=a.aH/\Uk (a.page+a.aH) r
theorem Uk.low:∀{l:List AM.Ar} {lo:Int},Uk lo l->∀x∈dO l,lo<=x
 | [],lo,h,x,hx=>by cases hx
 | a::r,lo,h,x,hx=>by
  obtain⟨h1,h2,h3⟩:=h
  rcases List.mem_append.1 hx with g | g
  · have:=(sU _ _ _).1 g
    omega
  · have:=h3.low x g
    omega
theorem Uk.sorted:∀{l:List AM.Ar} {lo:Int},Uk lo l->(dO l).Pairwise (·<·)
 | [],lo,h=>List.Pairwise.nil
 | a::r,lo,h=>by
  obtain⟨h1,h2,h3⟩:=h
  show(run a.page a.aH.toNat++dO r).Pairwise (·<·)
  rw[List.pairwise_append]
  refine⟨xL _ _,h3.sorted,fun x hx y hy=>?_⟩
  have:=(sU _ _ _).1 hx
  have:=h3.low y hy
  omega
def Good (l:List AM.Ar):Prop:=∀i,i<l.length->(1<=(AM.at_ l i).page/\1<=(AM.at_ l i).aH)/\(0<i->(AM.at_ l (i-1)).page+(AM.at_ l (i-1)).aH<=(AM.at_ l i).page)
theorem Good.tail {a:AM.Ar} {r:List AM.Ar} (h:Good (a::r)):Good r:=fun i hi=>by
 have h1:=h (i+1) (by simp;omega)
 refine⟨h1.1,fun g=>?_⟩
 have h2:=h1.2 (by omega)
 obtain⟨j,rfl⟩:∃j,i=j+1:=⟨i-1,by omega⟩
 exact h2
theorem EG:∀(l:List AM.Ar) (lo:Int),Good l->(∀a r,l=a::r->lo<=a.page)->Uk lo l
 | [],lo,h,_=>trivial
 | a::r,lo,h,hlo=>by
  have h0:=(h 0 (by simp)).1
  refine⟨hlo a r rfl,h0.2,EG r _ h.tail (fun b q e=>?_)⟩
  subst e
  exact(h 1 (by simp)).2 (by omega)
theorem Jg {l:List AM.Ar} (hc:AM.aR l=0):Good l:=fun i hi=>by
 have h:=AM.cR l hc i hi
 have h1:=AM.df l i h
 refine⟨⟨h1.1,h1.2.1⟩,fun g=>?_⟩
 unfold AM.nu at h
 simp only[Bool.and_eq_true,Bool.or_eq_true,beq_iff_eq] at h
 rcases h.2 with e | e
 · omega
 · unfold AM.fG at e
   by_cases c:(AM.at_ l i).page=(AM.at_ l (i-1)).ez
   · unfold AM.Ar.ez at c
     omega
   · rw[if_neg c] at e
     have:=of_decide_eq_true e
     unfold AM.Ar.ez at this
     omega
theorem Pn {l:List AM.Ar} (hc:AM.aR l=0):Uk 1 l:=EG l 1 (Jg hc) (fun a r e=>by
 subst e
 exact((Jg hc) 0 (by simp)).1.1)
theorem sum_cons (a:AM.Ar) (r:List AM.Ar):∀k,AM.sumTo (a::r) (k+1)=a.aH+AM.sumTo r k
 | 0=>by show(0:Int)+a.aH=a.aH+0;omega
 | k+1=>by
  show AM.sumTo (a::r) (k+1)+(AM.at_ (a::r) (k+1)).aH=a.aH+(AM.sumTo r k+(AM.at_ r k).aH)
  rw[sum_cons a r k]
  show _+(AM.at_ r k).aH=_
  omega
theorem sZ:∀{l:List AM.Ar} {lo:Int},Uk lo l->((dO l).length:Int)=AM.sumTo l l.length
 | [],lo,h=>rfl
 | a::r,lo,h=>by
  obtain⟨h1,h2,h3⟩:=h
  show(((run a.page a.aH.toNat++dO r).length:Nat):Int)=AM.sumTo (a::r) (r.length+1)
  rw[sum_cons,List.length_append,Gm,<- sZ h3]
  omega
theorem Dx {l:List AM.Ar} (hc:AM.aR l=0):AM.cm l=((dO l).length:Int):=by
 unfold AM.cm
 rw[if_pos hc,sZ (Pn hc)]
theorem Ll {l:List AM.Ar} (hc:AM.aR l=0) (x:Int):(AM.aT l x).2=true↔x∈dO l:=by
 rw[A5]
 unfold AM.aT
 rw[if_pos hc]
end FM
end Go.Proofs.YtpgifpeohlllfaaGreat
