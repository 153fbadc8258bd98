import Derived.Test.YtpgifpeohlllfaaGreatGP00
set_option maxHeartbeats 20000000
set_option linter.unusedVariables false
set_option maxRecDepth 100000
set_option linter.unusedSimpArgs false
namespace Go.Proofs.YtpgifpeohlllfaaGreat
namespace AM
open Go.RowKit
def look (l:List Ar) (n:Nat):St:=let r:=aN l n;if r.2 then ⟨true,r.1.bJ,r.1.zero⟩ else off
def iw (G:List Ar):Ar:=at_ G (G.length-1)
def gU (G:List Ar) (a:Ar):Bool:=dE a.page a.aB&&iq a.bJ&&(G.length==0 || eT (iw G) a)
theorem xg (p n q:Int) (z:Bool) (x:Int):hit ⟨p,n,q,z⟩ x=decide (p<=x/\x<p+n):=rfl
theorem mz (a:Ar) (x:Int):hit a x=true↔a.page<=x/\x<a.page+a.aB:=⟨fun h=>of_decide_eq_true h,fun h=>decide_eq_true h⟩
theorem dY (G:List Ar) (a:Ar):iw (G++[a])=a:=by simp[iw,at_]
theorem qb (G H:List Ar):∀k,k<=G.length->fO (G++H) k=fO G k
 | 0,_=>rfl
 | k+1,h=>by
  simp only[fO,qb G H k (by omega)]
  congr 1
  unfold mL
  rw[gX G H k (by omega)]
  by_cases e:k=0
  · subst e;rfl
  · rw[gX G H (k-1) (by omega)]
theorem ij (G:List Ar) (a:Ar):good (G++[a])=(good G&&gU G a):=by
 unfold good
 rw[List.length_append]
 show fO (G++[a]) (G.length+1)=_
 simp only[fO,qb G [a] G.length (Nat.le_refl _)]
 congr 1
 unfold mL gU iw
 rw[lW]
 by_cases e:G.length=0
 · simp[e]
 · rw[gX G [a] (G.length-1) (by omega)]
theorem mP:∀(G:List Ar) (a:Ar) (p:Int),aN (G++[a]) p=if (aN G p).2 then aN G p else if hit a p then (a,true) else (nil,false)
 | [],a,p=>by simp[aN]
 | b::r,a,p=>by
  simp only[List.cons_append,aN]
  by_cases h:hit b p=true
  · simp[h]
  · simp[h,mP r a p]
theorem qh:∀(G:List Ar) (p:Int),(aN G p).2=false->aN G p=(nil,false)
 | [],p,_=>rfl
 | b::r,p,h=>by
  simp only[aN] at h ⊢
  by_cases c:hit b p=true
  · simp[c] at h
  · simp only[c] at h ⊢
    exact qh r p h
theorem nj (G:List Ar) (a:Ar) (n:Nat):look (G++[a]) n=if (aN G n).2 then look G n else if hit a n then ⟨true,a.bJ,a.zero⟩ else off:=by
 unfold look
 rw[mP]
 by_cases h:(aN G n).2=true
 · simp[h]
 · simp only[h]
   by_cases c:hit a n=true
   · simp[c]
   · simp[c]
theorem iZ:∀(m:Nat) (G:List Ar),G.length=m->good G=true->∀p:Int,(aN G p).2=true->1<=p/\p<(iw G).dN
 | 0,G,hm,_,p,h=>by
  have e:G=[]:=List.eq_nil_of_length_eq_zero hm
  subst e;simp[aN] at h
 | m+1,G,hm,hg,p,h=>by
  rcases List.eq_nil_or_concat G with rfl | ⟨H,a,rfl⟩
  · simp at hm
  · rw[List.concat_eq_append] at *
    rw[ij,Bool.and_eq_true] at hg
    obtain⟨XU,hok⟩:=hg
    rw[dY]
    simp only[gU,Bool.and_eq_true,dE,decide_eq_true_eq] at hok
    obtain⟨⟨Vi,_⟩,hfo⟩:=hok
    rw[mP] at h
    by_cases c:(aN H p).2=true
    · have ih:=iZ m H (by simpa using hm) XU p c
      refine⟨ih.1,?_⟩
      have hne:¬H.length=0:=by
       intro e
       have e':H=[]:=List.eq_nil_of_length_eq_zero e
       subst e';simp[aN] at c
      simp only[beq_iff_eq,Bool.or_eq_true,hne,false_or] at hfo
      have hle:(iw H).dN<=a.page:=by
       unfold eT at hfo
       split at hfo
       · omega
       · simp at hfo;omega
      unfold Ar.dN at *
      omega
    · simp only[c] at h
      by_cases d:hit a p=true
      · simp only[hit,decide_eq_true_eq] at d
        unfold Ar.dN at *
        omega
      · simp[d] at h
structure sA (F:Nat->St):Prop where
 zero:(F 0).m=false
 none:∀n,(F n).m=false->F n=off
 bJ:∀n,0<=(F n).p/\(F n).p<=3
theorem JC (H:List Ar) (a:Ar):xN (H++[a])=H++[⟨a.page,a.aB+1,a.bJ,a.zero⟩]:=by
 unfold xN
 have e:at_ (H++[a]) ((H++[a]).length-1)=a:=dY H a
 rw[e]
 simp
structure abq (F:Nat->St) (k:Nat) (G:List Ar):Prop where
 good:good G=true
 look:∀n:Nat,AM.look G n=if n<k then F n else off
 yes:(dR F k).m=true->0<G.length/\(iw G).dN=k/\(iw G).bJ=(dR F k).p/\(iw G).zero=(dR F k).z
 no:(dR F k).m=false->G.length=0∨(iw G).dN<k∨k=0
theorem CI (G:List Ar) (n:Nat) (h:AM.look G n=off):(aN G n).2=false:=by
 unfold AM.look at h
 by_cases c:(aN G n).2=true
 · simp only[c,if_true] at h
   have:=congrArg St.m h
   simp[off] at this
 · simpa using c
theorem nR (F:Nat->St) (hF:sA F):∀k,k<=256->abq F k (aV F k)
 | 0,_=>⟨rfl,fun n=>rfl,fun h=>by simp[dR,off] at h,fun _=>.inl rfl⟩
 | k+1,hk=>by
  have ih:=nR F hF k (by omega)
  obtain⟨G,hG⟩:=ex (aV F k)
  rw[<- hG] at ih
  simp only[aV]
  rw[<- hG]
  by_cases hm:(F k).m=false
  · rw[if_pos hm]
    refine⟨ih.good,fun n=>?_,fun h=>?_,fun _=>?_⟩
    · rw[ih.look n]
      by_cases h1:n<k
      · rw[if_pos h1,if_pos (by omega)]
      · rw[if_neg h1]
        by_cases h2:n<k+1
        · obtain rfl:n=k:=by omega
          rw[if_pos h2,hF.none n hm]
        · rw[if_neg h2]
    · have:(F k).m=true:=h
      rw[hm] at this;cases this
    · by_cases hl:(dR F k).m=true
      · obtain⟨h0,h1,_⟩:=ih.yes hl
        exact .inr (.inl (by rw[h1];omega))
      · rcases ih.no (by simpa using hl) with h | h | h
        · exact .inl h
        · exact .inr (.inl (by omega))
        · subst h
          have:G=[]:=hG
          exact .inl (by rw[this];rfl)
  · have hm':(F k).m=true:=by simpa using hm
    rw[if_neg hm]
    have hk1:1<=k:=by
     by_cases e:k=0
     · subst e;rw[hF.zero] at hm';cases hm'
     · omega
    have od:=CI G k (by rw[ih.look k,if_neg (by omega)])
    by_cases he:pS (F k) (dR F k)=true
    · rw[if_pos he]
      have hst:=Aa _ _ he
      obtain⟨h0,h1,h2,h3⟩:=ih.yes (by rw[<- hst];exact hm')
      rcases List.eq_nil_or_concat G with hnil | ⟨H,a,hH⟩
      · rw[hnil] at h0;simp at h0
      · rw[List.concat_eq_append] at hH
        rw[hH,dY] at h1 h2 h3
        have hg:=ih.good
        rw[hH,ij,Bool.and_eq_true] at hg
        obtain⟨XU,hok⟩:=hg
        have Vj:=hok
        simp only[gU,Bool.and_eq_true,dE,decide_eq_true_eq] at Vj
        obtain⟨⟨Vi,E3⟩,hfo⟩:=Vj
        rw[hH,JC]
        unfold Ar.dN at h1
        refine⟨?_,fun n=>?_,fun _=>⟨by simp,?_,?_,?_⟩,fun h=>?_⟩
        · rw[ij,XU,Bool.true_and]
          simp only[gU,Bool.and_eq_true,dE,decide_eq_true_eq]
          exact⟨⟨⟨Vi.1,by omega,by omega⟩,E3⟩,hfo⟩
        · have hl:=ih.look n
          rw[hH] at hl
          rw[nj] at hl ⊢
          by_cases c:(aN H n).2=true
          · rw[if_pos c] at hl ⊢
            rw[hl]
            have hb:=iZ _ H rfl XU n c
            have hle:(n:Int)<a.page+a.aB:=by
             have hne:¬H.length=0:=by
              intro e
              have e':H=[]:=List.eq_nil_of_length_eq_zero e
              subst e';simp[aN] at c
             simp only[beq_iff_eq,Bool.or_eq_true,hne,false_or] at hfo
             have hle:(iw H).dN<=a.page:=by
              unfold eT at hfo
              split at hfo
              · omega
              · simp at hfo;omega
             omega
            rw[if_pos (show n<k by omega),if_pos (show n<k+1 by omega)]
          · rw[if_neg c] at hl ⊢
            by_cases d:n=k
            · subst d
              rw[if_pos (by rw[xg];exact decide_eq_true (by omega)),if_pos (by omega)]
              show St.mk true a.bJ a.zero=F n
              rw[h2,h3,<- hst,<- hm']
            · by_cases e:hit a n=true
              · rw[if_pos e] at hl
                have e2:hit ⟨a.page,a.aB+1,a.bJ,a.zero⟩ n=true:=by
                 rw[mz] at e;rw[xg];exact decide_eq_true (by omega)
                rw[if_pos e2]
                show St.mk true a.bJ a.zero=_
                rw[hl]
                rw[mz] at e
                rw[if_pos (show n<k by omega),if_pos (show n<k+1 by omega)]
              · have e2:¬hit ⟨a.page,a.aB+1,a.bJ,a.zero⟩ n=true:=by
                 rw[mz] at e;rw[xg,decide_eq_true_eq];omega
                rw[if_neg e] at hl
                rw[if_neg e2,hl]
                by_cases f:n<k
                · rw[if_pos f,if_pos (by omega)]
                · rw[if_neg f,if_neg (by omega)]
        · rw[dY];show a.page+(a.aB+1)=_;omega
        · rw[dY];show a.bJ=(F k).p;rw[h2,hst]
        · rw[dY];show a.zero=(F k).z;rw[h3,hst]
        · have:(F k).m=false:=h
          rw[hm'] at this;cases this
    · have he':pS (F k) (dR F k)=false:=by simpa using he
      rw[if_neg he]
      refine⟨?_,fun n=>?_,fun _=>⟨by simp,?_,?_,?_⟩,fun h=>?_⟩
      · rw[ij,ih.good,Bool.true_and]
        simp only[gU,Bool.and_eq_true,dE,iq,decide_eq_true_eq]
        refine⟨⟨⟨by omega,by omega,by omega⟩,hF.bJ k⟩,?_⟩
        by_cases h0:G.length=0
        · simp[h0]
        · simp only[Bool.or_eq_true,beq_iff_eq,h0,false_or]
          by_cases hl:(dR F k).m=true
          · obtain⟨_,h1,h2,h3⟩:=ih.yes hl
            unfold eT
            rw[if_pos h1.symm]
            rcases Gm _ _ he' with q | ⟨_,q⟩ | ⟨_,_,q⟩
            · rw[hm',hl] at q;simp at q
            · simp only[Bool.or_eq_true,bne_iff_ne,h2]
              left
              simpa using q
            · simp only[Bool.or_eq_true,bne_iff_ne,h3]
              right
              simpa using q
          · rcases ih.no (by simpa using hl) with h | h | h
            · exact absurd h h0
            · unfold eT
              rw[if_neg (by show ¬(k:Int)=_;omega)]
              simpa using h
            · omega
      · rw[nj]
        by_cases c:(aN G n).2=true
        · rw[if_pos c,ih.look n]
          by_cases f:n<k
          · rw[if_pos f,if_pos (by omega)]
          · exfalso
            have:=CI G n (by rw[ih.look n,if_neg f])
            rw[c] at this;cases this
        · rw[if_neg c]
          have c':(aN G n).2=false:=by simpa using c
          by_cases d:n=k
          · subst d
            rw[if_pos (by rw[xg];exact decide_eq_true (by omega)),if_pos (by omega)]
            show St.mk true (F n).p (F n).z=F n
            rw[<- hm']
          · rw[if_neg (by rw[xg,decide_eq_true_eq];omega)]
            have hl:=ih.look n
            have e0:AM.look G n=off:=by unfold AM.look;simp[c']
            rw[e0] at hl
            by_cases f:n<k
            · rw[if_pos f] at hl;rw[if_pos (by omega),hl]
            · rw[if_neg (by omega)]
      · rw[dY];show(k:Int)+1=_;omega
      · rw[dY];rfl
      · rw[dY];rfl
      · have:(F k).m=false:=h
        rw[hm'] at this;cases this
theorem uw (F:Nat->St) (hF:sA F):good (dV F)=true:=(nR F hF 256 (Nat.le_refl _)).good
theorem uu (F:Nat->St) (hF:sA F) (n:Nat) (hn:n<256):look (dV F) n=F n:=by
 have:=(nR F hF 256 (Nat.le_refl _)).look n
 rw[if_pos hn] at this
 exact this
theorem mh (l:List Ar):∀(m:Nat) (G:List Ar),G.length=m->good G=true->∀n:Nat,look G n=bg G G.length n
 | 0,G,hm,_,n=>by
  have e:G=[]:=List.eq_nil_of_length_eq_zero hm
  subst e;rfl
 | m+1,G,hm,hg,n=>by
  rcases List.eq_nil_or_concat G with rfl | ⟨H,a,rfl⟩
  · simp at hm
  · rw[List.concat_eq_append] at *
    rw[ij,Bool.and_eq_true] at hg
    have ih:=mh l m H (by simpa using hm) hg.1 n
    have hs:∀k,k<=H.length->bg (H++[a]) k=bg H k:=by
     intro k
     induction k with
     | zero=>intro _;rfl
     | succ k ihk=>intro hk;simp only[bg];rw[ihk (by omega),gX H [a] k (by omega)]
    rw[List.length_append]
    show _=bg (H++[a]) (H.length+1) n
    simp only[bg]
    rw[hs H.length (Nat.le_refl _),lW,nj]
    simp only[gj]
    by_cases c:(aN H n).2=true
    · rw[if_pos c,ih]
      have hb:=iZ _ H rfl hg.1 n c
      have hok:=hg.2
      simp only[gU,Bool.and_eq_true] at hok
      have hfo:=hok.2
      have hne:¬H.length=0:=by
       intro e
       have e':H=[]:=List.eq_nil_of_length_eq_zero e
       subst e';simp[aN] at c
      simp only[beq_iff_eq,Bool.or_eq_true,hne,false_or] at hfo
      have hle:(iw H).dN<=a.page:=by
       unfold eT at hfo
       split at hfo
       · omega
       · simp at hfo;omega
      rw[if_neg (by omega)]
    · rw[if_neg c]
      have e0:look H n=off:=by unfold look;simp[show(aN H n).2=false by simpa using c]
      by_cases d:hit a n=true
      · rw[if_pos d,if_pos (by simpa [hit] using d)]
      · rw[if_neg d,if_neg (by simpa [hit] using d),<- ih,e0]
theorem qa (l:List Ar) (h:aO l=0):good l=true:=by
 unfold aO at h
 split at h
 · simp at h
 · split at h
   · assumption
   · simp at h
theorem pW (l:List Ar) (hc:aO l=0):∀k,k<=l.length->(bg l k 0).m=false/\(∀n,(bg l k n).m=false->bg l k n=off)/\(∀n,0<=(bg l k n).p/\(bg l k n).p<=3)
 | 0,_=>⟨rfl,fun n _=>rfl,fun n=>by simp[bg,off]⟩
 | k+1,hk=>by
  have ih:=pW l hc k (by omega)
  have ho:=cM l k (cH l hc k (by omega))
  refine⟨?_,fun n=>?_,fun n=>?_⟩
  · simp only[bg,gj];rw[if_neg (by omega)];exact ih.1
  · simp only[bg,gj]
    split
    · intro h;simp at h
    · exact ih.2.1 n
  · simp only[bg,gj]
    split
    · exact⟨ho.2.2.2.1,ho.2.2.2.2⟩
    · exact ih.2.2 n
theorem uB (l:List Ar) (hc:aO l=0):sA (cm l):=by
 have h:=pW l hc l.length (Nat.le_refl _)
 exact⟨h.1,h.2.1,h.2.2⟩
theorem Dd (F:Nat->St) (hF:sA F) (how:St->St×Int) (page t:Int) (hp:1<=page)
  (hn:∀s,(s.m=false->s=off)->((how s).1.m=false->(how s).1=off)) (hq:∀s,0<=s.p/\s.p<=3->0<=(how s).1.p/\(how s).1.p<=3):sA (turned F how page t):=by
 refine⟨?_,fun n=>?_,fun n=>?_⟩
 · simp only[turned];rw[if_neg (by omega)];exact hF.zero
 · simp only[turned]
   split
   · exact hn (F n) (hF.none n)
   · exact hF.none n
 · simp only[turned]
   split
   · exact hq (F n) (hF.bJ n)
   · exact hF.bJ n
theorem uv (F:Nat->St) (h0:(F 0).m=false):∀k,(aV F (k+1)).length<=k
 | 0=>by simp[aV,h0]
 | k+1=>by
  have ih:=uv F h0 k
  rw[aV]
  split
  · omega
  · split
    · rw[jf];omega
    · simp;omega
theorem nU (F:Nat->St) (hF:sA F):aO (dV F)=0:=by
 have hl:(dV F).length<=255:=uv F hF.zero 255
 have hg:=uw F hF
 unfold aO
 rw[if_neg (by omega),if_pos hg]
theorem r7 (l:List Ar) (hc:aO l=0) (F:Nat->St) (p:Nat) (h:look l p=F p):(aK l p).2=(F p).m/\(aK l p).1.bJ=(F p).p/\(aK l p).1.zero=(F p).z:=by
 have e:aK l p=aN l p:=by simp[aK,hc]
 rw[e,<- h]
 unfold look
 by_cases c:(aN l p).2=true
 · simp[c]
 · have c':(aN l p).2=false:=by simpa using c
   rw[qh l p c']
   simp[nil,off]
theorem Dg (F:Nat->St) (hF:sA F) (p:Nat) (hp:p<256):(aK (dV F) p).2=(F p).m/\(aK (dV F) p).1.bJ=(F p).p/\(aK (dV F) p).1.zero=(F p).z :=
 r7 _ (nU F hF) F p (uu F hF p hp)
theorem Df (l:List Ar) (hc:aO l=0) (p:Nat):(aK l p).2=(cm l p).m/\(aK l p).1.bJ=(cm l p).p/\(aK l p).1.zero=(cm l p).z :=
 r7 l hc (cm l) p (mh l _ l rfl (qa l hc) p)
theorem gu (l:List Ar) (hc:aO l=0):(∀i,i<l.length->Fits (at_ l i))/\l.length<=140737488351232:=by
 refine⟨fun i hi=>?_,by have:=gm l hc;omega⟩
 have ho:=cM l i (cH l hc i hi)
 unfold Fits
 omega
theorem Di (F:Nat->St) (how:St->St×Int):∀(c n:Nat),gI F how n c=0->∀k,n<=k->k<n+c->(how (F k)).2=0
 | 0,n,_,k,h1,h2=>by omega
 | c+1,n,h,k,h1,h2=>by
  simp only[gI] at h
  split at h
  · rename_i h0
    by_cases e:k=n
    · rw[e];exact h0
    · exact Di F how c (n+1) h k (by omega) (by omega)
  · rename_i h0;exact absurd h h0
end AM
namespace LM
open Go.RowKit
def fV (a:AM.Ar) (n:Nat):List Int:=(List.range n).map (fun m:Nat=>a.page+(m:Int))
def cY (l:List AM.Ar):Nat->List Int
 | 0=>[]
 | i+1=>cY l i++fV (AM.at_ l i) (AM.at_ l i).aB.toNat
def dD (l:List AM.Ar):List Int:=cY l l.length
def dQ (l:List AM.Ar) (hs:List Sh):Bool:=decide (hs.map (·.page)=dD l)
def jG (l:List AM.Ar):Nat->Bool
 | 0=>false
 | k+1=>jG l k || (AM.at_ l k).zero
def ez (l:List AM.Ar):Bool:=jG l l.length
def fL (hs:List Sh):Nat->Bool
 | 0=>true
 | k+1=>fL hs k&&bH (aY hs k)
def iO (hs:List Sh):Bool:=fL hs hs.length
def kH (l:List AM.Ar) (en:Int):Bool:=(AM.aN l (en.tdiv 16)).2&&(decide (2<=(AM.aN l (en.tdiv 16)).1.bJ)&&decide (en.tmod 8=0))
def lR (l:List AM.Ar) (hs:List Sh) (en:Int):Int:=if AM.aO l=0 then (if !ez l&&(dQ l hs&&(iO hs&&kH l en)) then 0 else 1) else AM.aO l
theorem mj (a:AM.Ar) (n:Nat):fV a (n+1)=fV a n++[a.page+(n:Int)]:=by
 unfold fV
 rw[List.range_succ,List.map_append]
 rfl
theorem Ao (a:AM.Ar) (n m:Nat) (h:n<m):∃t,fV a m=fV a n++(a.page+(n:Int))::t:=by
 induction m with
 | zero=>omega
 | succ m ih =>
  by_cases e:n=m
  · subst e;exact⟨[],mj a n⟩
  · obtain⟨t,ht⟩:=ih (by omega)
    exact⟨t++[a.page+(m:Int)],by rw[mj,ht];simp⟩
theorem rE (l:List AM.Ar) (i:Nat):∀n,i<=n->∃t,cY l n=cY l i++t
 | 0, h => by obtain rfl:i=0 := by omega
              exact⟨[],by simp⟩
 | n+1,h=>by
  by_cases e:i=n+1
  · subst e;exact⟨[],by simp⟩
  · obtain⟨t,ht⟩:=rE l i n (by omega)
    exact⟨t++fV (AM.at_ l n) (AM.at_ l n).aB.toNat,by simp only[cY];rw[ht,List.append_assoc]⟩
theorem Cz (l:List AM.Ar) (i:Nat) (hi:i<l.length) (n:Nat) (hn:n<(AM.at_ l i).aB.toNat):∃t,dD l=(cY l i++fV (AM.at_ l i) n)++((AM.at_ l i).page+(n:Int))::t:=by
 obtain⟨t,ht⟩:=rE l (i+1) l.length (by omega)
 obtain⟨u,hu⟩:=Ao (AM.at_ l i) n _ hn
 refine⟨u++t,?_⟩
 unfold dD
 rw[ht]
 simp only[cY]
 rw[hu]
 simp
theorem tO (l:List AM.Ar):∀(k n:Nat),k<=n->jG l k=true->jG l n=true
 | k, 0, h, hk => by obtain rfl:k=0 := by omega
                     exact hk
 | k,n+1,h,hk=>by
  by_cases e:k=n+1
  · subst e;exact hk
  · simp[jG,tO l k n (by omega) hk]
theorem Og (l:List AM.Ar) (k:Nat) (hk:k<l.length) (h:(AM.at_ l k).zero=true):ez l=true:=tO l (k+1) l.length (by omega) (by simp[jG,h])
theorem yL (l:List AM.Ar):∀n,jG l n=false->∀i,i<n->(AM.at_ l i).zero=false
 | 0,_,i,hi=>by omega
 | n+1,h,i,hi=>by
  simp only[jG,Bool.or_eq_false_iff] at h
  by_cases e:i=n
  · subst e;exact h.2
  · exact yL l n h.1 i (by omega)
theorem oL (l:List Sh):∀(k n:Nat),k<=n->fL l k=false->fL l n=false
 | k, 0, h, hk => by obtain rfl:k=0 := by omega
                     exact hk
 | k,n+1,h,hk=>by
  by_cases e:k=n+1
  · subst e;exact hk
  · simp[fL,oL l k n (by omega) hk]
theorem Ei (l:List Sh) (k:Nat) (hk:k<l.length) (h:bH (aY l k)=false):iO l=false:=oL l (k+1) l.length (by omega) (by simp[fL,h])
theorem tR (l:List Sh):∀n,fL l n=true->∀i,i<n->bH (aY l i)=true
 | 0,_,i,hi=>by omega
 | n+1,h,i,hi=>by
  simp only[fL,Bool.and_eq_true] at h
  by_cases e:i=n
  · subst e;exact h.2
  · exact tR l n h.1 i (by omega)
theorem p7 (hs:List Sh) (c:Nat) (h:c<hs.length):(hs.take (c+1)).map (·.page)=(hs.take c).map (·.page)++[(aY hs c).page]:=by
 rw[List.take_succ_eq_append_getElem h,List.map_append]
 unfold aY
 rw[List.getD_eq_getElem?_getD,List.getElem?_eq_getElem h]
 rfl
theorem Fp {l:List AM.Ar} {hs:List Sh} {pre t:List Int} {x:Int} (hp:(hs.take hs.length).map (·.page)=pre) (ho:dD l=pre++x::t):dQ l hs=false:=by
 unfold dQ
 refine decide_eq_false (fun e=>?_)
 rw[List.take_length] at hp
 rw[hp,ho] at e
 have:=congrArg List.length e
 simp at this
theorem Fq {l:List AM.Ar} {hs:List Sh} {pre t:List Int} {x:Int} {c:Nat} (hc:c<hs.length) (hp:(hs.take c).map (·.page)=pre) (ho:dD l=pre++x::t) (hx:(aY hs c).page≠x):dQ l hs=false:=by
 unfold dQ
 refine decide_eq_false (fun e=>?_)
 have h1:=p7 hs c hc
 rw[hp] at h1
 have h2:hs.map (·.page)=(hs.take (c+1)).map (·.page)++(hs.drop (c+1)).map (·.page):=by rw[<- List.map_append,List.take_append_drop]
 rw[h2,h1,ho,List.append_assoc] at e
 have:=List.append_cancel_left e
 simp at this
 exact hx this.1
theorem Jt {l:List AM.Ar} {hs:List Sh} {c:Nat} (hc:c<=hs.length) (hp:(hs.take c).map (·.page)=cY l l.length):dQ l hs=decide (c=hs.length):=by
 unfold dQ
 by_cases e:c=hs.length
 · subst e
   rw[List.take_length] at hp
   have hp':hs.map (·.page)=dD l:=hp
   rw[decide_eq_true hp',decide_eq_true rfl]
 · rw[decide_eq_false e]
   refine decide_eq_false (fun g=>?_)
   have h1:=congrArg List.length hp
   have h2:=congrArg List.length g
   rw[List.length_map,List.length_take] at h1
   rw[List.length_map] at h2
   unfold dD at h2
   omega
def Nn (w:World) (b off:Nat) (l:List Sh):Prop:=∀i,i<l.length ->
 w.cell? (Ad b (off+i*3))=some (I (aY l i).page)/\w.cell? (Ad b (off+i*3+1))=some (.string (aY l i).data)/\w.cell? (Ad b (off+i*3+2))=some (.slice (aY l i).ao (aY l i).bq.length (aY l i).cap)/\ou w (aY l i).ao (aY l i).bq
theorem UQ {w w':World} {b off:Nat} {l:List Sh} (hb:Below w.heap.size w w') (hlt:b<w.heap.size) (h:Nn w b off l):Nn w' b off l:=fun i hi=>by
 obtain⟨c0,c1,c2,c3⟩:=h i hi
 exact⟨(M.aX hb hlt).trans c0,(M.aX hb hlt).trans c1,(M.aX hb hlt).trans c2,c3.below hb⟩
def jg (w:World) (ao:Option Addr) (l:List Sh):Prop:=M.eB Nn w ao l
theorem jg.below {w w':World} {ao:Option Addr} {l:List Sh} (h:jg w ao l) (hb:Below w.heap.size w w'):jg w' ao l:=M.eB.below (lie:=Nn) (fun hb hlt h=>UQ hb hlt h) h hb
def oq (l:List Sh):Prop:=M.br l.length/\∀k,k<l.length->Bq (aY l k)
theorem Ep {p:Int} (h:0<=p/\p<=3):p=0∨p=1∨p=2∨p=3:=by omega
theorem Fe (l:List AM.Ar) (hc:AM.aO l=0) (p:Int) (h:(AM.aN l p).2=true):0<=(AM.aN l p).1.bJ/\(AM.aN l p).1.bJ<=3:=by
 by_cases e:∃k,k<l.length/\AM.hit (AM.at_ l k) p=true
 · obtain⟨k,hk,hh⟩:=e
   have:∃k,k<l.length/\AM.hit (AM.at_ l k) p=true/\∀i,i<k->AM.hit (AM.at_ l i) p=false:=by
    induction k using Nat.strongRecOn with
    | _ k ih =>
     by_cases g:∃j,j<k/\AM.hit (AM.at_ l j) p=true
     · obtain⟨j,hj,E6⟩:=g
       exact ih j hj (by omega) E6
     · exact⟨k,hk,hh,fun i hi=>by
        cases q:AM.hit (AM.at_ l i) p
        · rfl
        · exact(g ⟨i,hi,q⟩).elim⟩
   obtain⟨k,hk,h1,h2⟩:=this
   rw[AM.jd l p k hk h2 h1]
   have:=AM.cM l k (AM.cH l hc k hk)
   exact⟨this.2.2.2.1,this.2.2.2.2⟩
 · rw[AM.iH l p (fun i hi=>by
    cases q:AM.hit (AM.at_ l i) p
    · rfl
    · exact(e ⟨i,hi,q⟩).elim)] at h
   cases h
def fM (hs:List Sh) (k:Nat):Bool:=k==0 || decide ((aY hs (k-1)).page<(aY hs k).page)
def b7 (hs:List Sh):Nat->Bool
 | 0=>true
 | k+1=>b7 hs k&&(bH (aY hs k)&&fM hs k)
def cZ (hs:List Sh):Bool:=b7 hs hs.length
theorem jn (l:List Sh):∀(k n:Nat),k<=n->b7 l k=false->b7 l n=false
 | k, 0, h, hk => by obtain rfl:k=0 := by omega
                     exact hk
 | k,n+1,h,hk=>by
  by_cases e:k=n+1
  · subst e;exact hk
  · simp[b7,jn l k n (by omega) hk]
theorem Cr (l:List Sh) (k:Nat) (hk:k<l.length) (h:(bH (aY l k)&&fM l k)=false):cZ l=false:=jn l (k+1) l.length (by omega) (by simp only[b7];rw[h,Bool.and_false])
theorem jJ (l:List Sh):∀n,b7 l n=true->∀i,i<n->bH (aY l i)=true/\fM l i=true
 | 0,_,i,hi=>by omega
 | n+1,h,i,hi=>by
  simp only[b7,Bool.and_eq_true] at h
  by_cases e:i=n
  · subst e;exact h.2
  · exact jJ l n h.1 i (by omega)
theorem yT (l:List Sh):∀n,(∀i,i<n->bH (aY l i)=true/\fM l i=true)->b7 l n=true
 | 0,_=>rfl
 | n+1,h=>by
  simp only[b7,Bool.and_eq_true]
  exact⟨yT l n (fun i hi=>h i (by omega)),h n (by omega)⟩
def I9 (l:List AM.Ar) (hs:List Sh) (k:Nat):Bool:=(AM.aN l (aY hs k).page).2&&!(AM.aN l (aY hs k).page).1.zero
def u5 (l:List AM.Ar) (hs:List Sh):Nat->Bool
 | 0=>true
 | k+1=>u5 l hs k&&I9 l hs k
theorem AK (l:List AM.Ar) (hs:List Sh):∀n,u5 l hs n=true->∀i,i<n->I9 l hs i=true
 | 0,_,i,hi=>by omega
 | n+1,h,i,hi=>by
  simp only[u5,Bool.and_eq_true] at h
  by_cases e:i=n
  · subst e;exact h.2
  · exact AK l hs n h.1 i (by omega)
theorem GM (l:List AM.Ar) (hs:List Sh):∀n,(∀i,i<n->I9 l hs i=true)->u5 l hs n=true
 | 0,_=>rfl
 | n+1,h=>by
  simp only[u5,Bool.and_eq_true]
  exact⟨GM l hs n (fun i hi=>h i (by omega)),h n (by omega)⟩
def jw (l:List AM.Ar) (hs:List Sh) (en:Int):Int:=if AM.aO l=0 then (if decide ((hs.length:Int)=AM.sumTo l l.length)&&(cZ hs&&(u5 l hs hs.length&&kH l en)) then 0 else 1) else AM.aO l
/-! the pages of areas that are right rise -/
def gY (L:List Int):Prop:=L.Pairwise (·<·)
theorem nJ (a:AM.Ar) (n:Nat) (x:Int):x∈fV a n↔a.page<=x/\x<a.page+(n:Int):=by
 unfold fV
 rw[List.mem_map]
 constructor
 · rintro⟨m,hm,rfl⟩
   have:=List.mem_range.1 hm
   omega
 · rintro⟨h1,h2⟩
   exact⟨(x-a.page).toNat,List.mem_range.2 (by omega),by omega⟩
theorem pY (a:AM.Ar):∀n,gY (fV a n)
 | 0=>by simp[fV,gY]
 | n+1=>by
  rw[mj]
  unfold gY
  rw[List.pairwise_append]
  refine⟨pY a n,by simp,fun x hx y hy=>?_⟩
  have:=(nJ a n x).1 hx
  simp at hy
  omega
theorem yo (a:AM.Ar) (n:Nat):(fV a n).length=n:=by simp[fV]
theorem Gw (l:List AM.Ar) (hc:AM.aO l=0) (i:Nat) (hi:i+1<l.length):(AM.at_ l i).page+(AM.at_ l i).aB<=(AM.at_ l (i+1)).page:=by
 have h:=AM.cH l hc (i+1) hi
 simp only[AM.mL,Bool.and_eq_true,Nat.add_sub_cancel] at h
 have h2:=h.2
 have e:(i+1==0)=false:=by simp
 rw[e,Bool.false_or] at h2
 unfold AM.eT AM.Ar.dN at h2
 split at h2
 · omega
 · simp at h2
   omega
theorem qE (l:List AM.Ar) (hc:AM.aO l=0):∀i,i<=l.length->∀x∈cY l i,∀j,j<l.length->i<=j->x<(AM.at_ l j).page
 | 0,_,x,hx,j,_,_=>by simp[cY] at hx
 | i+1,hi,x,hx,j,hj,hij=>by
  simp only[cY,List.mem_append] at hx
  rcases hx with hx | hx
  · exact qE l hc i (by omega) x hx j hj (by omega)
  · have hk:=AM.cM l i (AM.cH l hc i (by omega))
    have h1:=(nJ _ _ _).1 hx
    have step:∀d,i+1+d<l.length->(AM.at_ l i).page+(AM.at_ l i).aB<=(AM.at_ l (i+1+d)).page:=by
     intro d
     induction d with
     | zero=>intro h;exact Gw l hc i h
     | succ d ih =>
      intro h
      have h2:=ih (by omega)
      have h3:=Gw l hc (i+1+d) h
      have h4:=AM.cM l (i+1+d) (AM.cH l hc (i+1+d) (by omega))
      have e:i+1+(d+1)=i+1+d+1:=by omega
      rw[e]
      omega
    have:=step (j-(i+1)) (by omega)
    have e:i+1+(j-(i+1))=j:=by omega
    rw[e] at this
    omega
theorem ll (l:List AM.Ar) (hc:AM.aO l=0):∀i,i<=l.length->gY (cY l i)
 | 0,_=>by simp[cY,gY]
 | i+1,hi=>by
  simp only[cY]
  unfold gY
  rw[List.pairwise_append]
  refine⟨ll l hc i (by omega),pY _ _,fun x hx y hy=>?_⟩
  have h1:=qE l hc i (by omega) x hx i (by omega) (Nat.le_refl _)
  have h2:=(nJ _ _ _).1 hy
  omega
theorem lq (l:List AM.Ar) (hc:AM.aO l=0):∀i,i<=l.length->((cY l i).length:Int)=AM.sumTo l i
 | 0,_=>rfl
 | i+1,hi=>by
  have ih:=lq l hc i (by omega)
  have hk:=AM.cM l i (AM.cH l hc i (by omega))
  simp only[cY,AM.sumTo,List.length_append,yo]
  omega
theorem kq (l:List AM.Ar) (x:Int):∀i,x∈cY l i↔∃k,k<i/\AM.hit (AM.at_ l k) x=true
 | 0=>by simp[cY]
 | i+1=>by
  simp only[cY,List.mem_append]
  rw[kq l x i,nJ]
  constructor
  · rintro(⟨k,hk,h⟩ | h)
    · exact⟨k,by omega,h⟩
    · exact⟨i,by omega,by unfold AM.hit AM.Ar.dN;exact decide_eq_true ⟨h.1,by omega⟩⟩
  · rintro⟨k,hk,h⟩
    by_cases e:k=i
    · subst e
      right
      unfold AM.hit AM.Ar.dN at h
      have:=of_decide_eq_true h
      omega
    · exact .inl ⟨k,by omega,h⟩
theorem mi {x:Int} {L:List Int} (h:gY (x::L)):gY L/\∀z∈L,x<z:=⟨(List.pairwise_cons.1 h).2,(List.pairwise_cons.1 h).1⟩
theorem qA:∀(K L:List Int),gY L->gY K->(∀z∈L,z∈K)->L.length<=K.length
 | [],L,_,_,hm=>by
  cases L with
  | nil=>exact Nat.le_refl _
  | cons x L=>exact absurd (hm x List.mem_cons_self) (by simp)
 | y::K,L,hL,hK,hm=>by
  cases L with
  | nil=>exact Nat.zero_le _
  | cons x L =>
   obtain⟨Z8,hL2⟩:=mi hL
   obtain⟨Mx,hK2⟩:=mi hK
   by_cases e:x=y
   · subst e
     have:=qA K L Z8 Mx (fun z hz=>by
      have h1:=hL2 z hz
      rcases List.mem_cons.1 (hm z (List.mem_cons_of_mem _ hz)) with g | g
      · omega
      · exact g)
     simp only[List.length_cons]
     omega
   · have hx:x∈K:=by
      rcases List.mem_cons.1 (hm x List.mem_cons_self) with g | g
      · exact(e g).elim
      · exact g
     have hyx:=hK2 x hx
     have:=qA K (x::L) hL Mx (fun z hz=>by
      rcases List.mem_cons.1 hz with g | g
      · subst g;exact hx
      · have h1:=hL2 z g
        rcases List.mem_cons.1 (hm z hz) with q | q
        · omega
        · exact q)
     simp only[List.length_cons] at this ⊢
     omega
theorem yR:∀(L K:List Int),gY L->gY K->(∀z∈L,z∈K)->K.length<=L.length->L=K
 | [],K,_,_,_,hl=>by
  cases K with
  | nil=>rfl
  | cons y K=>simp at hl
 | x::L,K,hL,hK,hm,hl=>by
  cases K with
  | nil=>exact absurd (hm x List.mem_cons_self) (by simp)
  | cons y K =>
   obtain⟨Z8,hL2⟩:=mi hL
   obtain⟨Mx,hK2⟩:=mi hK
   have e:x=y:=by
    rcases List.mem_cons.1 (hm x List.mem_cons_self) with g | g
    · exact g
    · have hyx:=hK2 x g
      have:=qA K (x::L) hL Mx (fun z hz=>by
       rcases List.mem_cons.1 hz with q | q
       · subst q;exact g
       · have h1:=hL2 z q
         rcases List.mem_cons.1 (hm z hz) with r | r
         · omega
         · exact r)
      simp only[List.length_cons] at this hl
      omega
   subst e
   rw[yR L K Z8 Mx (fun z hz=>by
    have h1:=hL2 z hz
    rcases List.mem_cons.1 (hm z (List.mem_cons_of_mem _ hz)) with g | g
    · omega
    · exact g) (by simp only[List.length_cons] at hl;omega)]
theorem tV (hs:List Sh) (h:cZ hs=true):gY (hs.map (·.page)):=by
 have step:∀i j,i<j->j<hs.length->(aY hs i).page<(aY hs j).page:=by
  intro i j hij hj
  induction j with
  | zero=>omega
  | succ j ih =>
   have h1:=(jJ hs hs.length h (j+1) hj).2
   unfold fM at h1
   have e:(j+1==0)=false:=by simp
   rw[e,Bool.false_or] at h1
   have h2:=of_decide_eq_true h1
   rw[Nat.add_sub_cancel] at h2
   by_cases e2:i=j
   · subst e2;exact h2
   · have:=ih (by omega) (by omega)
     omega
 unfold gY
 rw[List.pairwise_iff_getElem]
 intro i j hi hj hij
 rw[List.length_map] at hi hj
 have:=step i j hij hj
 unfold aY at this
 rw[List.getD_eq_getElem?_getD,List.getD_eq_getElem?_getD,List.getElem?_eq_getElem hi,List.getElem?_eq_getElem hj] at this
 simpa using this
theorem Cq (hs:List Sh) (h:gY (hs.map (·.page))) (k:Nat) (hk:k<hs.length):fM hs k=true:=by
 unfold fM
 by_cases e:k=0
 · subst e;rfl
 · have e2:(k==0)=false:=by simpa using e
   rw[e2,Bool.false_or]
   unfold gY at h
   rw[List.pairwise_iff_getElem] at h
   have:=h (k-1) k (by rw[List.length_map];omega) (by rw[List.length_map];exact hk) (by omega)
   refine decide_eq_true ?_
   unfold aY
   rw[List.getD_eq_getElem?_getD,List.getD_eq_getElem?_getD,List.getElem?_eq_getElem (by omega:k-1<hs.length),List.getElem?_eq_getElem hk]
   simpa using this
theorem xo (l:List AM.Ar) (p:Int) (k:Nat) (hk:k<l.length) (h:AM.hit (AM.at_ l k) p=true):∃j,j<l.length/\AM.aN l p=(AM.at_ l j,true):=by
 induction k using Nat.strongRecOn with
 | _ k ih =>
  by_cases g:∃j,j<k/\AM.hit (AM.at_ l j) p=true
  · obtain⟨j,hj,E6⟩:=g
    exact ih j hj (by omega) E6
  · exact⟨k,hk,AM.jd l p k hk (fun i hi=>by
     cases q:AM.hit (AM.at_ l i) p
     · rfl
     · exact(g ⟨i,hi,q⟩).elim) h⟩
theorem zz (l:List AM.Ar) (p:Int) (h:(AM.aN l p).2=true):∃k,k<l.length/\AM.hit (AM.at_ l k) p=true:=by
 by_cases e:∃k,k<l.length/\AM.hit (AM.at_ l k) p=true
 · exact e
 · rw[AM.iH l p (fun i hi=>by
    cases q:AM.hit (AM.at_ l i) p
    · rfl
    · exact(e ⟨i,hi,q⟩).elim)] at h
   cases h
theorem at_mem (hs:List Sh) (k:Nat) (h:k<hs.length):(aY hs k).page∈hs.map (·.page):=by
 unfold aY
 rw[List.getD_eq_getElem?_getD,List.getElem?_eq_getElem h]
 exact List.mem_map_of_mem (List.getElem_mem h)
theorem LA (hs:List Sh) (x:Int) (h:x∈hs.map (·.page)):∃k,k<hs.length/\(aY hs k).page=x:=by
 obtain⟨s,hs1,rfl⟩:=List.mem_map.1 h
 obtain⟨k,hk,e⟩:=List.getElem_of_mem hs1
 refine⟨k,hk,?_⟩
 unfold aY
 rw[List.getD_eq_getElem?_getD,List.getElem?_eq_getElem hk,<- e]
 rfl
theorem vB (l:List AM.Ar) (hc:AM.aO l=0) (p:Int) (j k:Nat) (hj:j<l.length) (hk:k<l.length) (h1:AM.hit (AM.at_ l j) p=true) (h2:AM.hit (AM.at_ l k) p=true):j=k:=by
 have key:∀j k,j<k->k<l.length->AM.hit (AM.at_ l j) p=true->AM.hit (AM.at_ l k) p=true->False:=by
  intro j k hjk hk h1 h2
  have hm:p∈cY l k:=(kq l p k).2 ⟨j,hjk,h1⟩
  have:=qE l hc k (by omega) p hm k hk (Nat.le_refl _)
  unfold AM.hit at h2
  have:=of_decide_eq_true h2
  omega
 rcases Nat.lt_trichotomy j k with g | g | g
 · exact(key j k g hk h1 h2).elim
 · exact g
 · exact(key k j g hj h2 h1).elim
theorem II (l:List AM.Ar) (hs:List Sh) (hc:AM.aO l=0) :
  (!ez l&&(dQ l hs&&iO hs))=(decide ((hs.length:Int)=AM.sumTo l l.length)&&(cZ hs&&u5 l hs hs.length)):=by
 rw[Bool.eq_iff_iff]
 simp only[Bool.and_eq_true,Bool.not_eq_true',decide_eq_true_eq]
 constructor
 · rintro⟨hz,he,hsh⟩
   have he':hs.map (·.page)=dD l:=of_decide_eq_true he
   have hlen:=congrArg List.length he'
   rw[List.length_map] at hlen
   have hr:gY (hs.map (·.page)):=by rw[he'];exact ll l hc l.length (Nat.le_refl _)
   refine⟨by rw[hlen];exact lq l hc l.length (Nat.le_refl _),?_,?_⟩
   · exact yT hs hs.length (fun i hi=>⟨tR hs hs.length hsh i hi,Cq hs hr i hi⟩)
   · refine GM l hs hs.length (fun i hi=>?_)
     have hm:(aY hs i).page∈cY l l.length:=by
      have:=at_mem hs i hi
      rw[he'] at this
      exact this
     obtain⟨k,hk,hh⟩:=(kq l _ _).1 hm
     obtain⟨j,hj,e⟩:=xo l _ k hk hh
     unfold I9
     rw[e]
     simp[yL l l.length hz j hj]
 · rintro⟨hlen,hr,hin⟩
   have hsub:∀z∈hs.map (·.page),z∈dD l:=fun z hz=>by
    obtain⟨k,hk,rfl⟩:=LA hs z hz
    have:=AK l hs hs.length hin k hk
    unfold I9 at this
    simp only[Bool.and_eq_true] at this
    obtain⟨j,hj,hh⟩:=zz l _ this.1
    exact(kq l _ _).2 ⟨j,hj,hh⟩
   have he':hs.map (·.page)=dD l:=yR _ _ (tV hs hr) (ll l hc l.length (Nat.le_refl _)) hsub (by
    have:=lq l hc l.length (Nat.le_refl _)
    unfold dD
    rw[List.length_map]
    omega)
   refine⟨?_,decide_eq_true he',?_⟩
   · cases hz:ez l
     · rfl
     · exfalso
       have:∃i,i<l.length/\(AM.at_ l i).zero=true:=by
        by_cases g:∃i,i<l.length/\(AM.at_ l i).zero=true
        · exact g
        · have key:∀n,n<=l.length->jG l n=false:=by
           intro n
           induction n with
           | zero=>intro _;rfl
           | succ n ih =>
            intro hn
            simp only[jG]
            rw[ih (by omega),Bool.false_or]
            cases q:(AM.at_ l n).zero
            · rfl
            · exact(g ⟨n,by omega,q⟩).elim
          unfold ez at hz
          rw[key l.length (Nat.le_refl _)] at hz
          cases hz
       obtain⟨i,hi,hzi⟩:=this
       have hk:=AM.cM l i (AM.cH l hc i hi)
       have hh:AM.hit (AM.at_ l i) (AM.at_ l i).page=true:=by
        unfold AM.hit AM.Ar.dN
        exact decide_eq_true ⟨Int.le_refl _,by omega⟩
       have hm:(AM.at_ l i).page∈hs.map (·.page):=by
        rw[he']
        exact(kq l _ _).2 ⟨i,hi,hh⟩
       obtain⟨k,hk1,hk2⟩:=LA hs _ hm
       have Mh:=AK l hs hs.length hin k hk1
       unfold I9 at Mh
       rw[hk2] at Mh
       obtain⟨j,hj,e⟩:=xo l _ i hi hh
       have E6:AM.hit (AM.at_ l j) (AM.at_ l i).page=true:=by
        obtain⟨m,jE,hm2⟩:=zz l (AM.at_ l i).page (by rw[e])
        have SK:=vB l hc _ m i jE hi hm2 hh
        have:AM.aN l (AM.at_ l i).page=(AM.at_ l i,true):=by
         refine AM.jd l _ i hi (fun q hq=>?_) hh
         cases r:AM.hit (AM.at_ l q) (AM.at_ l i).page
         · rfl
         · have:=vB l hc _ q i (by omega) hi r hh
           omega
        rw[this] at e
        injection e with e1 _
        rw[<- e1]
        exact hh
       have:=vB l hc _ j i hj hi E6 hh
       subst this
       rw[e,hzi] at Mh
       simp at Mh
   · have key:∀n,n<=hs.length->fL hs n=true:=by
      intro n
      induction n with
      | zero=>intro _;rfl
      | succ n ih =>
       intro hn
       simp only[fL,Bool.and_eq_true]
       exact⟨ih (by omega),(jJ hs hs.length hr n (by omega)).1⟩
     exact key hs.length (Nat.le_refl _)
theorem jO (l:List AM.Ar) (hs:List Sh) (en:Int):lR l hs en=jw l hs en:=by
 unfold lR jw
 by_cases hc:AM.aO l=0
 · rw[if_pos hc,if_pos hc]
   have h:=II l hs hc
   have e:(!ez l&&(dQ l hs&&(iO hs&&kH l en)))=(decide ((hs.length:Int)=AM.sumTo l l.length)&&(cZ hs&&(u5 l hs hs.length&&kH l en))):=by
    have a:(!ez l&&(dQ l hs&&(iO hs&&kH l en)))=((!ez l&&(dQ l hs&&iO hs))&&kH l en):=by
     cases ez l <;> cases dQ l hs <;> cases iO hs <;> rfl
    have b:(decide ((hs.length:Int)=AM.sumTo l l.length)&&(cZ hs&&(u5 l hs hs.length&&kH l en)))=((decide ((hs.length:Int)=AM.sumTo l l.length)&&(cZ hs&&u5 l hs hs.length))&&kH l en):=by
     cases decide ((hs.length:Int)=AM.sumTo l l.length) <;> cases cZ hs <;> cases u5 l hs hs.length <;> rfl
    rw[a,b,h]
   rw[e]
 · rw[if_neg hc,if_neg hc]
end LM
namespace FM
open Go.RowKit
def ie (bJ way:Int):Bool:=decide ((way=1/\bJ%2=0)∨(way=2/\bJ<2))
def je (l:List AM.Ar) (p way:Int):Int×Int :=
 if p<0∨(AM.aK l (p/16)).2=false then (1,p) else if ie (AM.aK l (p/16)).1.bJ way=true then (2,p) else (0,0)
def ek (l:List AM.Ar) (a way:Int):Nat->Int×Int
 | 0=>(0,0)
 | n+1=>if (ek l a way n).1=0 then je l (a+n) way else ek l a way n
def eX (l:List AM.Ar) (a size way:Int):Int×Int:=if way=2/\¬a%8=0 then (3,a) else ek l a way size.toNat
theorem nz {l:List AM.Ar} {p way:Int} (h:(je l p way).1=0):je l p way=(0,0)/\0<=p/\(AM.aK l (p/16)).2=true/\ie (AM.aK l (p/16)).1.bJ way=false:=by
 unfold je at h ⊢
 by_cases c:p<0∨(AM.aK l (p/16)).2=false
 · rw[if_pos c] at h
   cases h
 · rw[if_neg c] at h ⊢
   cases d:ie (AM.aK l (p/16)).1.bJ way with
   | true=>rw[d] at h;cases h
   | false =>
    refine⟨rfl,by omega,?_,rfl⟩
    cases e:(AM.aK l (p/16)).2 with
    | true=>rfl
    | false=>exact(c (.inr e)).elim
theorem se {l:List AM.Ar} {p way:Int} (h:p<0∨(AM.aK l (p/16)).2=false):je l p way=(1,p):=by unfold je;rw[if_pos h]
theorem xM {l:List AM.Ar} {p way:Int} (h:0<=p) (h2:(AM.aK l (p/16)).2=true) (h3:ie (AM.aK l (p/16)).1.bJ way=true):je l p way=(2,p):=by
 unfold je
 rw[if_neg (by rw[h2];intro g;rcases g with g | g;omega;cases g),if_pos h3]
theorem Hc {l:List AM.Ar} {p way:Int} (h:0<=p) (h2:(AM.aK l (p/16)).2=true) (h3:ie (AM.aK l (p/16)).1.bJ way=false):je l p way=(0,0):=by
 unfold je
 rw[if_neg (by rw[h2];intro g;rcases g with g | g;omega;cases g),h3]
 rfl
theorem nW {l:List AM.Ar} {a way:Int} {k:Nat} {f:Int×Int} (h:ek l a way k=f) (hf:¬f.1=0):∀n,k<=n->ek l a way n=f
 | 0, hn => by obtain rfl:k=0 := by omega
               exact h
 | n+1,hn=>by
  by_cases e:k=n+1
  · subst e;exact h
  · have ih:=nW h hf n (by omega)
    rw[ek,ih,if_neg hf]
theorem lU {l:List AM.Ar} {a way:Int} {k:Nat} (h:ek l a way k=(0,0)):ek l a way (k+1)=je l (a+k) way:=by
 rw[ek,h]
 rfl
theorem rY:∀(l:List AM.Ar) (q:Int),(AM.aN l q).2=true->∃k,k<l.length/\AM.hit (AM.at_ l k) q=true/\(AM.aN l q).1=AM.at_ l k
 | [],q,h=>by cases h
 | a::r,q,h=>by
  unfold AM.aN at h ⊢
  by_cases c:AM.hit a q=true
  · rw[if_pos c]
    exact⟨0,by simp,c,rfl⟩
  · rw[if_neg c] at h ⊢
    obtain⟨k,h1,h2,h3⟩:=rY r q h
    exact⟨k+1,by simp;omega,h2,h3⟩
theorem jN {l:List AM.Ar} {q:Int} (hc:AM.aO l=0) (h:(AM.aK l q).2=true):1<=q/\q<256/\0<=(AM.aK l q).1.bJ/\(AM.aK l q).1.bJ<=3:=by
 have e:AM.aK l q=AM.aN l q:=by unfold AM.aK;rw[if_pos hc]
 rw[e] at h ⊢
 obtain⟨k,h1,h2,h4⟩:=rY l q h
 have h5:=AM.cM l _ (AM.cH l hc _ h1)
 have h6:(AM.at_ l k).page<=q/\q<(AM.at_ l k).page+(AM.at_ l k).aB:=of_decide_eq_true h2
 rw[h4]
 omega
theorem kr {l:List AM.Ar} {q:Int} (h:(AM.aK l q).2=true):AM.aO l=0:=by
 by_cases c:AM.aO l=0
 · exact c
 · unfold AM.aK at h
   rw[if_neg c] at h
   cases h
theorem mI {l:List AM.Ar} {a way:Int}:∀{k:Nat},ek l a way (k+1)=(0,0)->16<=a/\a+k<4096
 | 0,h=>by
  rw[lU rfl] at h
  obtain⟨_,h1,h2,_⟩:=nz (by rw[h])
  have:=jN (kr h2) h2
  omega
 | k+1,h=>by
  have h0:ek l a way (k+1)=(0,0):=by
   by_cases c:(ek l a way (k+1)).1=0
   · rw[ek] at c ⊢
     split at c
     · rename_i d
       rw[if_pos d]
       exact(nz c).1
     · rename_i d
       exact(d c).elim
   · rw[nW (k:=k+1) rfl c (k+2) (by omega)] at h
     rw[h] at c
     exact(c rfl).elim
  have ih:=mI h0
  rw[lU h0] at h
  obtain⟨_,h1,h2,_⟩:=nz (by rw[h])
  have:=jN (kr h2) h2
  omega
end FM
end Go.Proofs.YtpgifpeohlllfaaGreat
