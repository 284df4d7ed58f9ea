import Derived.Test.YtebinaopncclgabGreatDoorRNode
import Derived.Test.YtebinaopncclgabGreatDoorDWant
import Derived.Test.YtebinaopncclgabGreatDoorGHall
set_option maxRecDepth 100000
set_option maxHeartbeats 8000000
namespace Go.Proofs.YtebinaopncclgabGreatDoor
open Go.RowKit Go.IntWalk
theorem zfx{zs:List Int}{k:Nat}(h:k<zs.length):zs.getD k 0=zs[k]:=by rw[yj,yl h];rfl
open Classical in
theorem zkh(r:Rd)(v vr vw:Value)(af:Option Addr)(cs:Nat)(zs:List Int)(w:World)(_hns:r.stops.length<=7)(hl:zs.length<=20)(hr:zaR w v zs)(aj:∃ao n c,vr=.slice ao n c)(ak:∃ao n c,vw=.slice ao n c):Calls Tryz.prog 213 #[.agg (zi r (.slice af r.stops.length cs) vr vw),v] w λe w'=>e=.returned (.bool (decide (∀x∈zs,0<=x/\x<=(r.stops.length:Int))))/\Below w.heap.size w w':=by
 obtain⟨W,hW⟩:∃W,W=w.alloc (.cells (zi r (.slice af r.stops.length cs) vr vw) 109):=⟨_,rfl⟩
 obtain⟨ad,ab,_,_,_,_,_,k5,_,_⟩:=za1 hW;have aa:=hid ad;have HR:=hid (hr.below ad);obtain⟨ao,c,rfl,_⟩:=hr;obtain⟨a1,n1,c1,rfl⟩:=aj;obtain⟨a2,n2,c2,rfl⟩:=ak;have ai:=hid hW;clear hW ad;unfold zi at*;go_in;go_wp2_with fail;go_loopw[5] (λi wr=>∃k:Nat,i=.int .i64 k/\k<=zs.length/\Hid (∀x∈zs.take k,0<=x/\x<=(r.stops.length:Int))/\Hid (Below W.heap.size W wr)) (λi _=>zs.length-(intOf i).toNat)
 ·exact⟨0,rfl,yu _,λx hx=>absurd hx (by simp),by show Below _ _ _;rw[ai.out];exact yk _ _⟩
 obtain⟨k,rfl,hk,HF,HB⟩:=hrel;have p5:=zc HB.out k5 ab;have hbw:=ya ab HB.out.size;by_cases ac:k<zs.length
 ·obtain⟨ao',c',hv,hz⟩:=HR.out.below HB.out;cases hv;obtain⟨g,rfl,hgl,x0⟩:=hz k ac;have ah:Hid (∀x∈zs.take (k+1),x∈zs.take k\/x=zs.getD k 0):=λx hx=>by
   rw[yr ac,yH] at hx;rcases hx with hx|hx
   ·exact .inl hx
   exact .inr (by rw[zfx ac];simpa using hx)
  have ae:Hid (zs.getD k 0∈zs):=zbW ac;generalize zs.getD k 0=z at*;have ik:(0:Int)<=(k:Int):=by omega
  have jk:(k:Int)<(zs.length:Int):=by omega
  clear hz;by_cases h1:z<0
  ·have e1:decide (z<0)=true:=by simpa using h1
   have HD:Hid (decide (∀x∈zs,0<=x/\x<=(r.stops.length:Int))=false):=by show _=_;rw[yI];intro h;have:=h z ae.out;omega
   clear h1;go_wp2_with fail;go_quiet (fail);go_wp2_with fail;go_ret;exact⟨zh HD.out.symm,zC (aa.out.trans (HB.out.mono aa.out.size)) _⟩
  have e1:decide (z<0)=false:=by simpa using h1
  by_cases h2:(r.stops.length:Int)<z
  ·have e2:decide ((r.stops.length:Int)<z)=true:=by simpa using h2
   have HD:Hid (decide (∀x∈zs,0<=x/\x<=(r.stops.length:Int))=false):=by show _=_;rw[yI];intro h;have:=h z ae.out;omega
   clear h1 h2;go_wp2_with fail;go_quiet (fail);go_wp2_with fail;go_ret;exact⟨zh HD.out.symm,zC (aa.out.trans (HB.out.mono aa.out.size)) _⟩
  have e2:decide ((r.stops.length:Int)<z)=false:=by simpa using h2
  have ag:Hid (∀x∈zs.take (k+1),0<=x/\x<=(r.stops.length:Int)):=λx hx=>by
   rcases ah.out x hx with h|h
   ·exact HF.out x h
   rw[h];omega
  clear h1 h2;go_wp2_with fail;go_quiet (fail);go_wp2_with fail;go_roundw
  ·exact⟨k+1,by go_num,by omega,ag,zC HB.out _⟩
  simp[intOf];omega
 have HD:Hid (decide (∀x∈zs,0<=x/\x<=(r.stops.length:Int))=true):=by show _=_;rw[yq];intro x hx;have:=HF.out x;rw[yD (by omega)] at this;exact this hx
 go_wp2_with fail;go_ret;exact⟨zh HD.out.symm,aa.out.trans (HB.out.mono aa.out.size)⟩
theorem zsI(v:Value)(zs:List Int)(w:World)(hn:zs.length<=20)(hr:zaR w v zs)(ac:∀z∈zs,-100000000<=z/\z<=100000000):Calls Tryz.prog 118 #[v] w λe w'=>e=.returned (.tuple #[.int .i64 zs.sum,.bool true])/\Below w.heap.size w w':=by
 obtain⟨ao,c,rfl,hr⟩:=hr;have HR:=hid hr;have ab:=hid ac;clear hr ac;go_in;go_wp2_with fail;go_loopw[4,5] (λs i wr=>∃k:Nat,k<=zs.length/\i=.int .i64 k/\s=.int .i64 (zs.take k).sum/\Hid (Below w.heap.size w wr)) (λ_ i _=>zs.length-(intOf i).toNat)
 ·exact⟨0,yu _,rfl,rfl,yk _ _⟩
 obtain⟨k,hk,rfl,rfl,HB⟩:=hrel;have ag:=zrt (zs:=zs.take k) (λz hz=>ab.out z (List.mem_of_mem_take hz));have ah:((zs.take k).length:Int)<=20:=by simp;omega
 have hsb2:-2000000000<=(zs.take k).sum/\(zs.take k).sum<=2000000000:=by omega
 clear ag ah;by_cases aa:k<zs.length
 ·obtain⟨b,af,ad,ae⟩:=HR.out k aa;subst af;have x0:=zc HB.out ae ad;have x1:=ya ad HB.out.size;have ik:(0:Int)<=(k:Int):=by omega
  have jk:(k:Int)<(zs.length:Int):=by omega
  have hf:=ab.out _ (zbW aa);have HN:=hid (ztm aa);have w1:IntKind.i64.wrap ((zs.take k).sum+zs.getD k 0)=(zs.take k).sum+zs.getD k 0:=zm _ (by omega);generalize zs.getD k 0=z at*;generalize (zs.take k).sum=S at*;clear ae;go_wp2_with go_in;go_roundw
  ·exact⟨k+1,by omega,by go_num,by rw[HN.out],by first|exact HB|exact HB.out.drew⟩
  simp[intOf];omega
 have HN:Hid ((zs.take k).sum=zs.sum):=by show _=_;rw[yD (by omega)]
 go_wp2_with go_in;refine yB (v:=.tuple #[.int .i64 (zs.take k).sum,.bool true]) (by simp[results,Tryz.results118,go_sem]) rfl ?_;exact⟨by rw[HN.out],HB.out⟩
def zjY(w:World)(v:Value)(n:Nat)(f:Nat->Int):Prop:=∃ao c,v=.slice ao n c/\∀j,j<n->∃b o,ao=some ⟨b,o,none⟩/\b<w.heap.size/\w.cell? ⟨b,o+j,none⟩=some (.int .i64 (f j))
def zcF(C:Nat->Nat->Int)(u v:Nat->Int)(i j:Nat):Prop:=C i j≠-1->u i+v j<=C i j
open Classical in
theorem znm(vc vu vv:Value)(n:Nat)(C:Nat->Nat->Int)(u v:Nat->Int)(w:World)(aC:SqR w vc n C)(hu:zjY w vu n u)(hv:zjY w vv n v)(ai:∀i,i<n->-100000000<=u i/\u i<=100000000)(aj:∀i,i<n->-100000000<=v i/\v i<=100000000):Calls Tryz.prog 119 #[vc,vu,vv] w λe w'=>e=.returned (.bool (decide (∀i j,i<n->j<n->zcF C u v i j)))/\Below w.heap.size w w':=by
 obtain⟨ao,c,rfl,hn,hq⟩:=aC;obtain⟨au,cu,rfl,hu⟩:=hu;obtain⟨av,cv,rfl,hv⟩:=hv;have HQ:=hid hq;have HU:=hid hu;have HV:=hid hv;have ar:=hid ai;have aw:=hid aj;clear hq hu hv ai aj;go_in;go_wp2_with fail;go_loopw[7] (λi wr=>∃k:Nat,k<=n/\i=.int .i64 k/\Hid (∀i j,i<k->j<n->zcF C u v i j)/\Hid (Below w.heap.size w wr)) (λi _=>n-(intOf i).toNat)
 ·exact⟨0,yu _,rfl,λi j h=>absurd h (by omega),yk _ _⟩
 obtain⟨k,hk,rfl,HL,HB⟩:=hrel;by_cases af:k<n
 ·obtain⟨b,b',ci,ax,al,aA,ab,ac⟩:=HQ.out k af;obtain⟨bu,ou,ay,am,aB⟩:=HU.out k af;subst ax;subst ay;have ah:=hid ac;have ai:=ar.out k af;obtain⟨wo,ak⟩:∃wo,wo=wr:=⟨_,rfl⟩
  rw[<-ak] at HB;clear ac;go_wp2_with go_in;rw[<-ak];clear ak;go_loopw[8] (λi wr=>∃j:Nat,j<=n/\i=.int .i64 j/\Hid (∀q,q<j->zcF C u v k q)/\Hid (Below w.heap.size w wr)) (λi _=>n-(intOf i).toNat)
  ·exact⟨0,yu _,rfl,λq h=>absurd h (by omega),HB⟩
  clear HB;obtain⟨j,hj,rfl,HI,HB⟩:=hrel;have x0:=zc HB.out aA al;have x1:=ya al HB.out.size;have x2:=ya ab HB.out.size;have x4:=zc HB.out aB am;have x5:=ya am HB.out.size;have ik:(0:Int)<=(k:Int):=by omega
  have jk:(k:Int)<(n:Int):=by omega
  by_cases ae:j<n
  ·obtain⟨bv,ov,az,an,ap⟩:=HV.out j ae;have x3:=zc HB.out (ah.out j ae) ab;subst az;have x6:=zc HB.out ap an;have x7:=ya an HB.out.size;have ij:(0:Int)<=(j:Int):=by omega
   have jj:(j:Int)<(n:Int):=by omega
   have aj:=aw.out j ae;clear ap;by_cases aa:C k j=-1
   ·have c1:(C k j != (-1:Int))=false:=by simp[aa]
    have ag:Hid (∀q,q<j+1->zcF C u v k q):=λq hq=>by
     by_cases h:q=j
     ·subst h;exact λh=>absurd aa h
     exact HI.out q (by omega)
    clear aa;go_wp2_with go_in;go_quiet (fail);go_wp2_with go_in;go_roundw
    ·exact⟨j+1,by omega,by go_num,ag,by first|exact HB|exact HB.out.drew|exact zC HB.out _⟩
    simp[intOf];omega
   have c1:(C k j != (-1:Int))=true:=by simpa using aa
   have w1:IntKind.i64.wrap (u k+v j)=u k+v j:=zm _ (by omega);by_cases ad:C k j<u k+v j
   ·have c2:decide (C k j<u k+v j)=true:=by simpa using ad
    have HD:Hid (decide (∀i j,i<n->j<n->zcF C u v i j)=false):=by show _=_;rw[yI];intro h;have:=h k j af ae aa;omega
    clear aa ad;go_wp2_with go_in;go_quiet (fail);go_wp2_with go_in;go_ret;exact⟨zh HD.out.symm,by first|exact HB.out|exact HB.out.drew|exact zC HB.out _⟩
   have c2:decide (C k j<u k+v j)=false:=by simpa using ad
   have ag:Hid (∀q,q<j+1->zcF C u v k q):=λq hq=>by
    by_cases h:q=j
    ·subst h;exact λ_=>by omega
    exact HI.out q (by omega)
   clear aa ad;go_wp2_with go_in;go_quiet (fail);go_wp2_with go_in;go_roundw
   ·exact⟨j+1,by omega,by go_num,ag,by first|exact HB|exact HB.out.drew|exact zC HB.out _⟩
   simp[intOf];omega
  have aq:Hid (∀i j,i<k+1->j<n->zcF C u v i j):=λi q hi hq=>by
   by_cases h:i=k
   ·subst h;exact HI.out q (by omega)
   exact HL.out i q (by omega) hq
  go_wp2_with go_in;go_roundw
  ·exact⟨k+1,by omega,by go_num,aq,by first|exact HB|exact HB.out.drew⟩
  simp[intOf];omega
 have HD:Hid (decide (∀i j,i<n->j<n->zcF C u v i j)=true):=by show _=_;rw[yq];exact λi j hi hj=>HL.out i j (by omega) hj
 go_wp2_with go_in;go_ret;exact⟨zh HD.out.symm,HB.out⟩
open Classical in
theorem zny(vc vr:Value)(n:Nat)(C:Nat->Nat->Int)(zs:List Int)(w:World)(aC:0<n)(hl:zs.length<=20)(aD:SqR w vc n C)(hr:zaR w vr zs):Calls Tryz.prog 116 #[vc,vr] w λe w'=>e=.returned (.bool (decide ((∀i,i<zs.length->zbU n zs i)/\zcu C zs n<zs.length)))/\Below w.heap.size w w':=by
 obtain⟨ao,c,rfl,hn,hq⟩:=aD;obtain⟨au,cu,rfl,hr⟩:=hr;have HQ:=hid hq;have HR:=hid hr;clear hq hr;go_in;go_wp2_with fail;go_loopw[5,6] (λcl j wr=>∃k:Nat,k<=n/\j=.int .i64 k/\cl=.int .i64 (zcu C zs k)/\Hid (0<k->∀i,i<zs.length->zbU n zs i)/\Hid (Below w.heap.size w wr)) (λ_ j _=>n-(intOf j).toNat)
 ·exact⟨0,yu _,rfl,rfl,λh=>absurd h (by omega),yk _ _⟩
 obtain⟨k,hk,rfl,rfl,HL,HB⟩:=hrel;have hhl:=zri C zs k;by_cases av:k<n
 ·have HS:=hid (znE C zs k);generalize zcu C zs k=hk0 at*;obtain⟨wo,an⟩:∃wo,wo=wr:=⟨_,rfl⟩
  rw[<-an] at HB;go_wp2_with fail;rw[<-an];clear an;go_loopw[7,8] (λhit i wr=>∃(a h:Nat),a<=zs.length/\i=.int .i64 a/\hit=.int .i64 h/\h<=1/\Hid ((h=1↔∃i,i<a/\zde C zs k i)/\∀i,i<a->zbU n zs i)/\Hid (Below w.heap.size w wr)) (λ_ i _=>zs.length-(intOf i).toNat)
  ·exact⟨0,0,yu _,rfl,rfl,by omega,⟨⟨λh=>absurd h (by omega),λ⟨i,h,_⟩=>absurd h (by omega)⟩,λi h=>absurd h (by omega)⟩,HB⟩
  clear HB;obtain⟨a,h,ha,rfl,rfl,aq,HI,HB⟩:=hrel;by_cases ar:a<zs.length
  ·obtain⟨g,aA,ap,aw⟩:=HR.out a ar;subst aA;have HD:Hid (¬zbU n zs a->decide ((∀i,i<zs.length->zbU n zs i)/\zcu C zs n<zs.length)=false):=λhb=>by rw[yI];intro hh;exact hb (hh.1 a ar)
   have HO:Hid (zde C zs k a↔C (zs.getD a 0).toNat k≠-1):=Iff.rfl;have y0:=zc HB.out aw ap;have l0:=ya ap HB.out.size;have ia:(0:Int)<=(a:Int):=by omega
   have ja:(a:Int)<(zs.length:Int):=by omega
   have ik:(0:Int)<=(k:Int):=by omega
   have jk:(k:Int)<(n:Int):=by omega
   have ag:Hid (zbU n zs a↔(0<=zs.getD a 0/\zs.getD a 0<(n:Int)/\(0<a->zs.getD (a-1) 0<zs.getD a 0))):=Iff.rfl;have HP:Hid (0<a->wr.cell? ⟨g,a-1,none⟩=some (.int .i64 (zs.getD (a-1) 0))):=λh0=>by obtain⟨g',aB,am,aE⟩:=HR.out (a-1) (by omega);cases aB;exact zc HB.out aE am
   generalize zs.getD a 0=x at*;generalize zs.getD (a-1) 0=y at*;clear aw;by_cases h1:x<0
   ·have e1:decide (x<0)=true:=by simpa using h1
    have aa:¬zbU n zs a:=λhh=>by have:=(ag.out.1 hh).1;omega
    clear h1;go_wp2_with fail;go_quiet (fail);go_wp2_with fail;go_ret;exact⟨zh (HD.out aa).symm,by first|exact HB.out|exact HB.out.drew|exact zC HB.out _⟩
   have e1:decide (x<0)=false:=by simpa using h1
   by_cases h2:(n:Int)<=x
   ·have e2:decide ((n:Int)<=x)=true:=by simpa using h2
    have aa:¬zbU n zs a:=λhh=>by have:=(ag.out.1 hh).2.1;omega
    clear h1 h2;go_wp2_with fail;go_quiet (fail);go_wp2_with fail;go_ret;exact⟨zh (HD.out aa).symm,by first|exact HB.out|exact HB.out.drew|exact zC HB.out _⟩
   have e2:decide ((n:Int)<=x)=false:=by simpa using h2
   by_cases al:a=0
   ·have e3:decide (0<(a:Int))=false:=by simp;omega
    have e3n:decide (0<a)=false:=by simp;omega
    have ai:Hid (zbU n zs a):=ag.out.2 ⟨by omega,by omega,λhh=>absurd hh (by omega)⟩;clear ag HP HD al;obtain⟨m,hm⟩:∃m:Nat,x=m:=⟨x.toNat,by omega⟩
    subst hm;obtain⟨b,b',ci,ah,aj,ak,ab,ad⟩:=HQ.out m (by omega);subst ah;have x0:=zc HB.out ak aj;have x3:=zc HB.out (ad k av) ab;have l1:=ya aj HB.out.size;have l2:=ya ab HB.out.size;have im:(0:Int)<=(m:Int):=by omega
    have jm:(m:Int)<(n:Int):=by omega
    have az:decide (n<=m)=false:=by simp;omega
    have af:Hid (zde C zs k a↔C m k≠-1):=by show _↔_;rw[HO.out];simp
    generalize C m k=d at*;clear ad ak h1 h2;by_cases hd:d=-1
    ·have c1:(d != (-1:Int))=false:=by simp[hd]
     have ae:Hid ((h=1↔∃i,i<a+1/\zde C zs k i)/\∀i,i<a+1->zbU n zs i):=by
      refine⟨⟨λhh=>?_,λ⟨i,hi,ho⟩=>?_⟩,λi hi=>?_⟩
      ·obtain⟨i,hi,ho⟩:=HI.out.1.1 hh;exact⟨i,by omega,ho⟩
      ·by_cases ac:i=a
       ·subst ac;exact absurd hd (af.out.1 ho)
       exact HI.out.1.2 ⟨i,by omega,ho⟩
      by_cases ac:i=a
      ·subst ac;exact ai.out
      exact HI.out.2 i (by omega)
     clear hd af HO;go_wp2_with fail;go_quiet (fail);go_wp2_with fail;exact⟨⟨a+1,h,by omega,by go_num,rfl,aq,ae,zC HB.out _⟩,by simp[intOf];omega⟩
    have c1:(d != (-1:Int))=true:=by simpa using hd
    have ae:Hid ((1=1↔∃i,i<a+1/\zde C zs k i)/\∀i,i<a+1->zbU n zs i):=by
     refine⟨⟨λ_=>⟨a,by omega,af.out.2 hd⟩,λ_=>rfl⟩,λi hi=>?_⟩;by_cases ac:i=a
     ·subst ac;exact ai.out
     exact HI.out.2 i (by omega)
    clear hd af HO;go_wp2_with fail;go_quiet (fail);go_wp2_with fail;exact⟨⟨a+1,1,by omega,by go_num,rfl,by omega,⟨⟨λ_=>ae.out.1.1 trivial,λ_=>rfl⟩,ae.out.2⟩,zC HB.out _⟩,by simp[intOf];omega⟩
   obtain⟨p,rfl⟩:∃p,a=p+1:=⟨a-1,by omega⟩
   have yp:wr.cell? ⟨g,p,none⟩=some (.int .i64 y):=HP.out (by omega);have e3:decide (0<((p+1:Nat):Int))=true:=by first|(simp;done)|(simp;omega)
   have ip:(0:Int)<=(p:Int):=by omega
   have jp:(p:Int)<(zs.length:Int):=by omega
   have hww:IntKind.i64.wrap ((p:Int)+1-1)=p:=by rw[show (p:Int)+1-1=p by omega];exact zm _ (by omega)
   have hww2:IntKind.i64.wrap (p:Int)=p:=zm _ (by omega);by_cases h3:x<=y
   ·have e4:decide (x<=y)=true:=by simpa using h3
    have aa:¬zbU n zs (p+1):=λhh=>by have:=(ag.out.1 hh).2.2 (by omega);omega
    clear h1 h2 h3 al;go_wp2_with fail;go_quiet (fail);go_wp2_with fail;go_ret;exact⟨zh (HD.out aa).symm,by first|exact HB.out|exact HB.out.drew|exact zC HB.out _⟩
   have e4:decide (x<=y)=false:=by simpa using h3
   have ai:Hid (zbU n zs (p+1)):=ag.out.2 ⟨by omega,by omega,λ_=>by omega⟩;clear ag HP HD h3 al;obtain⟨m,hm⟩:∃m:Nat,x=m:=⟨x.toNat,by omega⟩
   subst hm;obtain⟨b,b',ci,ah,aj,ak,ab,ad⟩:=HQ.out m (by omega);subst ah;have x0:=zc HB.out ak aj;have x3:=zc HB.out (ad k av) ab;have l1:=ya aj HB.out.size;have l2:=ya ab HB.out.size;have im:(0:Int)<=(m:Int):=by omega
   have jm:(m:Int)<(n:Int):=by omega
   have az:decide (n<=m)=false:=by simp;omega
   have af:Hid (zde C zs k (p+1)↔C m k≠-1):=by show _↔_;rw[HO.out];simp
   generalize C m k=d at*;clear ad ak h1 h2;by_cases hd:d=-1
   ·have c1:(d != (-1:Int))=false:=by simp[hd]
    have ae:Hid ((h=1↔∃i,i<(p+1)+1/\zde C zs k i)/\∀i,i<(p+1)+1->zbU n zs i):=by
     refine⟨⟨λhh=>?_,λ⟨i,hi,ho⟩=>?_⟩,λi hi=>?_⟩
     ·obtain⟨i,hi,ho⟩:=HI.out.1.1 hh;exact⟨i,by omega,ho⟩
     ·by_cases ac:i=(p+1)
      ·subst ac;exact absurd hd (af.out.1 ho)
      exact HI.out.1.2 ⟨i,by omega,ho⟩
     by_cases ac:i=(p+1)
     ·subst ac;exact ai.out
     exact HI.out.2 i (by omega)
    clear hd af HO;go_wp2_with fail;go_quiet (fail);go_wp2_with fail;exact⟨⟨(p+1)+1,h,by omega,by go_num,rfl,aq,ae,zC HB.out _⟩,by simp[intOf];omega⟩
   have c1:(d != (-1:Int))=true:=by simpa using hd
   have ae:Hid ((1=1↔∃i,i<(p+1)+1/\zde C zs k i)/\∀i,i<(p+1)+1->zbU n zs i):=by
    refine⟨⟨λ_=>⟨(p+1),by omega,af.out.2 hd⟩,λ_=>rfl⟩,λi hi=>?_⟩;by_cases ac:i=(p+1)
    ·subst ac;exact ai.out
    exact HI.out.2 i (by omega)
   clear hd af HO;go_wp2_with fail;go_quiet (fail);go_wp2_with fail;exact⟨⟨(p+1)+1,1,by omega,by go_num,rfl,by omega,⟨⟨λ_=>ae.out.1.1 trivial,λ_=>rfl⟩,ae.out.2⟩,zC HB.out _⟩,by simp[intOf];omega⟩
  have ax:Hid (0<k+1->∀i,i<zs.length->zbU n zs i):=λ_ i hi=>HI.out.2 i (by omega);have ay:Hid (zcu C zs (k+1)=hk0+h):=by
   show _=_;rw[HS.out];by_cases ho:∃i,i<zs.length/\zde C zs k i
   ·rw[yg (zjJ.1 ho),HI.out.1.2 (by obtain⟨i,hi,h⟩:=ho;exact⟨i,by omega,h⟩)]
   rw[ye (λhh=>ho (zjJ.2 hh))];have:h≠1:=λhh=>ho (by obtain⟨i,hi,h⟩:=HI.out.1.1 hh;exact⟨i,by omega,h⟩);omega
  clear HS HI;go_wp2_with fail;go_roundw
  ·exact⟨k+1,by omega,by go_num,by rw[ay.out];go_num,ax,HB⟩
  simp[intOf];omega
 obtain rfl:k=n:=by omega
 have HD:Hid (decide ((∀i,i<zs.length->zbU k zs i)/\zcu C zs k<zs.length)=decide (zcu C zs k<zs.length)):=by show _=_;rw[ybZ];exact⟨λhh=>hh.2,λhh=>⟨HL.out aC,hh⟩⟩
 go_wp2_with fail;go_ret;exact⟨zh HD.out.symm,HB.out⟩
end Go.Proofs.YtebinaopncclgabGreatDoor
