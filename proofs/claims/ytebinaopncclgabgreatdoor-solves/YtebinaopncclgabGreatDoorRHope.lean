import Derived.Test.YtebinaopncclgabGreatDoorCRarc
import Derived.Test.YtebinaopncclgabGreatDoorFPlain
import Derived.Test.YtebinaopncclgabGreatDoorRUnder
import Derived.Test.YtebinaopncclgabGreatDoorRBeg
set_option maxRecDepth 100000
set_option maxHeartbeats 8000000
namespace Go.Proofs.YtebinaopncclgabGreatDoor
open Go.RowKit Go.IntWalk
theorem zrm(r:Rd)(D:Nat->Nat->Int)(on off:List (List Int))(von voff vs vr vw:Value)(a b:Nat)(w:World)(hr:r.stops.length<=7)(ha:a<=r.stops.length)(hb:b<=r.stops.length)(ay:zbt w von on)(av:zbt w voff off)(aq:on.length<=4000000)(ar:off.length<=4000000)(hq:SqR w vw (r.stops.length+1) D)(aE:∃ao n c,vs=.slice ao n c)(aD:∃ao n c,vr=.slice ao n c):Calls Tryz.prog 185 #[.agg (zi r vs vr vw),von,voff,.int .i64 a,.int .i64 b] w λe w'=>e=.returned (.int .i64 (zeE on off D a b))/\Below w.heap.size w w':=by
 obtain⟨W,hW⟩:∃W,W=w.alloc (.cells (zi r vs vr vw) 109):=⟨_,rfl⟩
 obtain⟨ax,ac,_,_,_,_,_,_,_,k7⟩:=za1 hW;have ab:=hid ax;have HQ:=hid (hq.below ax);have ai:=hid (zgW off voff a b W (av.below ax) ar);have az:=hid (ay.below ax);have aj:Hid (∀W2,Below W.heap.size W W2->Calls Tryz.prog 210 #[von,.int .i64 a,.int .i64 b] W2 λe w'=>e=.returned (.bool (zdi on a b))/\Below W2.heap.size W2 w'):=λW2 h2=>zrk on von a b W2 (az.out.below h2) aq (by omega) (by omega);have HX:Hid (zeE on off D a b=if a=0/\b=0 then 0 else if a=b\/decide ([(a:Int),(b:Int)]∈off)=true\/zdi on a b=true then -1 else D a b):=by show _=_;unfold zeE;simp only[yq]
 obtain⟨a1,n1,c1,rfl⟩:=aD;obtain⟨a2,n2,c2,rfl⟩:=aE;obtain⟨a3,n3,rfl,_⟩:=id ay;obtain⟨a4,n4,rfl,_⟩:=id av;obtain⟨af,cf,rfl,hn100,aC⟩:=HQ.out;obtain⟨fg,fgi,fci,rfl,am,al,ad,aB⟩:=aC a (by omega);have hd:=aB b (by omega);obtain⟨d,aA⟩:∃d,d=D a b:=⟨_,rfl⟩
 rw[<-aA] at hd HX;generalize zeE on off D a b=ans at*;generalize decide ([(a:Int),(b:Int)]∈off)=gone at*;generalize zdi on a b=other at*;have ap:=hid hW;have ia:(0:Int)<=(a:Int):=by omega
 have ib:(0:Int)<=(b:Int):=by omega
 have ja2:(a:Int)<(r.stops.length:Int)+1:=by omega
 have jb2:(b:Int)<(r.stops.length:Int)+1:=by omega
 clear hq ay av ax hW aA aC aB HQ az;unfold zi at*;by_cases aw:a=0/\b=0
 ·have HY:Hid (ans=0):=by show _=_;rw[HX.out,yg aw]
  have c1:((a:Int)==0)=true:=by simp[aw.1]
  have c2:((b:Int)==0)=true:=by simp[aw.2]
  clear aw HX;go_in;go_wp2_with go_in
  all_goals
   go_ret;refine⟨zK HY.out.symm,?_⟩;rw[<-ap.out];exact ab.out
 have ak:Hid (ans=if a=b\/gone=true\/other=true then -1 else d):=by show _=_;rw[HX.out,ye aw]
 have aF:((a:Int)==0)=false\/(((a:Int)==0)=true/\((b:Int)==0)=false):=by
  by_cases h:a=0
  ·exact .inr ⟨by simp[h],by simp;omega⟩
  exact .inl (by simp;omega)
 clear aw HX;rcases aF with k1|⟨k1,k2⟩
 ·go_in;by_cases an:a=b
  ·have HY:Hid (ans=-1):=by show _=_;rw[ak.out,yg (.inl an)]
   have c3:((a:Int)==(b:Int))=true:=by simp[an]
   clear an ak;go_wp2_with fail;rw[<-ap.out];refine ai.out.mono ?_;rintro e1 w1⟨rfl,ag⟩;have ae:=hid ag;clear ag;go_wp2_with fail;refine(aj.out _ ae.out).mono ?_;rintro e2 w2⟨rfl,ah⟩;have aa:Hid (Below W.heap.size W w2):=ae.out.trans (ah.mono ae.out.size);clear ah ai aj;have x7:=zc aa.out k7 ac;have xf:=zc aa.out al am;have xd:=zc aa.out hd ad;have au:=ya ac aa.out.size;have aq:=ya am aa.out.size;have ar:=ya ad aa.out.size;clear hd al k7;go_wp2_with go_in
   all_goals
    go_ret;exact⟨zK HY.out.symm,by first|exact ab.out.trans (aa.out.mono ab.out.size)|exact ab.out.trans (aa.out.drew.mono ab.out.size)⟩
  have c3:((a:Int)==(b:Int))=false:=by simp;omega
  cases gone
  ·cases other
   ·have HY:Hid (ans=d):=by show _=_;rw[ak.out,ye (by rintro (h|h|h);exact an h;cases h;cases h)]
    clear an ak;go_wp2_with fail;rw[<-ap.out];refine ai.out.mono ?_;rintro e1 w1⟨rfl,ag⟩;have ae:=hid ag;clear ag;go_wp2_with fail;refine(aj.out _ ae.out).mono ?_;rintro e2 w2⟨rfl,ah⟩;have aa:Hid (Below W.heap.size W w2):=ae.out.trans (ah.mono ae.out.size);clear ah ai aj;have x7:=zc aa.out k7 ac;have xf:=zc aa.out al am;have xd:=zc aa.out hd ad;have au:=ya ac aa.out.size;have aq:=ya am aa.out.size;have ar:=ya ad aa.out.size;clear hd al k7;go_wp2_with go_in
    all_goals
     go_ret;exact⟨zK HY.out.symm,by first|exact ab.out.trans (aa.out.mono ab.out.size)|exact ab.out.trans (aa.out.drew.mono ab.out.size)⟩
   have HY:Hid (ans=-1):=by show _=_;rw[ak.out,yg (.inr (.inr rfl))]
   clear an ak;go_wp2_with fail;rw[<-ap.out];refine ai.out.mono ?_;rintro e1 w1⟨rfl,ag⟩;have ae:=hid ag;clear ag;go_wp2_with fail;refine(aj.out _ ae.out).mono ?_;rintro e2 w2⟨rfl,ah⟩;have aa:Hid (Below W.heap.size W w2):=ae.out.trans (ah.mono ae.out.size);clear ah ai aj;have x7:=zc aa.out k7 ac;have xf:=zc aa.out al am;have xd:=zc aa.out hd ad;have au:=ya ac aa.out.size;have aq:=ya am aa.out.size;have ar:=ya ad aa.out.size;clear hd al k7;go_wp2_with go_in
   all_goals
    go_ret;exact⟨zK HY.out.symm,by first|exact ab.out.trans (aa.out.mono ab.out.size)|exact ab.out.trans (aa.out.drew.mono ab.out.size)⟩
  have HY:Hid (ans=-1):=by show _=_;rw[ak.out,yg (.inr (.inl rfl))]
  clear an ak;go_wp2_with fail;rw[<-ap.out];refine ai.out.mono ?_;rintro e1 w1⟨rfl,ag⟩;have ae:=hid ag;clear ag;go_wp2_with fail;refine(aj.out _ ae.out).mono ?_;rintro e2 w2⟨rfl,ah⟩;have aa:Hid (Below W.heap.size W w2):=ae.out.trans (ah.mono ae.out.size);clear ah ai aj;have x7:=zc aa.out k7 ac;have xf:=zc aa.out al am;have xd:=zc aa.out hd ad;have au:=ya ac aa.out.size;have aq:=ya am aa.out.size;have ar:=ya ad aa.out.size;clear hd al k7;go_wp2_with go_in
  all_goals
   go_ret;exact⟨zK HY.out.symm,by first|exact ab.out.trans (aa.out.mono ab.out.size)|exact ab.out.trans (aa.out.drew.mono ab.out.size)⟩
 go_in;by_cases an:a=b
 ·have HY:Hid (ans=-1):=by show _=_;rw[ak.out,yg (.inl an)]
  have c3:((a:Int)==(b:Int))=true:=by simp[an]
  clear an ak;go_wp2_with fail;rw[<-ap.out];refine ai.out.mono ?_;rintro e1 w1⟨rfl,ag⟩;have ae:=hid ag;clear ag;go_wp2_with fail;refine(aj.out _ ae.out).mono ?_;rintro e2 w2⟨rfl,ah⟩;have aa:Hid (Below W.heap.size W w2):=ae.out.trans (ah.mono ae.out.size);clear ah ai aj;have x7:=zc aa.out k7 ac;have xf:=zc aa.out al am;have xd:=zc aa.out hd ad;have au:=ya ac aa.out.size;have aq:=ya am aa.out.size;have ar:=ya ad aa.out.size;clear hd al k7;go_wp2_with go_in
  all_goals
   go_ret;exact⟨zK HY.out.symm,by first|exact ab.out.trans (aa.out.mono ab.out.size)|exact ab.out.trans (aa.out.drew.mono ab.out.size)⟩
 have c3:((a:Int)==(b:Int))=false:=by simp;omega
 cases gone
 ·cases other
  ·have HY:Hid (ans=d):=by show _=_;rw[ak.out,ye (by rintro (h|h|h);exact an h;cases h;cases h)]
   clear an ak;go_wp2_with fail;rw[<-ap.out];refine ai.out.mono ?_;rintro e1 w1⟨rfl,ag⟩;have ae:=hid ag;clear ag;go_wp2_with fail;refine(aj.out _ ae.out).mono ?_;rintro e2 w2⟨rfl,ah⟩;have aa:Hid (Below W.heap.size W w2):=ae.out.trans (ah.mono ae.out.size);clear ah ai aj;have x7:=zc aa.out k7 ac;have xf:=zc aa.out al am;have xd:=zc aa.out hd ad;have au:=ya ac aa.out.size;have aq:=ya am aa.out.size;have ar:=ya ad aa.out.size;clear hd al k7;go_wp2_with go_in
   all_goals
    go_ret;exact⟨zK HY.out.symm,by first|exact ab.out.trans (aa.out.mono ab.out.size)|exact ab.out.trans (aa.out.drew.mono ab.out.size)⟩
  have HY:Hid (ans=-1):=by show _=_;rw[ak.out,yg (.inr (.inr rfl))]
  clear an ak;go_wp2_with fail;rw[<-ap.out];refine ai.out.mono ?_;rintro e1 w1⟨rfl,ag⟩;have ae:=hid ag;clear ag;go_wp2_with fail;refine(aj.out _ ae.out).mono ?_;rintro e2 w2⟨rfl,ah⟩;have aa:Hid (Below W.heap.size W w2):=ae.out.trans (ah.mono ae.out.size);clear ah ai aj;have x7:=zc aa.out k7 ac;have xf:=zc aa.out al am;have xd:=zc aa.out hd ad;have au:=ya ac aa.out.size;have aq:=ya am aa.out.size;have ar:=ya ad aa.out.size;clear hd al k7;go_wp2_with go_in
  all_goals
   go_ret;exact⟨zK HY.out.symm,by first|exact ab.out.trans (aa.out.mono ab.out.size)|exact ab.out.trans (aa.out.drew.mono ab.out.size)⟩
 have HY:Hid (ans=-1):=by show _=_;rw[ak.out,yg (.inr (.inl rfl))]
 clear an ak;go_wp2_with fail;rw[<-ap.out];refine ai.out.mono ?_;rintro e1 w1⟨rfl,ag⟩;have ae:=hid ag;clear ag;go_wp2_with fail;refine(aj.out _ ae.out).mono ?_;rintro e2 w2⟨rfl,ah⟩;have aa:Hid (Below W.heap.size W w2):=ae.out.trans (ah.mono ae.out.size);clear ah ai aj;have x7:=zc aa.out k7 ac;have xf:=zc aa.out al am;have xd:=zc aa.out hd ad;have au:=ya ac aa.out.size;have aq:=ya am aa.out.size;have ar:=ya ad aa.out.size;clear hd al k7;go_wp2_with go_in
 all_goals
  go_ret;exact⟨zK HY.out.symm,by first|exact ab.out.trans (aa.out.mono ab.out.size)|exact ab.out.trans (aa.out.drew.mono ab.out.size)⟩
theorem zoZ(r:Rd)(D:Nat->Nat->Int)(on off:List (List Int))(von voff vs vr vw:Value)(v n:Nat)(w:World)(hr:r.stops.length<=7)(hv:r.vans=v)(hv1:1<=v)(hv3:v<=3)(aR:n=r.stops.length+v)(aS:zbt w von on)(ak:zbt w voff off)(bq:on.length<=4000000)(br:off.length<=4000000)(hq:SqR w vw (r.stops.length+1) D)(bg:∃ao c,vs=.slice ao r.stops.length c)(bf:∃ao n c,vr=.slice ao n c):Calls Tryz.prog 124 #[.agg (zi r vs vr vw),von,voff] w λe w'=>∃x us,e=.returned x/\us.length=n/\zJ w' w.heap.size w'.heap.size x n (λi j=>zeE on off D (zr r.stops.length i) (zr r.stops.length j)) us/\Below w.heap.size w w':=by
 obtain⟨i0,hi,aV,aW,aX⟩:=info_parts Tryz.infoInt;obtain⟨j0,hj,bz,bA,bB⟩:=info_parts Tryz.infoInts;obtain⟨W,hW⟩:∃W,W=w.alloc (.cells (zi r vs vr vw) 109):=⟨_,rfl⟩
 obtain⟨aC,aa,k0,k1,k2,k3,k4,k5,k6,k7⟩:=za1 hW;have aG:=hid aC;have ba:=hid (zgK r.stops.length v);have a0:Hid (∀W2 i j,Below W.heap.size W W2->Calls Tryz.prog 185 #[.agg (zi r vs vr vw),von,voff,.int .i64 (zr r.stops.length i),.int .i64 (zr r.stops.length j)] W2 λe w'=>e=.returned (.int .i64 (zeE on off D (zr r.stops.length i) (zr r.stops.length j)))/\Below W2.heap.size W2 w'):=λW2 i j h2=>by have aM:Below w.heap.size w W2:=aC.trans (h2.mono aC.size);have l1:=zcT r.stops.length i;have l2:=zcT r.stops.length j;obtain⟨ao,c,e⟩:=bg;exact zrm r D on off von voff vs vr vw _ _ W2 hr (by omega) (by omega) (aS.below aM) (ak.below aM) bq br (hq.below aM) ⟨ao,_,c,e⟩ bf
 obtain⟨F,hF⟩:∃F:Nat->Nat->Int,F=λi j=>zeE on off D (zr r.stops.length i) (zr r.stops.length j):=⟨_,rfl⟩
 obtain⟨Sf,hS⟩:∃Sf:Nat->Nat,Sf=zr r.stops.length:=⟨_,rfl⟩
 have a5:Hid (∀W2 i j,Below W.heap.size W W2->Calls Tryz.prog 185 #[.agg (zi r vs vr vw),von,voff,.int .i64 (Sf i),.int .i64 (Sf j)] W2 λe w'=>e=.returned (.int .i64 (F i j))/\Below W2.heap.size W2 w'):=by intro W2 i j h2;rw[hF,hS];exact a0.out W2 i j h2
 have bn:Hid (zcy r.stops.length++List.replicate v 0=(List.range n).map λi=>(Sf i:Int)):=by show _=_;rw[aR,hS];exact ba.out
 rw[<-hF];obtain⟨a1,n1,c1,rfl⟩:=bf;obtain⟨a2,c2,rfl⟩:=bg;obtain⟨a3,n3,rfl,_⟩:=id aS;obtain⟨a4,n4,rfl,_⟩:=id ak;obtain⟨af,cf,rfl,_,_⟩:=id hq;rw[hv] at k0;have bb:=hid hW;have hn10:n<=10:=by omega
 have hn1:1<=n:=by omega
 have bv:r.vans=(v:Int):=hv;clear aS ak hq aC hW a0 ba hF hS;unfold zi at*;rw[bv] at bb a5⊢;have bo:=hid aR;have hm1:n<=r.stops.length+v:=by omega
 have hm2:r.stops.length+v<=n:=by omega
 clear aR;generalize hmm:r.stops.length=m at*;have aH:Hid (∀W2,Below W.heap.size W W2->w.heap.size<W2.heap.size/\W2.cell? ⟨w.heap.size,0,none⟩=some (.int .i64 v)/\W2.cell? ⟨w.heap.size,5,none⟩=some (.slice a2 m c2)):=λW2 h2=>⟨ya aa h2.size,zc h2 k0 aa,zc h2 k5 aa⟩
 have bm:Hid (∀W2,Below W.heap.size W W2->W2.cell? ⟨w.heap.size,1,none⟩=some (.int .i64 r.load)/\W2.cell? ⟨w.heap.size,2,none⟩=some (.int .i64 r.close)/\W2.cell? ⟨w.heap.size,3,none⟩=some (.int .i64 r.nodes)/\W2.cell? ⟨w.heap.size,4,none⟩=some (.int .i64 r.home)/\W2.cell? ⟨w.heap.size,6,none⟩=some (.slice a1 n1 c1)/\W2.cell? ⟨w.heap.size,7,none⟩=some (.slice af (m+1:Nat) cf)):=λW2 h2=>⟨zc h2 k1 aa,zc h2 k2 aa,zc h2 k3 aa,zc h2 k4 aa,zc h2 k6 aa,zc h2 k7 aa⟩
 clear k0 k1 k2 k3 k4 k5 k6 k7;go_in;go_wp2_with fail;rw[<-bb.out];go_loopw[7,8] (λlv i wr=>∃k:Nat,k<=m/\i=.int .i64 k/\Hid (wr.ownsRow W.heap.size 3 1 lv k (zd (zcy k)))/\Hid (Below W.heap.size W wr)) (λ_ i _=>m-(intOf i).toNat)
 ·exact⟨0,yu _,rfl,yC _ _ _ _,yk _ _⟩
 obtain⟨k,hk,rfl,HO,HB⟩:=hrel;obtain⟨al,cl,rfl,_,_⟩:=zg HO.out;have au:=HB.out.size;obtain⟨ar,d0,d5⟩:=aH.out wr HB.out;by_cases aQ:k<m
 ·have HT:=hid (zjM k);go_wp2_with(first
   | (at_builtin;refine yy _ rfl _ _ 40 rfl W.heap.size 3 i0 (.int .i64 0) 1 8 Tryz.underlying40 hi aV aW aX rfl (by decide) _ _ _ rfl (HO.out.alloc _) ⟨wr.heap.size,0,none⟩ 1 1 [.int .i64 (k+1:Nat)] rfl rfl ?c1 ?c2 ?c3 ?c4 ?c5 ?_)
   | go_in)
  case c1=>exact cell_one_new _ _ _
  case c2=>intro u hu;simp at hu;subst hu;rfl
  case c3=>unfold maxLen;omega
  case c4=>omega
  case c5=>simp;omega
  intro v' w2 ac ab _;have aI:=hid ac;have HG:=hid ab;clear ac ab d0 d5;go_wp2;go_roundw
  ·refine⟨k+1,by omega,by go_num,?_,?_⟩
   ·show World.ownsRow _ _ _ _ _ _ _;rw[HT.out,zaY];exact aI.out
   exact(HB.out.alloc (by omega) _).grown HG.out (by simp;omega) (λq hq=>by have:=(HO.out.lt q hq).1;omega)
  simp[intOf];omega
 have aD:k=m:=by omega
 subst aD;clear aQ hk;obtain⟨w1,bh⟩:∃w1,w1=wr:=⟨_,rfl⟩
 rw[<-bh] at HO HB;go_wp2_with fail;rw[<-bh];go_loopw[7,9] (λlv i wr=>∃q:Nat,q<=v/\i=.int .i64 q/\Hid (wr.ownsRow W.heap.size 3 1 lv (k+q) (zd (zcy k++List.replicate q 0)))/\Hid (Below W.heap.size W wr)) (λ_ i _=>v-(intOf i).toNat)
 ·exact⟨0,yu _,rfl,by show World.ownsRow _ _ _ _ _ _ _;rw[List.replicate_zero,yY];exact HO.out,HB⟩
 clear HO HB ar d0 d5 au;obtain⟨q,hq,rfl,HO,HB⟩:=hrel;obtain⟨al,cl,rfl,_,_⟩:=zg HO.out;have au:=HB.out.size;obtain⟨ar,d0,d5⟩:=aH.out wr HB.out;by_cases aQ:q<v
 ·have HT:Hid (zcy k++List.replicate (q+1) (0:Int)=(zcy k++List.replicate q 0)++[0]):=by show _=_;rw[ybI,yaa]
  go_wp2_with(first
   | (at_builtin;refine yy _ rfl _ _ 40 rfl W.heap.size 3 i0 (.int .i64 0) 1 8 Tryz.underlying40 hi aV aW aX rfl (by decide) _ _ _ rfl (HO.out.alloc _) ⟨wr.heap.size,0,none⟩ 1 1 [.int .i64 0] rfl rfl ?c1 ?c2 ?c3 ?c4 ?c5 ?_)
   | go_in)
  case c1=>exact cell_one_new _ _ _
  case c2=>intro u hu;simp at hu;subst hu;rfl
  case c3=>unfold maxLen;omega
  case c4=>omega
  case c5=>simp;omega
  intro v' w2 ac ab _;have aI:=hid ac;have HG:=hid ab;clear ac ab d0 d5;go_wp2;go_roundw
  ·refine⟨q+1,by omega,by go_num,?_,?_⟩
   ·show World.ownsRow _ _ _ _ _ _ _;rw[HT.out,zaY];exact aI.out
   exact(HB.out.alloc (by omega) _).grown HG.out (by simp;omega) (λq hq=>by have:=(HO.out.lt q hq).1;omega)
  simp[intOf];omega
 have aD:q=v:=by omega
 have am:=HO.out;rw[aD,<-bo.out,bn.out] at am;obtain⟨g0,c0,cur0,be,aP,aO,_⟩:=zF am (by omega);have ae:k+q=n:=by omega
 rw[ae] at HO;have e0:Value.slice al (k+q:Nat) cl=.slice (some ⟨g0,0,none⟩) n c0:=by rw[ae];exact be
 cases be;rw[ae];clear ae;have aJ:Hid (∀i,i<n->wr.cell? ⟨g0,i,none⟩=some (.int .i64 (Sf i))):=λi hi=>by rw[am.cellAt i (by omega)];simp[zd,hi]
 have ai:g0<wr.heap.size:=za5 am;obtain⟨wa,aU⟩:∃wa,wa=wr:=⟨_,rfl⟩
 rw[<-aU] at HB aJ ai au;clear HO am aP aO aD hq e0;go_wp2_with fail;rw[<-aU];clear aU ar d0 d5 aQ;go_loopw[10,11] (λov i wr=>∃(p:Nat)(os:List Value),i=.int .i64 p/\p<=n/\os.length=p/\Hid (zJ wr wa.heap.size wr.heap.size ov n F os)/\Hid (Below wa.heap.size wa wr)) (λ_ i _=>n-(intOf i).toNat)
 ·exact⟨0,[],rfl,by omega,rfl,zJ.nil _ _ _ _ _,yk _ _⟩
 have aZ:=HB;clear HB;obtain⟨p,os,rfl,hp,aE,HG,HB⟩:=hrel;have ah:=HB.out.size;obtain⟨aK,aL,bc,_,_⟩:=zg HG.out.own;rw[aE] at bc;subst bc;by_cases bs:p<n
 ·obtain⟨w3,aT⟩:∃w3,w3=wr:=⟨_,rfl⟩
  rw[<-aT] at HG HB ah;go_wp2_with fail;rw[<-aT];clear aT;go_loopw[12,13] (λl j wr=>∃q:Nat,j=.int .i64 q/\q<=n/\Hid (wr.ownsRow w3.heap.size 3 1 l q (zd ((List.range q).map (F p))))/\Hid (zJ wr wa.heap.size w3.heap.size (.slice aK p aL) n F os)/\Hid (Below w3.heap.size w3 wr)) (λ_ j _=>n-(intOf j).toNat)
  ·exact⟨0,rfl,by omega,yC _ _ _ _,HG,yk _ _⟩
  clear HG;have aY:=HB;clear HB;obtain⟨q,rfl,hq,HL,HG,HB⟩:=hrel;have aN:=HB.out.size;have aq:Below wa.heap.size wa wr:=aY.out.trans (HB.out.mono ah);have av:Below W.heap.size W wr:=aZ.out.trans (aq.mono au);obtain⟨an,ap,bu,_,_⟩:=zg HL.out;subst bu;by_cases bt:q<n
  ·have s1:wr.cell? ⟨g0,p,none⟩=some (.int .i64 (Sf p)):=(aq.cell (p:=⟨g0,p,none⟩) ai).trans (aJ.out p bs);have s2:wr.cell? ⟨g0,q,none⟩=some (.int .i64 (Sf q)):=(aq.cell (p:=⟨g0,q,none⟩) ai).trans (aJ.out q bt);obtain⟨ar,d0,d5⟩:=aH.out wr av;obtain⟨d1,d2,d3,d4,d6,d7⟩:=bm.out wr av;have aw:g0<wr.heap.size:=by omega
   have HC:Hid (∀W2,Below wr.heap.size wr W2->_):=λW2 h2=>a5.out W2 p q (av.trans (h2.mono av.size));generalize hsp:Sf p=sP at*;generalize hsq:Sf q=sQ at*;have a6:Hid (∀W2,Below wr.heap.size wr W2->Calls Tryz.prog 185 #[.agg #[.int .i64 v,.int .i64 r.load,.int .i64 r.close,.int .i64 r.nodes,.int .i64 r.home,.slice a2 k c2,.slice a1 n1 c1,.slice af (k+1:Nat) cf],.slice a3 on.length n3,.slice a4 off.length n4,.int .i64 sP,.int .i64 sQ] W2 λe w'=>e=.returned (.int .i64 (F p q))/\w'.cell? ⟨w.heap.size,0,none⟩=some (.int .i64 v)/\w'.cell? ⟨w.heap.size,1,none⟩=some (.int .i64 r.load)/\w'.cell? ⟨w.heap.size,2,none⟩=some (.int .i64 r.close)/\w'.cell? ⟨w.heap.size,3,none⟩=some (.int .i64 r.nodes)/\w'.cell? ⟨w.heap.size,4,none⟩=some (.int .i64 r.home)/\w'.cell? ⟨w.heap.size,5,none⟩=some (.slice a2 k c2)/\w'.cell? ⟨w.heap.size,6,none⟩=some (.slice a1 n1 c1)/\w'.cell? ⟨w.heap.size,7,none⟩=some (.slice af (k+1:Nat) cf)/\w'.cell? ⟨g0,p,none⟩=some (.int .i64 sP)/\w'.cell? ⟨g0,q,none⟩=some (.int .i64 sQ)/\Hid (Below wr.heap.size wr w')):=by intro W2 h2;refine(HC.out W2 h2).mono ?_;rintro e4 w4⟨rfl,bp⟩;have hb:Below wr.heap.size wr w4:=h2.trans (bp.mono h2.size);have hc:∀o u,wr.cell? ⟨w.heap.size,o,none⟩=some u->w4.cell? ⟨w.heap.size,o,none⟩=some u:=λo u hu=>zc hb hu ar;exact⟨rfl,hc 0 _ d0,hc 1 _ d1,hc 2 _ d2,hc 3 _ d3,hc 4 _ d4,hc 5 _ d5,hc 6 _ d6,hc 7 _ d7,(hb.cell (p:=⟨g0,p,none⟩) aw).trans s1,(hb.cell (p:=⟨g0,q,none⟩) aw).trans s2,hb⟩
   have aF:=hid aq;generalize hf:F p q=VV at*;have HV:=hid hf;have ip:(0:Int)<=(p:Int):=by omega
   have iq:(0:Int)<=(q:Int):=by omega
   have jp:(p:Int)<(n:Int):=by omega
   have jq:(q:Int)<(n:Int):=by omega
   clear aq av HC hf;go_wp2_with fail;go_region_held3 (λw'=>w'.cell? ⟨w.heap.size,0,none⟩=some (.int .i64 v)/\w'.cell? ⟨w.heap.size,1,none⟩=some (.int .i64 r.load)/\w'.cell? ⟨w.heap.size,2,none⟩=some (.int .i64 r.close)/\w'.cell? ⟨w.heap.size,3,none⟩=some (.int .i64 r.nodes)/\w'.cell? ⟨w.heap.size,4,none⟩=some (.int .i64 r.home)/\w'.cell? ⟨w.heap.size,5,none⟩=some (.slice a2 k c2)/\w'.cell? ⟨w.heap.size,6,none⟩=some (.slice a1 n1 c1)/\w'.cell? ⟨w.heap.size,7,none⟩=some (.slice af (k+1:Nat) cf)/\w'.cell? ⟨g0,p,none⟩=some (.int .i64 sP)/\w'.cell? ⟨g0,q,none⟩=some (.int .i64 sQ)) (go_keep) (first|(go_at_call 185;refine(a6.out _ (by first|exact yk _ _|exact(yk _ _).drew)).mono ?_;rintro e4 w4⟨rfl,x0,x1,x2,x3,x4,x5,x6,x7,x8,x9,az⟩));have aB:=hid (ze HL.out az.out);have a7:=hid (HG.out.below az.out (yh _));have aA:Hid (Below w3.heap.size w3 w4):=HB.out.trans (az.out.mono aN);have hb4s:w3.heap.size<=w4.heap.size:=aA.out.size;clear x0 x1 x2 x3 x4 x5 x6 x7 x8 x9 s1 s2 d0 d1 d2 d3 d4 d5 d6 d7 HL HG HB az a6 aF;go_wp2_with(at_builtin;refine yy _ rfl _ _ 40 rfl w3.heap.size 3 i0 (.int .i64 0) 1 8 Tryz.underlying40 hi aV aW aX rfl (by decide) _ _ _ rfl (aB.out.alloc _) ⟨w4.heap.size,0,none⟩ 1 1 [.int .i64 VV] rfl rfl ?c1 ?c2 ?c3 ?c4 ?c5 ?_)
   case c1=>exact za0 rfl rfl
   case c2=>intro u hu;simp at hu;subst hu;rfl
   case c3=>unfold maxLen;omega
   case c4=>omega
   case c5=>simp;omega
   intro v' w6 ag ax _;have a9:Hid (w6.ownsRow w3.heap.size 3 1 v' (q+1) (zd ((List.range (q+1)).map (F p)))):=by
    show World.ownsRow _ _ _ _ _ _ _;have e:zd ((List.range (q+1)).map (F p))=zd ((List.range q).map (F p))++[.int .i64 VV]:=by rw[<-HV.out];simp[zd,List.range_succ]
    rw[e];exact ag
   have aj:(w4.alloc (.cells #[.int .i64 VV] 3)).grownBy w6 (Value.slice an q ap).ownBlock:=ax;have bk:Hid (zJ w6 wa.heap.size w3.heap.size (.slice aK p aL) n F os):=(a7.out.below (zj w4 _) (yh _)).grown (ze aB.out (zj w4 _)) (yh _) aj;have bi:Hid (Below w3.heap.size w3 w6):=(aA.out.trans ((zj w4 _).mono aA.out.size)).grown aj (by simp;omega) (λx hx=>(aB.out.lt x hx).1);obtain⟨_,_,bw,_,_⟩:=zg a9.out;subst bw;clear ag ax aj aB a7 aA;go_wp2;go_roundw
   ·exact⟨q+1,by go_num,by omega,a9,bk,bi⟩
   simp[intOf];omega
  have bd:q=n:=by omega
  have a8:Hid (wr.ownsRow w3.heap.size 3 1 (.slice an q ap) n (zd ((List.range n).map (F p)))):=by have h:=HL.out;rw[bd] at h⊢;exact h
  clear bd;go_wp2_with(at_builtin;refine yy _ rfl _ _ 31 rfl wa.heap.size 40 j0 (.slice none 0 0) 1 24 Tryz.underlying31 hj bz bA bB rfl (by decide) _ _ _ rfl ((HG.out.own).alloc _) ⟨wr.heap.size,0,none⟩ 1 1 [.slice an q ap] rfl rfl ?c1 ?c2 ?c3 ?c4 ?c5 ?_)
  case c1=>exact za0 rfl rfl
  case c2=>intro u hu;simp at hu;subst hu;rfl
  case c3=>unfold maxLen;omega
  case c4=>omega
  case c5=>simp;omega
  intro v7 w7 ad ay _;have aj:(wr.alloc (.cells #[.slice an q ap] 40)).grownBy w7 (Value.slice aK p aL).ownBlock:=ay;have bl:Hid (zJ w7 wa.heap.size w7.heap.size v7 n F (os++[.slice an q ap])):=HG.out.push a8.out (by omega) (by omega) (zj wr _) aj (by rw[aE];exact ad) (λj hj=>by rw[aE];simp[zd,hj]);have bj:Hid (Below wa.heap.size wa w7):=((aY.out.trans (HB.out.mono ah)).trans ((zj wr _).mono (by omega))).grown aj (by simp;omega) (λx hx=>(HG.out.own.lt x (by rw[hx])).1);obtain⟨_,_,bx,_,_⟩:=zg ad;subst bx;clear ad ay aj HL HG HB a8;go_wp2;go_roundw
  ·exact⟨p+1,_,by go_num,by omega,by simp[aE],bl,bj⟩
  simp[intOf];omega
 go_wp2;go_ret;refine⟨_,os,rfl,by omega,?_,aG.out.trans ((aZ.out.trans (HB.out.mono au)).mono aG.out.size)⟩;exact HG.out.base (by have:=aG.out.size;omega)
def onP:zo->List (List Int)
 | []=>[]
 | p::P=>if p.2=true then onP P++[[(p.1.1:Int),(p.1.2:Int)]] else onP P
def zaC:zo->List (List Int)
 | []=>[]
 | p::P=>if p.2=true then zaC P else zaC P++[[(p.1.1:Int),(p.1.2:Int)]]
theorem zj4(a b:Nat)(P:zo):onP (((a,b),true)::P)=onP P++[[(a:Int),(b:Int)]]:=rfl
theorem zmi(a b:Nat)(P:zo):onP (((a,b),false)::P)=onP P:=rfl
theorem zlA(a b:Nat)(P:zo):zaC (((a,b),true)::P)=zaC P:=rfl
theorem zhD(a b:Nat)(P:zo):zaC (((a,b),false)::P)=zaC P++[[(a:Int),(b:Int)]]:=rfl
theorem zlF{q:List Int}:∀{P:zo},q∈onP P↔∃a b:Nat,((a,b),true)∈P/\q=[(a:Int),(b:Int)]:=by
 intro P;induction P with
 | nil=>simp[onP]
 | cons p P ih=>
  obtain⟨⟨a,b⟩,s⟩:=p;cases s with
  | true=>
   rw[zj4,yH,ih];constructor
   ·rintro (⟨x,y,h1,h2⟩|h)
    ·exact⟨x,y,yaf _ h1,h2⟩
    exact⟨a,b,by simp,by simpa using h⟩
   rintro⟨x,y,h1,h2⟩;rcases yG.1 h1 with e|e
   ·cases e;exact .inr (by simp[h2])
   exact .inl ⟨x,y,e,h2⟩
  | false=>
   rw[zmi,ih];constructor
   ·rintro⟨x,y,h1,h2⟩;exact⟨x,y,yaf _ h1,h2⟩
   rintro⟨x,y,h1,h2⟩;rcases yG.1 h1 with e|e
   ·cases e
   exact⟨x,y,e,h2⟩
theorem zu5{q:List Int}:∀{P:zo},q∈zaC P↔∃a b:Nat,((a,b),false)∈P/\q=[(a:Int),(b:Int)]:=by
 intro P;induction P with
 | nil=>simp[zaC]
 | cons p P ih=>
  obtain⟨⟨a,b⟩,s⟩:=p;cases s with
  | false=>
   rw[zhD,yH,ih];constructor
   ·rintro (⟨x,y,h1,h2⟩|h)
    ·exact⟨x,y,yaf _ h1,h2⟩
    exact⟨a,b,by simp,by simpa using h⟩
   rintro⟨x,y,h1,h2⟩;rcases yG.1 h1 with e|e
   ·cases e;exact .inr (by simp[h2])
   exact .inl ⟨x,y,e,h2⟩
  | true=>
   rw[zlA,ih];constructor
   ·rintro⟨x,y,h1,h2⟩;exact⟨x,y,yaf _ h1,h2⟩
   rintro⟨x,y,h1,h2⟩;rcases yG.1 h1 with e|e
   ·cases e
   exact⟨x,y,e,h2⟩
theorem zpN{n:Nat}{P:zo}(h:zab n P){a b:Nat}(h1:zt P a b=2):((a,b),false)∈P:=by
 induction h with
 | nil=>exact absurd h1 (show (0:Int)≠2 by omega)
 | @cons a' b' t P _ _ _ h4 _ ih=>
  by_cases e:a=a'/\b=b'
  ·rw[e.1,e.2] at h1⊢;have:zt (((a',b'),t)::P) a' b'=if t=true then 1 else 2:=zgl _ _ _ _
   rw[this] at h1;cases t with
   | true=>simp at h1
   | false=>simp
  have:zt (((a',b'),t)::P) a b=zt P a b:=zgr e;rw[this] at h1;exact yaf _ (ih h1)
theorem zgs{n:Nat}{P:zo}(h:zab n P){x y:Int}:[x,y]∈onP P↔0<=x/\0<=y/\zt P x.toNat y.toNat=1:=by
 rw[zlF];constructor
 ·rintro⟨a,b,h1,h2⟩;simp at h2;obtain⟨rfl,rfl⟩:=h2;have:=(zeQ h h1).1;exact⟨by omega,by omega,by simpa using this⟩
 rintro⟨h1,h2,h3⟩;exact⟨x.toNat,y.toNat,zo5 h h3,by rw[yaq h1,yaq h2]⟩
theorem zhO{n:Nat}{P:zo}(h:zab n P){x y:Int}:[x,y]∈zaC P↔0<=x/\0<=y/\zt P x.toNat y.toNat=2:=by
 rw[zu5];constructor
 ·rintro⟨a,b,h1,h2⟩;simp at h2;obtain⟨rfl,rfl⟩:=h2;have:=(zeQ h h1).1;exact⟨by omega,by omega,by simpa using this⟩
 rintro⟨h1,h2,h3⟩;exact⟨x.toNat,y.toNat,zpN h h3,by rw[yaq h1,yaq h2]⟩
theorem zgt:∀(P:zo),(onP P).length<=P.length/\(zaC P).length<=P.length
 | []=>⟨by simp[onP],by simp[zaC]⟩
 | ((a,b),true)::P=>by have:=zgt P;rw[zj4,zlA];simp;omega
 | ((a,b),false)::P=>by have:=zgt P;rw[zmi,zhD];simp;omega
theorem zim{I:Ins}{cl:Option Int}{P:zo}(h:zab I.n P){x y:Int}:(0<=x/\x<=(I.n:Int)/\0<=y/\y<=(I.n:Int)/\x≠y/\[x,y]∉onP P/\[x,y]∉zaC P->zax I cl P (1,[x,y])=some (((x.toNat,y.toNat),true)::P))/\(¬(0<=x/\x<=(I.n:Int)/\0<=y/\y<=(I.n:Int)/\x≠y/\[x,y]∉onP P/\[x,y]∉zaC P)->zax I cl P (1,[x,y])=none):=by
 have hr:=zhq h x.toNat y.toNat;unfold zax;rw[yg rfl];constructor
 ·rintro⟨h1,h2,h3,h4,h5,h6,h7⟩;rw[zgs h] at h6;rw[zhO h] at h7;have h0:zt P x.toNat y.toNat=0:=by
   rcases hr with e|e|e
   ·exact e
   ·exact absurd ⟨h1,h3,e⟩ h6
   exact absurd ⟨h1,h3,e⟩ h7
  rw[yg ⟨⟨h1,h2,h3,h4,h5⟩,h0⟩];rfl
 intro hn;rw[ye];rintro⟨⟨h1,h2,h3,h4,h5⟩,h6⟩;have h6:zt P x.toNat y.toNat=0:=h6;refine hn ⟨h1,h2,h3,h4,h5,?_,?_⟩
 ·rw[zgs h];rintro⟨_,_,e⟩;omega
 rw[zhO h];rintro⟨_,_,e⟩;omega
theorem zwv{n:Nat}{P:zo}(h:zab n P):zhy n (onP P):=λq hq=>by obtain⟨a,b,h1,h2⟩:=zlF.1 hq;have:=zeQ h h1;exact⟨a,b,h2,by omega,by omega,this.2.2.2⟩
theorem zrl{n:Nat}{P:zo}(h:zab n P):∀q∈onP P,q∉zaC P:=λq hq hc=>by obtain⟨a,b,h1,h2⟩:=zlF.1 hq;subst h2;have e1:=((zgs h).1 hq).2.2;have e2:=((zhO h).1 hc).2.2;omega
theorem zqq{n:Nat}{P:zo}(h:zab n P):zfA (onP P) (zaC P)=zt P:=by
 funext a b;have hd:=zrl h;have h1:=zgp hd a b;have h2:=znQ (on:=onP P) (off:=zaC P) a b;rw[zgs h] at h1;rw[zhO h] at h2;simp only[yam,Int.natCast_nonneg,true_and] at h1 h2;have h3:zfA (onP P) (zaC P) a b=0\/zfA (onP P) (zaC P) a b=1\/zfA (onP P) (zaC P) a b=2:=by
  unfold zfA zl4;split
  ·exact .inr (.inr rfl)
  split
  ·exact .inr (.inl rfl)
  exact .inl rfl
 have h4:=zhq h a b;omega
theorem zpS{n:Nat}{P:zo}(h:zab n P)(D:Nat->Nat->Int)(a b:Nat):zeE (onP P) (zaC P) D a b=zbZ n (zt P) D a b:=by rw[<-zqq h,zrw (zwv h) (zrl h)]
theorem ziV{r:Rd}(h:zE r):r.vans=(r.vans.toNat:Int)/\1<=r.vans.toNat/\r.vans.toNat<=3:=by have:=zaH.1 h.head;omega
theorem zjb(r:Rd)(P:zo)(von voff vs vr vw:Value)(w:World)(ac:zE r)(hP:zab r.stops.length P)(ad:zbt w von (onP P))(aa:zbt w voff (zaC P))(hq:SqR w vw (r.stops.length+1) (za r))(ag:∃ao c,vs=.slice ao r.stops.length c)(af:∃ao n c,vr=.slice ao n c):Calls Tryz.prog 124 #[.agg (zi r vs vr vw),von,voff] w λe w'=>∃x,e=.returned x/\SqR w' x (r.stops.length+r.vans.toNat) (zX (zb r (za r)) (zt P))/\Below w.heap.size w w':=by
 have hv:=ziV ac;have ab:=ac.nstops;have hd:=zdM ab hP;have hln:=zgt P;refine(zoZ r (za r) (onP P) (zaC P) von voff vs vr vw r.vans.toNat (r.stops.length+r.vans.toNat) w ab hv.1 hv.2.1 hv.2.2 rfl ad aa (by omega) (by omega) hq ag af).mono ?_;rintro e w'⟨x,us,he,ae,hg,hb⟩;refine⟨x,he,?_,hb⟩;have h1:=hg.sq ae (by omega);have h2:(λi j=>zeE (onP P) (zaC P) (za r) (zr r.stops.length i) (zr r.stops.length j))=zX (zb r (za r)) (zt P):=by funext i j;exact zpS hP (za r) _ _
 rw[h2] at h1;exact h1
theorem zjY.below{w w':World}{v:Value}{n:Nat}{f:Nat->Int}(h:zjY w v n f)(hb:Below w.heap.size w w'):zjY w' v n f:=by obtain⟨ao,c,h1,h2⟩:=h;refine⟨ao,c,h1,λj hj=>?_⟩;obtain⟨b,o,k1,k2,k3⟩:=h2 j hj;exact⟨b,o,k1,ya k2 hb.size,zc hb k3 k2⟩
def zau(cl:Option Int):Array Value:=#[.bool cl.isSome,.int .i64 (cl.getD 0)]
open Classical in
theorem zpn(r:Rd)(P:zo)(cl:Option Int)(zs:List Int)(von voff vs vr vw v:Value)(w:World)(ap:zE r)(hP:zab r.stops.length P)(hl:zs.length<=20)(aD:∀z∈zs,-100000000<=z/\z<=100000000)(hr:zaR w v zs)(ag:∀ao n c,v=.slice ao n c->n<=c)(aF:zbt w von (onP P))(ah:zbt w voff (zaC P))(hq:SqR w vw (r.stops.length+1) (za r))(aH:∃ao c,vs=.slice ao r.stops.length c)(aG:∃ao n c,vr=.slice ao n c):Calls Tryz.prog 214 #[.agg (zi r vs vr vw),.agg (zau cl),von,voff,v] w λe w'=>e=.returned (.bool (decide (∃c,cl=some c/\zes (zb r (za r)) (zt P) c zs)))/\Below w.heap.size w w':=by
 have af:Hid (∀W,Below w.heap.size w W->Calls Tryz.prog 124 #[.agg (zi r vs vr vw),von,voff] W λe w'=>∃x,e=.returned x/\SqR w' x (r.stops.length+r.vans.toNat) (zX (zb r (za r)) (zt P))/\Below W.heap.size W w'):=λW hW=>zjb r P von voff vs vr vw W ap hP (aF.below hW) (ah.below hW) (hq.below hW) aH aG;have ak:Hid (∀c,zes (zb r (za r)) (zt P) c zs↔zs.length=2*(r.stops.length+r.vans.toNat)/\c<=zs.sum/\∀i j,i<r.stops.length+r.vans.toNat->j<r.stops.length+r.vans.toNat->zcF (zX (zb r (za r)) (zt P)) (λi=>zs.getD i 0) (λj=>zs.getD (r.stops.length+r.vans.toNat+j) 0) i j):=λc=>⟨λh=>⟨h.len,h.sum,h.under⟩,λh=>⟨h.1,h.2.1,h.2.2⟩⟩
 have hv:=ziV ap;have hns:=ap.nstops;generalize zX (zb r (za r)) (zt P)=C at*;obtain⟨N,hN⟩:∃N,N=r.stops.length+r.vans.toNat:=⟨_,rfl⟩
 rw[<-hN] at af ak;have hN1:1<=N/\N<=10:=by omega
 generalize aK:zes (zb r (za r)) (zt P)=DD at*;have HR:=hid hr;have ay:=hid aD;obtain⟨a1,c1,rfl⟩:=aH;obtain⟨a2,n2,c2,rfl⟩:=aG;obtain⟨a3,c3,rfl,_⟩:=hq;obtain⟨a4,c4,rfl,_⟩:=aF;obtain⟨a5,c5,rfl,_⟩:=ah;obtain⟨a6,c6,rfl,_⟩:=hr;have hcp:=ag _ _ _ rfl;clear ag aD ap hP hN aK hv;unfold zi zau at*;cases cl with
 | none=>
  have HD:Hid (decide (∃c,(none:Option Int)=some c/\DD c zs)=false):=by show _=_;rw[yI];rintro⟨c,h,_⟩;cases h
  go_in;go_wp2_with fail;refine(af.out _ (zaa w _ _)).mono ?_;rintro e2 w2⟨x,rfl,ai,ad⟩;have ab:w2.heap[w.heap.size+1]?=some (.cells #[.bool false,.int .i64 0] 197 (0,0)):=(ad.block _ (by simp)).trans (by have h:=yx (w.alloc (.cells #[.int .i64 r.vans,.int .i64 r.load,.int .i64 r.close,.int .i64 r.nodes,.int .i64 r.home,.slice a1 r.stops.length c1,.slice a2 n2 c2,.slice a3 (r.stops.length+1) c3] 109)) (.cells #[.bool false,.int .i64 0] 197);rw[show (w.alloc (.cells #[.int .i64 r.vans,.int .i64 r.load,.int .i64 r.close,.int .i64 r.nodes,.int .i64 r.home,.slice a1 r.stops.length c1,.slice a2 n2 c2,.slice a3 (r.stops.length+1) c3] 109)).heap.size=w.heap.size+1 by simp] at h;exact h);have aa:Hid (Below w.heap.size w w2):=(zaa w _ _).trans (ad.mono (by simp;omega));have aB:=hid ai;obtain⟨ax,cx,rfl,_⟩:=ai;have k0:w2.cell? ⟨w.heap.size+1,0,none⟩=some (.bool false):=yi w2 _ 0 _ _ _ ab;have k1:w2.cell? ⟨w.heap.size+1,1,none⟩=some (.int .i64 0):=yi w2 _ 1 _ _ _ ab;have au:w.heap.size+1<w2.heap.size:=(yc.1 ab).1;clear ad ab af;go_wp2_with fail;go_ret;exact⟨zh HD.out.symm,by first|exact aa.out|exact zC aa.out _⟩
 | some cc=>
  have HD:Hid (decide (∃c,(some cc:Option Int)=some c/\DD c zs)=decide (DD cc zs)):=by show _=_;rw[ybZ];exact⟨λ⟨c,h,h2⟩=>by cases h;exact h2,λh=>⟨cc,rfl,h⟩⟩
  go_in;go_wp2_with fail;refine(af.out _ (zaa w _ _)).mono ?_;rintro e2 w2⟨x,rfl,ai,ad⟩;have ab:w2.heap[w.heap.size+1]?=some (.cells #[.bool true,.int .i64 cc] 197 (0,0)):=(ad.block _ (by simp)).trans (by have h:=yx (w.alloc (.cells #[.int .i64 r.vans,.int .i64 r.load,.int .i64 r.close,.int .i64 r.nodes,.int .i64 r.home,.slice a1 r.stops.length c1,.slice a2 n2 c2,.slice a3 (r.stops.length+1) c3] 109)) (.cells #[.bool true,.int .i64 cc] 197);rw[show (w.alloc (.cells #[.int .i64 r.vans,.int .i64 r.load,.int .i64 r.close,.int .i64 r.nodes,.int .i64 r.home,.slice a1 r.stops.length c1,.slice a2 n2 c2,.slice a3 (r.stops.length+1) c3] 109)).heap.size=w.heap.size+1 by simp] at h;exact h);have aa:Hid (Below w.heap.size w w2):=(zaa w _ _).trans (ad.mono (by simp;omega));have aB:=hid ai;obtain⟨ax,cx,rfl,_⟩:=ai;have k0:w2.cell? ⟨w.heap.size+1,0,none⟩=some (.bool true):=yi w2 _ 0 _ _ _ ab;have k1:w2.cell? ⟨w.heap.size+1,1,none⟩=some (.int .i64 cc):=yi w2 _ 1 _ _ _ ab;have au:w.heap.size+1<w2.heap.size:=(yc.1 ab).1;clear ad ab af;by_cases ac:zs.length=2*N
  ·obtain⟨ao',c',aL,aq⟩:=HR.out;cases aL;obtain⟨g,rfl,hgl,_⟩:=aq 0 (by omega);have aA:Hid (decide (∃c,(some cc:Option Int)=some c/\DD c zs)=(decide (∀i j,i<N->j<N->zcF C (λi=>zs.getD i 0) (λj=>zs.getD (N+j) 0) i j)&&decide (cc<=zs.sum))):=by show _=_;rw[HD.out,yW,yA,yq,yq,yq,ak.out cc];exact⟨λh=>⟨h.2.2,h.2.1⟩,λh=>⟨ac,h.2,h.1⟩⟩
   have ar:∀j,-100000000<=zs.getD j 0/\zs.getD j 0<=100000000:=λj=>by
    by_cases h:j<zs.length
    ·exact ay.out _ (zbW h)
    rw[yj,yao (by omega)];exact⟨by decide,by decide⟩
   have aj:zs.length-N=N:=by omega
   have az:Hid (∀W,Below w2.heap.size w2 W->Calls Tryz.prog 119 #[.slice ax N cx,.slice (some ⟨g,0,none⟩) N c6,.slice (some ⟨g,N,none⟩) (zs.length-N) (c6-N)] W λe w'=>e=.returned (.bool (decide (∀i j,i<N->j<N->zcF C (λi=>zs.getD i 0) (λj=>zs.getD (N+j) 0) i j)))/\w'.cell? ⟨w.heap.size+1,1,none⟩=some (.int .i64 cc)/\Hid (Below w.heap.size w w')/\Hid (w2.heap.size<=w'.heap.size)):=λW hW=>by
    rw[aj];have am:Below w.heap.size w W:=aa.out.trans (hW.mono aa.out.size);refine(znm _ _ _ N C (λi=>zs.getD i 0) (λj=>zs.getD (N+j) 0) W (aB.out.below hW) ⟨_,_,rfl,λj hj=>?_⟩ ⟨_,_,rfl,λj hj=>?_⟩ (λi _=>ar i) (λi _=>ar _)).mono ?_
    ·obtain⟨g',e',h1,h2⟩:=aq j (by omega);cases e';exact⟨g,0,rfl,ya h1 am.size,by rw[yat];exact zc am h2 h1⟩
    ·obtain⟨g',e',h1,h2⟩:=aq (N+j) (by omega);cases e';exact⟨g,N,rfl,ya h1 am.size,zc am h2 h1⟩
    rintro e w'⟨h1,h2⟩;have h3:Below w2.heap.size w2 w':=hW.trans (h2.mono hW.size);exact⟨h1,zc h3 k1 au,aa.out.trans (h3.mono aa.out.size),h3.size⟩
   have aC:Hid (∀W,Below w.heap.size w W->Calls Tryz.prog 118 #[.slice (some ⟨g,0,none⟩) zs.length c6] W λe w'=>e=.returned (.tuple #[.int .i64 zs.sum,.bool true])/\Below W.heap.size W w'):=λW hW=>zsI _ zs W hl (HR.out.below hW) ay.out;generalize decide (∀i j,i<N->j<N->zcF C (λi=>zs.getD i 0) (λj=>zs.getD (N+j) 0) i j)=bu at*;have b1:((zs.length:Int) != (N:Int)+(N:Int))=false:=by simp;omega
   have i1:(0:Int)<=(N:Int):=by omega
   have j1:(N:Int)<=(c6:Int):=by omega
   have j2:(N:Int)<=(zs.length:Int):=by omega
   have j3:(zs.length:Int)<=(c6:Int):=by omega
   have j4:¬(c6=N):=by omega
   clear ac aq ar aj HD ak;go_wp2_with fail;go_region_held3 (λw'=>w'.cell? ⟨w.heap.size+1,1,none⟩=some (.int .i64 cc)) (go_keep) (first|(go_at_call 119;refine(az.out _ (by first|exact yk _ _|exact(yk _ _).drew)).mono ?_;rintro e3 w3⟨rfl,kk,aw,aJ⟩));have ae:=hid aw.out;clear aw az;have av:w.heap.size+1<w3.heap.size:=ya au (by have:=aJ.out;exact this);go_wp2_with fail;refine(aC.out _ (by first|exact ae.out|exact ae.out.drew)).mono ?_;rintro e4 w4⟨rfl,an⟩;have k4:w4.cell? ⟨w.heap.size+1,1,none⟩=some (.int .i64 cc):=zc an (by first|exact kk|exact kk) av;have al:Hid (Below w.heap.size w w4):=by first|exact ae.out.trans (an.mono ae.out.size)|exact ae.out.drew.trans (an.mono ae.out.size)
   clear an aC kk;cases bu
   ·go_wp2_with fail;go_ret;exact⟨zh aA.out.symm,by first|exact al.out|exact zC al.out _⟩
   go_wp2_with fail;go_ret;exact⟨zh (by rw[aA.out];rfl),by first|exact al.out|exact zC al.out _⟩
  have aE:decide (∃c,(some cc:Option Int)=some c/\DD c zs)=false:=by rw[HD.out,yI];exact λh=>ac ((ak.out cc).1 h).1
  have aI:=hid aE;have b1:((zs.length:Int) != (N:Int)+(N:Int))=true:=by simp;omega
  clear aE ac HD;go_wp2_with fail;go_ret;exact⟨zh aI.out.symm,by first|exact aa.out|exact zC aa.out _⟩
def zfJ(on:List (List Int))(zs:List Int)(i:Nat):Prop:=[zs.getD i 0,zs.getD (i+1) 0]∈on/\(i+2<zs.length->zs.getD (i+1) 0≠0)
def zgb(n:Nat)(on:List (List Int))(zs:List Int):Prop:=(∀x∈zs,0<=x/\x<=(n:Int))/\∀i,i+1<zs.length->zfJ on zs i
open Classical in
theorem zl2(r:Rd)(on:List (List Int))(von v vr vw:Value)(ah:Option Addr)(cs:Nat)(zs:List Int)(w:World)(aG:r.stops.length<=7)(hl:zs.length<=20)(hr:zaR w v zs)(ar:zbt w von on)(aF:on.length<=4000000)(au:∃ao n c,vr=.slice ao n c)(av:∃ao n c,vw=.slice ao n c):Calls Tryz.prog 215 #[.agg (zi r (.slice ah r.stops.length cs) vr vw),von,v] w λe w'=>e=.returned (.bool (decide (zgb r.stops.length on zs)))/\Below w.heap.size w w':=by
 have al:Hid (∀W,Below w.heap.size w W->Calls Tryz.prog 213 #[.agg (zi r (.slice ah r.stops.length cs) vr vw),v] W λe w'=>e=.returned (.bool (decide (∀x∈zs,0<=x/\x<=(r.stops.length:Int))))/\Below W.heap.size W w'):=λW hW=>zkh r v vr vw ah cs zs W aG hl (hr.below hW) au av;have ax:Hid (∀(a b:Int) W,Below w.heap.size w W->Calls Tryz.prog 123 #[von,.int .i64 a,.int .i64 b] W λe w'=>e=.returned (.bool (decide ([a,b]∈on)))/\Below W.heap.size W w'):=λa b W hW=>zgW on von a b W (ar.below hW) aF;have HR:=hid hr;obtain⟨a1,n1,c1,rfl⟩:=au;obtain⟨a2,n2,c2,rfl⟩:=av;obtain⟨a4,c4,rfl,_⟩:=ar;obtain⟨a6,c6,rfl,_⟩:=hr;generalize an:decide (∀x∈zs,0<=x/\x<=(r.stops.length:Int))=bf at*;have ak:Hid (bf=true↔∀x∈zs,0<=x/\x<=(r.stops.length:Int)):=by show _↔_;rw[<-an,yq]
 clear an;unfold zi at*;go_in;go_wp2_with fail;refine(al.out _ (zj w _)).mono ?_;rintro e1 w1⟨rfl,am⟩;have aw:Hid (Below w.heap.size w w1):=(zj w _).trans (am.mono (by simp));clear am al;go_wp2_with fail;go_loopw[7,8] (λok i wr=>∃(k:Nat)(b:Bool),i=.int .i64 k/\ok=.bool b/\k<=zs.length/\Hid (b=true↔(∀x∈zs,0<=x/\x<=(r.stops.length:Int))/\∀i,i+1<k->zfJ on zs i)/\Hid (Below w.heap.size w wr)) (λ_ i _=>zs.length-(intOf i).toNat)
 ·exact⟨0,bf,rfl,rfl,yu _,⟨λh=>⟨ak.out.1 h,λi hi=>absurd hi (by omega)⟩,λh=>ak.out.2 h.1⟩,aw⟩
 obtain⟨k,b,rfl,rfl,hk,HI,HB⟩:=hrel;by_cases aE:k<zs.length
 ·cases b with
  | false=>
   have HD:Hid (decide (zgb r.stops.length on zs)=false):=by show _=_;rw[yI];intro h;have:=HI.out.2 ⟨h.1,λi hi=>h.2 i (by omega)⟩;cases this
   go_wp2_with fail;go_ret;exact⟨zh HD.out.symm,by first|exact HB.out|exact zC HB.out _⟩
  | true=>
   by_cases aq:k=0
   ·have b0:decide (0<(k:Int))=false:=by simp;omega
    have b0n:decide (0<k)=false:=by simp;omega
    have ay:Hid (true=true↔(∀x∈zs,0<=x/\x<=(r.stops.length:Int))/\∀i,i+1<k+1->zfJ on zs i):=⟨λh=>⟨(HI.out.1 h).1,λi hi=>absurd hi (by omega)⟩,λ_=>rfl⟩
    clear aq;go_wp2_with fail;go_roundw
    ·exact⟨k+1,true,by go_num,rfl,by omega,ay,by first|exact HB|exact zC HB.out _⟩
    simp[intOf];omega
   obtain⟨p,rfl⟩:∃p,k=p+1:=⟨k-1,by omega⟩
   obtain⟨g,rfl,ai,x1⟩:=(by obtain⟨aB,c',aj,h⟩:=HR.out;cases aj;exact h (p+1) aE:∃g,a6=some ⟨g,0,none⟩/\g<w.heap.size/\w.cell? ⟨g,p+1,none⟩=some (.int .i64 (zs.getD (p+1) 0)))
   have x0:w.cell? ⟨g,p,none⟩=some (.int .i64 (zs.getD p 0)):=by obtain⟨aB,c',aj,h⟩:=HR.out;cases aj;obtain⟨g',e',_,h2⟩:=h p (by omega);cases e';exact h2
   have ae:Hid (zfJ on zs p↔[zs.getD p 0,zs.getD (p+1) 0]∈on/\(p+2<zs.length->zs.getD (p+1) 0≠0)):=Iff.rfl;have y0:=zc HB.out x0 ai;have y1:=zc HB.out x1 ai;have l0:=ya ai HB.out.size;generalize zs.getD p 0=x at*;generalize zs.getD (p+1) 0=y at*;have ab:Hid (∀W,Below wr.heap.size wr W->Calls Tryz.prog 123 #[.slice a4 on.length c4,.int .i64 x,.int .i64 y] W λe w'=>e=.returned (.bool (decide ([x,y]∈on)))/\w'.cell? ⟨g,p,none⟩=some (.int .i64 x)/\w'.cell? ⟨g,p+1,none⟩=some (.int .i64 y)/\Hid (Below w.heap.size w w'/\g<w'.heap.size)):=λW hW=>by have aD:Below w.heap.size w W:=HB.out.trans (hW.mono HB.out.size);refine(ax.out x y W aD).mono ?_;rintro e w'⟨h1,h2⟩;have h3:Below wr.heap.size wr w':=hW.trans (h2.mono hW.size);exact⟨h1,zc h3 y0 l0,zc h3 y1 l0,HB.out.trans (h3.mono HB.out.size),ya l0 h3.size⟩
   generalize ap:decide ([x,y]∈on)=hd at*;have af:Hid (hd=true↔[x,y]∈on):=by show _↔_;rw[<-ap,yq]
   have ip:(0:Int)<=(p:Int):=by omega
   have jp:(p:Int)<(zs.length:Int):=by omega
   have jp1:(p:Int)+1<(zs.length:Int):=by omega
   have ip1:(0:Int)<=(p:Int)+1:=by omega
   have hww:IntKind.i64.wrap ((p:Int)+1-1)=p:=by rw[show (p:Int)+1-1=p by omega];exact zm _ (by omega)
   have hww2:IntKind.i64.wrap (p:Int)=p:=zm _ (by omega);have az:Hid (∀x∈zs,0<=x/\x<=(r.stops.length:Int)):=(HI.out.1 rfl).1;have aA:Hid (∀i,i+1<p+1->zfJ on zs i):=(HI.out.1 rfl).2;have ag:Hid (∀nb:Bool,(nb=true↔zfJ on zs p)->(nb=true↔(∀x∈zs,0<=x/\x<=(r.stops.length:Int))/\∀i,i+1<p+1+1->zfJ on zs i)):=λnb h=>⟨λhh=>⟨az.out,λi hi=>by
     by_cases e:i=p
     ·subst e;exact h.1 hh
     exact aA.out i (by omega)⟩,λhh=>h.2 (hh.2 p (by omega))⟩
   clear x0 x1 aq ap;by_cases h2:p+2<zs.length
   ·have e1:decide ((p:Int)+1+1<(zs.length:Int))=true:=by simp;omega
    have aC:decide (p+1+1<zs.length)=true:=by simp;omega
    by_cases hy:y=0
    ·have e2:(y==0)=true:=by simpa using hy
     have ad:=hid (ag.out false ⟨λh=>(by cases h),λh=>absurd hy ((ae.out.1 h).2 h2)⟩);clear hy h2;go_wp2_with fail;go_region_held3 (λw'=>w'.cell? ⟨g,p,none⟩=some (.int .i64 x)/\w'.cell? ⟨g,p+1,none⟩=some (.int .i64 y)) (go_keep) (first|(go_at_call 123;refine(ab.out _ (by first|exact yk _ _|exact(yk _ _).drew)).mono ?_;rintro e3 w3⟨rfl,z0,z1,aa⟩));have l3:=aa.out.2;have ac:=hid aa.out.1;clear ab aa y0 y1 HB;go_wp2_with fail;exact⟨⟨p+1+1,false,by go_num,rfl,by omega,ad,ac⟩,by simp[intOf];omega⟩
    have e2:(y==0)=false:=by simpa using hy
    have ad:=hid (ag.out hd ⟨λh=>ae.out.2 ⟨af.out.1 h,λ_=>hy⟩,λh=>af.out.2 (ae.out.1 h).1⟩);clear hy h2;go_wp2_with fail;go_region_held3 (λw'=>w'.cell? ⟨g,p,none⟩=some (.int .i64 x)/\w'.cell? ⟨g,p+1,none⟩=some (.int .i64 y)) (go_keep) (first|(go_at_call 123;refine(ab.out _ (by first|exact yk _ _|exact(yk _ _).drew)).mono ?_;rintro e3 w3⟨rfl,z0,z1,aa⟩));have l3:=aa.out.2;have ac:=hid aa.out.1;clear ab aa y0 y1 HB;go_wp2_with fail;exact⟨⟨p+1+1,hd,by go_num,rfl,by omega,ad,ac⟩,by simp[intOf];omega⟩
   have e1:decide ((p:Int)+1+1<(zs.length:Int))=false:=by simp;omega
   have aC:decide (p+1+1<zs.length)=false:=by simp;omega
   have ad:=hid (ag.out hd ⟨λh=>ae.out.2 ⟨af.out.1 h,λh3=>absurd h3 h2⟩,λh=>af.out.2 (ae.out.1 h).1⟩);clear h2;go_wp2_with fail;go_region_held3 (λw'=>w'.cell? ⟨g,p,none⟩=some (.int .i64 x)/\w'.cell? ⟨g,p+1,none⟩=some (.int .i64 y)) (go_keep) (first|(go_at_call 123;refine(ab.out _ (by first|exact yk _ _|exact(yk _ _).drew)).mono ?_;rintro e3 w3⟨rfl,z0,z1,aa⟩));have l3:=aa.out.2;have ac:=hid aa.out.1;clear ab aa y0 y1 HB;go_wp2_with fail;exact⟨⟨p+1+1,hd,by go_num,rfl,by omega,ad,ac⟩,by simp[intOf];omega⟩
 have HD:Hid (decide (zgb r.stops.length on zs)=b):=by show _=_;rw[yW,yq];exact⟨λh=>HI.out.2 ⟨h.1,λi hi=>h.2 i (by omega)⟩,λh=>⟨(HI.out.1 h).1,λi hi=>(HI.out.1 h).2 i (by omega)⟩⟩
 go_wp2_with fail;go_ret;exact⟨zh HD.out.symm,by first|exact HB.out|exact zC HB.out _⟩
theorem zjI{D:Nat->Nat->Int}{n:Nat}{l:List Int}(hD:∀a b,a<n+1->b<n+1->-1<=D a b/\D a b<=40960000)(hx:∀x∈l,0<=x/\x<(n:Int)+1):zbo D l=-1↔zT D l=false:=by
 unfold zbo;cases h:zT D l with
 | false=>simp
 | true=>
  rw[yg rfl];have h0:∀q,q<=l.length-1->0<=zbG D l q:=by
   intro q;induction q with
   | zero=>intro _;simp[zbG]
   | succ q ih=>intro hq;have h1:=ih (by omega);rw[zcH];unfold zT at h;have h2:=yaE (yF.1 h q (yaT.2 (by omega)));have s1:=zdz hx (show q<l.length by omega);have s2:=zdz hx (show q+1<l.length by omega);have h3:=hD (l.getD q 0).toNat (l.getD (q+1) 0).toNat (by omega) (by omega);have h4:z8 D l q=D (l.getD q 0).toNat (l.getD (q+1) 0).toNat:=rfl;omega
  have:=h0 (l.length-1) (yh _);simp;omega
open Classical in
theorem zk9(r:Rd)(vs vr vw:Value)(gi ci:Nat)(zs:List Int)(w:World)(ah:zE r)(hs:StR w vs r)(hq:SqR w vw (r.stops.length+1) (za r))(hl:zs.length<=20)(aH:0<zs.length)(af:gi<w.heap.size)(ad:∀j (hj:j<zs.length),w.cell? ⟨gi,j,none⟩=some (.int .i64 zs[j]))(hx:∀x∈zs,0<=x/\x<(r.stops.length:Int)+1)(ak:∃ao n c,vr=.slice ao n c):Calls Tryz.prog 216 #[.agg (zi r vs vr vw),.slice (some ⟨gi,0,none⟩) zs.length ci] w λe w'=>e=.returned (.bool (decide (zU (zb r (za r)) (zs.map Int.toNat))))/\Below w.heap.size w w':=by
 have HW:Hid (∀W,Below w.heap.size w W->Calls Tryz.prog 173 #[.agg (zi r vs vr vw),.slice (some ⟨gi,0,none⟩) zs.length ci] W λe w'=>e=.returned (.int .i64 (z7 r zs))/\Below W.heap.size W w'):=λW hW=>by obtain⟨a2,c2,aJ,_⟩:=hq;exact zhL r zs vs vr vw gi ci W ah (hs.below hW) (ya af hW.size) (λj hj=>zc hW (ad j hj) af) (by omega) hx ak ⟨_,_,_,aJ⟩
 have HL:Hid (∀W,Below w.heap.size w W->Calls Tryz.prog 109 #[.agg (zi r vs vr vw),.slice (some ⟨gi,0,none⟩) zs.length ci] W λe w'=>e=.returned (.int .i64 (zbo (za r) zs))/\Below W.heap.size W w'):=λW hW=>by obtain⟨a2,c2,aI,_⟩:=hs;exact ze1 r (za r) zs vs vr vw gi ci W (hq.below hW) (zaB ah) (ya af hW.size) (λj hj=>zc hW (ad j hj) af) (by omega) hx ⟨_,_,_,aI⟩ ak
 have an:Hid (∀W,Below w.heap.size w W->Calls Tryz.prog 110 #[.agg (zi r vs vr vw),.slice (some ⟨gi,0,none⟩) zs.length ci,.int .i64 ((zs.length-1:Nat):Int)] W λe w'=>e=.returned (.tuple #[.int .i64 (zaj r (za r) zs (zs.length-1)).1,.bool (zaj r (za r) zs (zs.length-1)).2])/\Below W.heap.size W w'):=λW hW=>zgx r (za r) zs vs vr vw gi ci w ah hs hq (zaB ah) af ad (by omega) hx ak (zs.length-1) (by omega) W hW;have aw:Hid (zU (zb r (za r)) (zs.map Int.toNat)↔((∃i k,i<zs.length/\k<i/\zbA zs i k)\/zH r zs=false\/zT (za r) zs=false\/(zay r (za r) zs []).isSome=false)):=ziB (λx aK=>(hx x aK).1) [];have aq:=hid (zka (r:=r) (D:=za r) [] ah hx aH);have ax:Hid (zH r zs=decide (z7 r zs<=r.load)):=rfl;have az:Hid ((zbo (za r) zs=-1↔zT (za r) zs=false)):=zjI (zaB ah) hx;have ai:Hid (∀j,j<zs.length->w.cell? ⟨gi,j,none⟩=some (.int .i64 (zs.getD j 0))):=λj hj=>by rw[zfx hj];exact ad j hj
 have ay:Hid (∀i k,zbA zs i k↔zs.getD i 0=zs.getD k 0/\zs.getD i 0≠0):=λi k=>Iff.rfl;have HX:Hid (∀i,i<zs.length->0<=zs.getD i 0):=λi hi=>(hx _ (zbW hi)).1;have hLW:=zaH.1 ah.head;obtain⟨W,hW⟩:∃W,W=w.alloc (.cells (zi r vs vr vw) 109):=⟨_,rfl⟩
 obtain⟨aA,aa,k0,k1,k2,k3,k4,k5,k6,k7⟩:=za1 hW;have ag:=hid aA;have aF:=hid hW;obtain⟨a1,n1,c1,rfl⟩:=ak;obtain⟨a2,c2,rfl,_⟩:=hq;obtain⟨a3,c3,rfl,_⟩:=hs;generalize z7 r zs=wt at*;generalize zbo (za r) zs=ln at*;generalize zaj r (za r) zs (zs.length-1)=bg at*;obtain⟨bt,bl⟩:=bg;dsimp only at an aq;have aj:Hid (∀b:Bool,(b=true↔((∃i k,i<zs.length/\k<i/\zbA zs i k)\/r.load<wt\/ln=-1\/bl=true))->b=decide (zU (zb r (za r)) (zs.map Int.toNat))):=λb h=>by
  rw[yW,h,yq,aw.out,ax.out,aq.out,az.out,yI];constructor
  ·rintro (h|h|h|h)
   ·exact .inl h
   ·exact .inr (.inl (by omega))
   ·exact .inr (.inr (.inl h))
   exact .inr (.inr (.inr (by rw[h];rfl)))
  rintro (h|h|h|h)
  ·exact .inl h
  ·exact .inr (.inl (by omega))
  ·exact .inr (.inr (.inl h))
  exact .inr (.inr (.inr (by simpa using h)))
 clear hW aA ad hx ah aw aq ax az;unfold zi at*;go_in;go_wp2_with fail;go_loopw[5] (λi wr=>∃k:Nat,i=.int .i64 k/\k<=zs.length/\Hid (∀i q,i<k->q<i->¬zbA zs i q)/\Hid (Below W.heap.size W wr)) (λi _=>zs.length-(intOf i).toNat)
 ·exact⟨0,rfl,yu _,λi q h=>absurd h (by omega),by show Below _ _ _;rw[aF.out];exact yk _ _⟩
 obtain⟨k,rfl,hk,HN,HB⟩:=hrel;by_cases au:k<zs.length
 ·obtain⟨wo,av⟩:∃wo,wo=wr:=⟨_,rfl⟩
  rw[<-av] at HB;go_wp2_with fail;rw[<-av];clear av;go_loopw[6] (λj wr=>∃m:Nat,j=.int .i64 m/\m<=k/\Hid (∀q,q<m->¬zbA zs k q)/\Hid (Below W.heap.size W wr)) (λj _=>k-(intOf j).toNat)
  ·exact⟨0,rfl,yu _,λq h=>absurd h (by omega),HB⟩
  clear HB;obtain⟨m,rfl,hm,HI,HB⟩:=hrel;by_cases aG:m<k
  ·have x0:wr.cell? ⟨gi,k,none⟩=_:=(HB.out.cell (by exact ya af ag.out.size)).trans (zc ag.out (ai.out k au) af);have x1:wr.cell? ⟨gi,m,none⟩=_:=(HB.out.cell (by exact ya af ag.out.size)).trans ((ag.out.cell (by exact af)).trans (ai.out m (by omega)));have l0:gi<wr.heap.size:=ya (ya af ag.out.size) HB.out.size;have HT:=hid (ay.out k m);have hx0:=HX.out k au;generalize zs.getD k 0=x at*;generalize zs.getD m 0=y at*;have ik:(0:Int)<=(k:Int):=by omega
   have jk:(k:Int)<(zs.length:Int):=by omega
   have im:(0:Int)<=(m:Int):=by omega
   have jm:(m:Int)<(zs.length:Int):=by omega
   by_cases h1:x=y
   ·have e1:(x==y)=true:=by simpa using h1
    by_cases h2:0<x
    ·have e2:decide (0<x)=true:=by simpa using h2
     have HD:=hid (aj.out true ⟨λ_=>.inl ⟨k,m,au,aG,HT.out.2 ⟨h1,by omega⟩⟩,λ_=>rfl⟩);clear h1 h2;go_wp2_with fail;go_quiet (fail);go_wp2_with fail;go_ret;exact⟨zh HD.out,zC (ag.out.trans (HB.out.mono ag.out.size)) _⟩
    have e2:decide (0<x)=false:=by simpa using h2
    have ap:Hid (∀q,q<m+1->¬zbA zs k q):=λq hq=>by
     by_cases e:q=m
     ·subst e;exact λh=>by have:=(HT.out.1 h).2;omega
     exact HI.out q (by omega)
    clear h1 h2;go_wp2_with fail;go_quiet (fail);go_wp2_with fail;go_roundw
    ·exact⟨m+1,by go_num,by omega,ap,zC HB.out _⟩
    simp[intOf];omega
   have e1:(x==y)=false:=by simpa using h1
   have ap:Hid (∀q,q<m+1->¬zbA zs k q):=λq hq=>by
    by_cases e:q=m
    ·subst e;exact λh=>h1 (HT.out.1 h).1
    exact HI.out q (by omega)
   clear h1;go_wp2_with fail;go_quiet (fail);go_wp2_with fail;go_roundw
   ·exact⟨m+1,by go_num,by omega,ap,zC HB.out _⟩
   simp[intOf];omega
  have aD:Hid (∀i q,i<k+1->q<i->¬zbA zs i q):=λi q hi hq=>by
   by_cases e:i=k
   ·subst e;exact HI.out q (by omega)
   exact HN.out i q (by omega) hq
  go_wp2_with fail;go_roundw
  ·exact⟨k+1,by go_num,by omega,aD,HB⟩
  simp[intOf];omega
 have aE:Hid (¬∃i k,i<zs.length/\k<i/\zbA zs i k):=λ⟨i,q,h1,h2,h3⟩=>HN.out i q (by omega) h2 h3;have p0:=zc HB.out k0 aa;have p1:=zc HB.out k1 aa;have p2:=zc HB.out k2 aa;have p3:=zc HB.out k3 aa;have p4:=zc HB.out k4 aa;have p5:=zc HB.out k5 aa;have p6:=zc HB.out k6 aa;have p7:=zc HB.out k7 aa;have lb:=ya aa HB.out.size;have am:Hid (Below w.heap.size w wr):=ag.out.trans (HB.out.mono ag.out.size);have aB:((zs.length-1:Nat):Int)=(zs.length:Int)-1:=by omega
 rw[aB] at an;have hwz:IntKind.i64.wrap ((zs.length:Int)-1)=(zs.length:Int)-1:=zm _ (by omega);clear HN ay ai HX k0 k1 k2 k3 k4 k5 k6 k7 aB;go_wp2_with fail;refine(HW.out _ am.out).mono ?_;rintro e2 w2⟨rfl,ab⟩;have l2:=ya lb ab.size;have al:Hid (Below w.heap.size w w2):=am.out.trans (ab.mono am.out.size);have q0:=zc ab p0 lb;have q1:=zc ab p1 lb;have q2:=zc ab p2 lb;have q3:=zc ab p3 lb;have q4:=zc ab p4 lb;have q5:=zc ab p5 lb;have q6:=zc ab p6 lb;have q7:=zc ab p7 lb;clear ab HW p0 p1 p2 p3 p4 p5 p6 p7;go_wp2_with fail;refine(HL.out _ al.out).mono ?_;rintro e3 w3⟨rfl,ac⟩;have l3:=ya l2 ac.size;have ae:Hid (Below w.heap.size w w3):=al.out.trans (ac.mono al.out.size);have p0:=zc ac q0 l2;have p1:=zc ac q1 l2;have p2:=zc ac q2 l2;have p3:=zc ac q3 l2;have p4:=zc ac q4 l2;have p5:=zc ac q5 l2;have p6:=zc ac q6 l2;have p7:=zc ac q7 l2;clear ac HL q0 q1 q2 q3 q4 q5 q6 q7;by_cases h1:r.load<wt
 ·have e1:decide (r.load<wt)=true:=by simpa using h1
  have HD:=hid (aj.out true ⟨λ_=>.inr (.inl h1),λ_=>rfl⟩);clear h1;go_wp2_with fail;go_ret;exact⟨zh HD.out,by first|exact ae.out|exact zC ae.out _⟩
 have e1:decide (r.load<wt)=false:=by simpa using h1
 by_cases h2:ln=-1
 ·have e2:(ln == -1)=true:=by simpa using h2
  have HD:=hid (aj.out true ⟨λ_=>.inr (.inr (.inl h2)),λ_=>rfl⟩);clear h1 h2;go_wp2_with fail;go_ret;exact⟨zh HD.out,by first|exact ae.out|exact zC ae.out _⟩
 have e2:(ln == -1)=false:=by simpa using h2
 have HD:=hid (aj.out bl ⟨λh=>.inr (.inr (.inr h)),λh=>by rcases h with h|h|h|h;exact absurd h aE.out;exact absurd h h1;exact absurd h h2;exact h⟩);clear h1 h2;go_wp2_with fail;refine(an.out _ (by first|exact ae.out|exact zC ae.out _)).mono ?_;rintro e4 w4⟨rfl,ar⟩;have aC:Hid (Below w.heap.size w w4):=by first|exact ae.out.trans (ar.mono ae.out.size)|exact(zC ae.out _).trans (ar.mono ae.out.size)
 clear ar;go_wp2_with fail;go_ret;exact⟨zh HD.out,aC.out⟩
end Go.Proofs.YtebinaopncclgabGreatDoor
