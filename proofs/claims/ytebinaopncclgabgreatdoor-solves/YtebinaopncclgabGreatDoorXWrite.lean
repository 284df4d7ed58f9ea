import Derived.Test.YtebinaopncclgabGreatDoorGNodes
import Derived.Test.YtebinaopncclgabGreatDoorRUnder
import Derived.Lib.AppendStr
set_option maxRecDepth 100000
set_option maxHeartbeats 8000000
namespace Go.Proofs.YtebinaopncclgabGreatDoor
open Go.RowKit Go.IntWalk
theorem zlv(k:Int)(w:World)(h:1<=k/\k<=4):Calls Tryz.prog 150 #[.int .i64 k] w λe w'=>e=.returned (.string ⟨#[zgv k]⟩)/\w'=w:=by
 have:k=1\/k=2\/k=3\/k=4:=by omega
 rcases this with rfl|rfl|rfl|rfl
 all_goals
  go_in;go_wp2;go_ret;exact⟨rfl,rfl⟩
theorem zl0(k:Int)(n:Nat)(w:World)(hn:n<=4000000):Calls Tryz.prog 199 #[.int .i64 k,.int .i64 n] w λe w'=>e=.returned (.bool (zbs k n))/\w'=w:=by
 by_cases h1:k=1
 ·subst h1;go_in;go_wp2
  all_goals
   go_ret;refine⟨zcZ ?_,rfl⟩;rw[yW];simp[zbs];try omega
 have e1:(k==1)=false:=by simpa using h1
 by_cases h2:k=2
 ·subst h2;go_in;go_wp2
  all_goals
   go_ret;refine⟨zcZ ?_,rfl⟩;rw[yW];simp[zbs];try omega
 have e2:(k==2)=false:=by simpa using h2
 by_cases h3:k=3
 ·subst h3;go_in;go_wp2
  all_goals
   go_ret;refine⟨zcZ ?_,rfl⟩;rw[yW];simp[zbs];try omega
 have e3:(k==3)=false:=by simpa using h3
 by_cases h4:k=4
 ·subst h4;go_in;go_wp2
  all_goals
   go_ret;refine⟨zcZ ?_,rfl⟩;rw[yW];simp[zbs];try omega
 have e4:(k==4)=false:=by simpa using h4
 go_in;go_wp2;go_ret;exact⟨by simp[zbs,h1,h2,h3,h4],rfl⟩
def zh8(w:World)(v:Value)(zs:List Int):Prop:=zjY w v zs.length λj=>zs.getD j 0
def okZ(z:Int):Bool:=decide (-100000000<=z)&&decide (z<=100000000)
theorem zrg(k:Int)(zs:List Int):zac (k,zs)=(zbs k zs.length&&zs.all okZ):=rfl
theorem ztO{zs:List Int}{k:Nat}(h:k<zs.length):(zs.take (k+1)).all okZ=((zs.take k).all okZ&&okZ (zs.getD k 0)):=by rw[yr h,yX,zfx h];simp
theorem zpr(k:Int)(zs:List Int)(v:Value)(w:World)(hl:zs.length<=2000000)(hr:zh8 w v zs):Calls Tryz.prog 148 #[.agg #[.int .i64 k,v]] w λe w'=>e=.returned (.bool (zac (k,zs)))/\Below w.heap.size w w':=by
 obtain⟨ao,c,rfl,hr⟩:=hr;have HR:=hid hr;have ag:=hid (λW=>zl0 k zs.length W (by omega));have ab:=hid (zrg k zs);generalize zac (k,zs)=ans at*;generalize zbs k zs.length=b0 at*;clear hr;cases b0 with
 | false=>go_in;go_wp2_with fail;refine(ag.out _).mono ?_;rintro e1 w1⟨rfl,rfl⟩;go_wp2_with fail;go_ret;exact⟨zh ab.out.symm,zj w _⟩
 | true=>
  rw[yaY] at ab;obtain⟨W,hW⟩:∃W,W=w.alloc (.cells #[.int .i64 k,.slice ao zs.length c] 76):=⟨_,rfl⟩
  have aa:Hid (Below w.heap.size w W):=by show Below _ _ _;rw[hW];exact zj w _
  have ai:W.heap[w.heap.size]?=some (.cells #[.int .i64 k,.slice ao zs.length c] 76 (0,0)):=by rw[hW];exact yx w _
  have af:=hid ai;have al:=hid hW;clear hW ai;go_in;go_wp2_with fail;refine(ag.out _).mono ?_;rintro e1 w1⟨rfl,rfl⟩;rw[<-al.out];go_wp2_with fail;go_loopw[3] (λi wr=>∃m:Nat,i=.int .i64 m/\m<=zs.length/\Hid ((zs.take m).all okZ=true)/\Hid (Below W.heap.size W wr)) (λi _=>zs.length-(intOf i).toNat)
  ·exact⟨0,rfl,yu _,rfl,yk _ _⟩
  obtain⟨m,rfl,hm,HF,HB⟩:=hrel;have am:w.heap.size<W.heap.size:=(yc.1 af.out).1;have ac:=(HB.out.block _ am).trans af.out;have p1:wr.cell? ⟨w.heap.size,1,none⟩=some (.slice ao zs.length c):=yi wr _ 1 _ _ _ ac;have lw:w.heap.size<wr.heap.size:=(yc.1 ac).1;clear ac;by_cases ae:m<zs.length
  ·obtain⟨b,o,rfl,ad,hz⟩:=HR.out m ae;have x0:=zc HB.out (zc aa.out hz ad) (ya ad aa.out.size);have lb:b<wr.heap.size:=ya (ya ad aa.out.size) HB.out.size;have aj:=hid (ztO ae);have ah:Hid (zs.getD m 0∈zs):=zbW ae;generalize zs.getD m 0=z at*;have im:(0:Int)<=(m:Int):=by omega
   have jm:(m:Int)<(zs.length:Int):=by omega
   clear hz;by_cases h1:z < -100000000
   ·have e1:decide (z < -100000000)=true:=by simpa using h1
    have HD:Hid (ans=false):=by show _=_;rw[ab.out,yai];exact⟨z,ah.out,by unfold okZ;simp;omega⟩
    clear h1;go_wp2_with fail;go_ret;exact⟨zh HD.out.symm,aa.out.trans (HB.out.mono aa.out.size)⟩
   have e1:decide (z < -100000000)=false:=by simpa using h1
   by_cases h2:100000000<z
   ·have e2:decide (100000000<z)=true:=by simpa using h2
    have HD:Hid (ans=false):=by show _=_;rw[ab.out,yai];exact⟨z,ah.out,by unfold okZ;simp;omega⟩
    clear h1 h2;go_wp2_with fail;go_ret;exact⟨zh HD.out.symm,aa.out.trans (HB.out.mono aa.out.size)⟩
   have e2:decide (100000000<z)=false:=by simpa using h2
   have ak:Hid ((zs.take (m+1)).all okZ=true):=by show _=_;rw[aj.out,HF.out];unfold okZ;simp;omega
   clear h1 h2;go_wp2_with fail;exact⟨⟨m+1,by go_num,by omega,ak,HB⟩,by simp[intOf];omega⟩
  have HD:Hid (ans=true):=by show _=_;have:=HF.out;rw[yD (by omega)] at this;rw[ab.out,this]
  go_wp2_with fail;go_ret;exact⟨zh HD.out.symm,aa.out.trans (HB.out.mono aa.out.size)⟩
def zhV(w:World)(v:Value)(L:List zu):Prop:=∃ao c,v=.slice ao L.length c/\∀i (h:i<L.length),∃b o ai ci,ao=some ⟨b,o,none⟩/\b<w.heap.size/\w.cell? ⟨b,o+i*2,none⟩=some (.int .i64 L[i].1)/\w.cell? ⟨b,o+i*2+1,none⟩=some (.slice ai L[i].2.length ci)/\zh8 w (.slice ai L[i].2.length ci) L[i].2
theorem zhV.below{w w':World}{v:Value}{L:List zu}(h:zhV w v L)(hb:Below w.heap.size w w'):zhV w' v L:=by obtain⟨ao,c,h1,h2⟩:=h;refine⟨ao,c,h1,λi hi=>?_⟩;obtain⟨b,o,ai,ci,k1,k2,k3,k4,k5⟩:=h2 i hi;refine⟨b,o,ai,ci,k1,ya k2 hb.size,zc hb k3 k2,zc hb k4 k2,?_⟩;obtain⟨a,c,e1,e2⟩:=k5;refine⟨a,c,e1,λj hj=>?_⟩;obtain⟨b',o',m1,m2,m3⟩:=e2 j hj;exact⟨b',o',m1,ya m2 hb.size,zc hb m3 m2⟩
theorem zh8.below{w w':World}{v:Value}{zs:List Int}(h:zh8 w v zs)(hb:Below w.heap.size w w'):zh8 w' v zs:=by obtain⟨a,c,e1,e2⟩:=h;refine⟨a,c,e1,λj hj=>?_⟩;obtain⟨b',o',m1,m2,m3⟩:=e2 j hj;exact⟨b',o',m1,ya m2 hb.size,zc hb m3 m2⟩
theorem zsy{L:List zu}{k o:Nat}(h:k<L.length):zV o (L.drop k)=(o != 0&&zac L[k]&&zV (zbw o L[k].1) (L.drop (k+1))):=by rw[yac h];rfl
theorem zoo(L:List zu)(v:Value)(w:World)(hL:L.length<=100000000000)(hl:∀nd∈L,nd.2.length<=2000000)(hr:zhV w v L):Calls Tryz.prog 91 #[v] w λe w'=>e=.returned (.bool (zV 1 L))/\Below w.heap.size w w':=by
 have HR:=hid hr;have HL:=hid hl;obtain⟨ao,c,rfl,_⟩:=hr;clear hl;have aj:Hid (zV 1 L=zV 1 (L.drop 0)):=by show _=_;simp
 generalize zV 1 L=ans at*;go_in;go_wp2_with fail;go_loopw[3,4] (λlf i wr=>∃k o:Nat,i=.int .i64 k/\lf=.int .i64 o/\k<=L.length/\o<=k+1/\Hid (ans=zV o (L.drop k))/\Hid (Below w.heap.size w wr)) (λ_ i _=>L.length-(intOf i).toNat)
 ·exact⟨0,1,rfl,rfl,yu _,by omega,aj,yk _ _⟩
 obtain⟨k,o,rfl,rfl,hk,ho,HG,HB⟩:=hrel;by_cases ag:k<L.length
 ·obtain⟨ao',c',hv,hz⟩:=HR.out.below HB.out;cases hv;obtain⟨b,off,ai,ci,rfl,af,x0,x1,am⟩:=hz k ag;have aa:Hid (ans=(o != 0&&zac L[k]&&zV (zbw o L[k].1) (L.drop (k+1)))):=by show _=_;rw[HG.out,zsy ag]
  have an:=HL.out _ (ym ag);generalize L[k]=nd at*;obtain⟨kd,zs⟩:=nd;dsimp only at*;have ac:Hid (∀W,Below wr.heap.size wr W->Calls Tryz.prog 148 #[.agg #[.int .i64 kd,.slice ai zs.length ci]] W λe w'=>e=.returned (.bool (zac (kd,zs)))/\w'.cell? ⟨b,off+k*2,none⟩=some (.int .i64 kd)/\w'.cell? ⟨b,off+k*2+1,none⟩=some (.slice ai zs.length ci)/\Hid (Below wr.heap.size wr w')):=λW hW=>by refine(zpr kd zs _ W an (am.below hW)).mono ?_;rintro e w'⟨h1,h2⟩;have h3:Below wr.heap.size wr w':=hW.trans (h2.mono hW.size);exact⟨h1,zc h3 x0 af,zc h3 x1 af,h3⟩
  have ik:(0:Int)<=(k:Int):=by omega
  have jk:(k:Int)<(L.length:Int):=by omega
  generalize zac (kd,zs)=bn at*;clear hz HG;by_cases h0:o=0
  ·have HD:Hid (ans=false):=by show _=_;rw[aa.out,h0];rfl
   have e0:((o:Int)==0)=true:=by simpa using h0
   clear h0 aa;go_wp2_with fail;go_ret;exact⟨zh HD.out.symm,HB.out⟩
  have e0:((o:Int)==0)=false:=by simpa using h0
  have al:(o != 0)=true:=by simpa using h0
  rw[al,yaY] at aa;cases bn with
  | false=>
   have HD:Hid (ans=false):=by show _=_;rw[aa.out];rfl
   clear h0 aa;go_wp2_with fail;refine(ac.out _ (yk _ _)).mono ?_;rintro e1 w1⟨rfl,_,_,ab⟩;have ad:Hid (Below w.heap.size w w1):=HB.out.trans (ab.out.mono HB.out.size);clear ac ab;go_wp2_with fail;go_ret;exact⟨zh HD.out.symm,ad.out⟩
  | true=>
   rw[yaY] at aa;have ah:=hid (λW=>zm6 o kd W (by omega) (by omega));have ak:Hid (zbw o kd<=o+1):=by show _<=_;unfold zbw;split<;>omega
   clear h0;go_wp2_with fail;refine(ac.out _ (yk _ _)).mono ?_;rintro e1 w1⟨rfl,y0,y1,ab⟩;have ad:Hid (Below w.heap.size w w1):=HB.out.trans (ab.out.mono HB.out.size);have lb:=ya af ab.out.size;clear ac ab x0 x1;go_wp2_with fail;refine(ah.out _).mono ?_;rintro e2 w2⟨rfl,rfl⟩;clear ah;go_wp2_with fail;go_roundw
   ·exact⟨k+1,zbw o kd,by go_num,rfl,by omega,by have:=ak.out;omega,aa,ad⟩
   simp[intOf];omega
 obtain rfl:k=L.length:=by omega
 have HD:Hid (ans=(o==0)):=by show _=_;rw[HG.out,List.drop_length];rfl
 by_cases h0:o=0
 ·have e0:((o:Int)==0)=true:=by simpa using h0
  have ae:Hid (ans=true):=by show _=_;rw[HD.out,h0];rfl
  clear h0 HD;go_wp2_with fail;go_ret;exact⟨zh ae.out.symm,HB.out⟩
 have e0:((o:Int)==0)=false:=by simpa using h0
 have ae:Hid (ans=false):=by show _=_;rw[HD.out];simpa using h0
 clear h0 HD;go_wp2_with fail;go_ret;exact⟨zh ae.out.symm,HB.out⟩
def ze3(zs:List Int):List UInt8:=(zs.map λz=>32::zaM z).flatten
theorem zpV{zs:List Int}{m:Nat}(h:m<zs.length):ze3 (zs.take (m+1))=ze3 (zs.take m)++(32::zaM zs[m]):=by unfold ze3;rw[yr h,yL,yaP];simp only[yE,ybf,yM,ybE,yY]
theorem zsa(nd:zu):zf2 nd=zgv nd.1::ze3 nd.2:=rfl
open Go.RowKit Go.IntWalk Go.Lib
theorem Tryz.infoU8:(Tryz.prog.info? 5).map (λi=>(i.zero,i.size,i.bytes))=some (some (.int .u8 0),1,1):=by kernel_rfl
theorem zs8{w:World}{B:Nat}{v:Value}{t:List UInt8}(h:w.ownsRow B 5 1 v t.length (strCells ⟨t.toArray⟩)):(convert 144 9 v).run Tryz.prog w=.ok (.string ⟨t.toArray⟩) w:=by
 rcases h.2 with ⟨rfl,h0⟩|⟨g,cap,cur,rfl,hb,hg,_⟩
 ·have ht:t=[]:=yaK h0;subst ht;exact run_convert_bytes_nil w 144 5 Tryz.underlying144 Tryz.underlying5 0 0 9 Tryz.underlying9
 have hr:=run_convert_bytes_arg (P:=Tryz.prog) w 144 5 Tryz.underlying144 Tryz.underlying5 g 0 t.length cap (t.map λb=>(b.toNat:Int)) (by simp) (λi hi=>by
  rw[yat,h.cellAt i (by omega)];simp[strCells,List.getD_eq_getElem?_getD,hi]) 9 Tryz.underlying9;rw[hr];have e:strOfNums (t.map λb=>(b.toNat:Int))=⟨t.toArray⟩:=by
  apply ya3;apply Array.toList_inj.1;rw[strOfNums_data];simp[Function.comp_def]
 rw[e]
theorem ztv{zs:List Int}(h:∀z∈zs,-100000000<=z/\z<=100000000):(ze3 zs).length<=11*zs.length:=by
 induction zs with
 | nil=>simp[ze3]
 | cons z zs ih=>have h1:=zmx (h z (by simp)).1 (h z (by simp)).2;have h2:=ih (λy hy=>h y (by simp[hy]));unfold ze3 at h2⊢;simp only[yE,yM,yz,yJ];omega
theorem zi2{nd:zu}(h:zac nd=true):(zdu nd).length<=230:=by obtain⟨h1,h2⟩:=zcp h;have h3:=ztv h2;have h4:=zeo h1;unfold zdu;rw[zsa];simp only[yz,yJ,yay];omega
theorem zvb(a b:List UInt8):strCells ⟨(a++b).toArray⟩=strCells ⟨a.toArray⟩++strCells ⟨b.toArray⟩:=by simp[strCells]
theorem zsx{L:List zu}{k:Nat}(h:k<L.length):zaD (L.take (k+1))=zaD (L.take k)++zdu L[k]:=by unfold zaD;rw[yr h,yL,yaP];simp only[yE,ybf,yM,ybE,yY]
end Go.Proofs.YtebinaopncclgabGreatDoor
