import Derived.Test.YtebinaopncclgabGreatDoorRefA
import Derived.Deep.RegionHeld3
set_option maxRecDepth 100000
set_option maxHeartbeats 8000000
namespace Go.Proofs.YtebinaopncclgabGreatDoor
open Go.RowKit Go.IntWalk
def zdq(f:List UInt8):Nat:=if f=[68] then 6 else if f=[83] then 6 else if f=[82] then 4 else 0
def zar(f:List UInt8)(fs:List (List UInt8))(first:Bool):Bool:=decide (fs.length+1=zdq f)&&(first==(f==[68]))&&fs.all zy
theorem zfO{zs:List (List UInt8)}{k:Nat}(aa:k<zs.length):(zs.take (k+1)).all zy=((zs.take k).all zy&&zy zs[k]):=by rw[yr aa,yX];simp
theorem zgJ{zs:List (List UInt8)}{k:Nat}(aa:k<zs.length)(h:zy zs[k]=false):zs.all zy=false:=by rw[yai];exact⟨zs[k],ym aa,by simp[h]⟩
theorem ziO(l:List UInt8):zy l=((z6 l&&decide (1<=l.length))&&decide (l.length<=5)):=by unfold zy;cases z6 l<;>simp
theorem letters(f:List UInt8):f=[68]\/f=[83]\/f=[82]\/(f≠[68]/\f≠[83]/\f≠[82]):=by
 by_cases h1:f=[68]
 ·exact .inl h1
 by_cases h2:f=[83]
 ·exact .inr (.inl h2)
 by_cases h3:f=[82]
 ·exact .inr (.inr (.inl h3))
 exact .inr (.inr (.inr ⟨h1,h2,h3⟩))
theorem zcQ(x:List UInt8)(b:Bool)(w:World)(hs:x.length<=100000)(h:(z6 x&&decide (1<=x.length))=b):Calls Tryz.prog 154 #[.string ⟨x.toArray⟩] w λe w'=>e=.returned (.bool b)/\w'=w:=by
 have hz:(⟨x.toArray⟩:ByteArray).size=x.length:=by simp[ByteArray.size]
 refine(zaO ⟨x.toArray⟩ w (by rw[hz];unfold maxLen;omega)).mono ?_;rintro e w'⟨rfl,rfl⟩;refine⟨zh ?_,rfl⟩;rw[hz,<-h]
theorem zns(g cap N:Nat)(f:List UInt8)(fs:List (List UInt8))(aa:Bool)(w:World)(hN:N=fs.length+1)(hs:fs.length<=100000)(aj:∀x∈fs,x.length<=100000)(h0:w.cell? ⟨g,0,none⟩=some (.string ⟨f.toArray⟩))(hc:∀i (hi:i<fs.length),w.cell? ⟨g,i+1,none⟩=some (.string ⟨(fs[i]).toArray⟩)):Calls Tryz.prog 96 #[.slice (some ⟨g,0,none⟩) N cap,.bool aa] w λe w'=>e=.returned (.bool (zar f fs aa))/\w'=w:=by
 have HN:=hid hN;have HC:=hid hc;have ak:=hid aj;have hN1:1<=N:=by omega
 have hNs:N<=100001:=by omega
 clear hc aj hN;go_in;rcases letters f with hf|hf|hf|⟨e1,e2,e3⟩
 ·subst hf;by_cases ai:N=6
  ·subst ai;have HL:Hid (fs.length=5):=by have:=HN.out;show _=_;omega
   have am:fs.length=5:=HL.out;cases aa
   ·go_wp2_with fail;go_ret;exact⟨zh (by unfold zar;simp),by trivial⟩
   go_wp2_with fail;go_loop[6] (λi=>∃k:Nat,i=.int .i64 ((k+1:Nat):Int)/\k<=5/\Hid ((fs.take k).all zy=true)) (λi=>6-(intOf i).toNat)
   ·exact⟨0,rfl,by omega,rfl⟩
   obtain⟨k,rfl,hk,HA⟩:=hrel;by_cases an:k<5
   ·have ad:k<fs.length:=by omega
    have ag:=HC.out k ad;have af:=ak.out _ (ym ad);have HT:Hid ((fs.take (k+1)).all zy=((fs.take k).all zy&&zy fs[k])):=zfO ad;have HF:Hid (zy fs[k]=false->fs.all zy=false):=λh=>zgJ ad h;generalize fs[k]=x at*;have HQ:Hid (zy x=((z6 x&&decide (1<=x.length))&&decide (x.length<=5))):=ziO x;cases hd:(z6 x&&decide (1<=x.length))
    ·have ae:fs.all zy=false:=HF.out (by rw[HQ.out,hd];rfl);go_wp2_with(go_at_call 154;refine(zcQ x false _ af hd).mono ?_;rintro e w'⟨rfl,rfl⟩);go_ret;exact⟨zh (by unfold zar;rw[ae,ybe]),by trivial⟩
    by_cases h5:x.length<=5
    ·go_wp2_with(go_at_call 154;refine(zcQ x true _ af hd).mono ?_;rintro e w'⟨rfl,rfl⟩);go_round
     ·exact⟨k+1,by go_num,by omega,by show _=true;rw[HT.out,HA.out,HQ.out,hd];simp[h5]⟩
     simp[intOf];omega
    have ae:fs.all zy=false:=HF.out (by rw[HQ.out,hd];simp[h5]);go_wp2_with(go_at_call 154;refine(zcQ x true _ af hd).mono ?_;rintro e w'⟨rfl,rfl⟩);go_ret;exact⟨zh (by unfold zar;rw[ae,ybe]),by trivial⟩
   have ac:fs.all zy=true:=by have:=HA.out;rw[yD (by omega)] at this;exact this
   have HY:=hid ac;clear ac;go_wp2;go_ret;exact⟨zh (by unfold zar zdq;rw[HY.out,HL.out];rfl),by trivial⟩
  have al:((N:Int) != 6)=true:=by simp;omega
  have ab:¬fs.length+1=6:=by have:=HN.out;omega
  have ah:=hid ab;clear ab;go_wp2;go_ret;exact⟨zh (by unfold zar zdq;simp;intro h;have:=ah.out;omega),by trivial⟩
 ·subst hf;by_cases ai:N=6
  ·subst ai;have HL:Hid (fs.length=5):=by have:=HN.out;show _=_;omega
   have am:fs.length=5:=HL.out;cases aa
   ·go_wp2_with fail;go_loop[6] (λi=>∃k:Nat,i=.int .i64 ((k+1:Nat):Int)/\k<=5/\Hid ((fs.take k).all zy=true)) (λi=>6-(intOf i).toNat)
    ·exact⟨0,rfl,by omega,rfl⟩
    obtain⟨k,rfl,hk,HA⟩:=hrel;by_cases an:k<5
    ·have ad:k<fs.length:=by omega
     have ag:=HC.out k ad;have af:=ak.out _ (ym ad);have HT:Hid ((fs.take (k+1)).all zy=((fs.take k).all zy&&zy fs[k])):=zfO ad;have HF:Hid (zy fs[k]=false->fs.all zy=false):=λh=>zgJ ad h;generalize fs[k]=x at*;have HQ:Hid (zy x=((z6 x&&decide (1<=x.length))&&decide (x.length<=5))):=ziO x;cases hd:(z6 x&&decide (1<=x.length))
     ·have ae:fs.all zy=false:=HF.out (by rw[HQ.out,hd];rfl);go_wp2_with(go_at_call 154;refine(zcQ x false _ af hd).mono ?_;rintro e w'⟨rfl,rfl⟩);go_ret;exact⟨zh (by unfold zar;rw[ae,ybe]),by trivial⟩
     by_cases h5:x.length<=5
     ·go_wp2_with(go_at_call 154;refine(zcQ x true _ af hd).mono ?_;rintro e w'⟨rfl,rfl⟩);go_round
      ·exact⟨k+1,by go_num,by omega,by show _=true;rw[HT.out,HA.out,HQ.out,hd];simp[h5]⟩
      simp[intOf];omega
     have ae:fs.all zy=false:=HF.out (by rw[HQ.out,hd];simp[h5]);go_wp2_with(go_at_call 154;refine(zcQ x true _ af hd).mono ?_;rintro e w'⟨rfl,rfl⟩);go_ret;exact⟨zh (by unfold zar;rw[ae,ybe]),by trivial⟩
    have ac:fs.all zy=true:=by have:=HA.out;rw[yD (by omega)] at this;exact this
    have HY:=hid ac;clear ac;go_wp2;go_ret;exact⟨zh (by unfold zar zdq;rw[HY.out,HL.out];rfl),by trivial⟩
   go_wp2_with fail;go_ret;exact⟨zh (by unfold zar;simp),by trivial⟩
  have al:((N:Int) != 6)=true:=by simp;omega
  have ab:¬fs.length+1=6:=by have:=HN.out;omega
  have ah:=hid ab;clear ab;go_wp2;go_ret;exact⟨zh (by unfold zar zdq;simp;intro h;have:=ah.out;omega),by trivial⟩
 ·subst hf;by_cases ai:N=4
  ·subst ai;have HL:Hid (fs.length=3):=by have:=HN.out;show _=_;omega
   have am:fs.length=3:=HL.out;cases aa
   ·go_wp2_with fail;go_loop[6] (λi=>∃k:Nat,i=.int .i64 ((k+1:Nat):Int)/\k<=3/\Hid ((fs.take k).all zy=true)) (λi=>4-(intOf i).toNat)
    ·exact⟨0,rfl,by omega,rfl⟩
    obtain⟨k,rfl,hk,HA⟩:=hrel;by_cases an:k<3
    ·have ad:k<fs.length:=by omega
     have ag:=HC.out k ad;have af:=ak.out _ (ym ad);have HT:Hid ((fs.take (k+1)).all zy=((fs.take k).all zy&&zy fs[k])):=zfO ad;have HF:Hid (zy fs[k]=false->fs.all zy=false):=λh=>zgJ ad h;generalize fs[k]=x at*;have HQ:Hid (zy x=((z6 x&&decide (1<=x.length))&&decide (x.length<=5))):=ziO x;cases hd:(z6 x&&decide (1<=x.length))
     ·have ae:fs.all zy=false:=HF.out (by rw[HQ.out,hd];rfl);go_wp2_with(go_at_call 154;refine(zcQ x false _ af hd).mono ?_;rintro e w'⟨rfl,rfl⟩);go_ret;exact⟨zh (by unfold zar;rw[ae,ybe]),by trivial⟩
     by_cases h5:x.length<=5
     ·go_wp2_with(go_at_call 154;refine(zcQ x true _ af hd).mono ?_;rintro e w'⟨rfl,rfl⟩);go_round
      ·exact⟨k+1,by go_num,by omega,by show _=true;rw[HT.out,HA.out,HQ.out,hd];simp[h5]⟩
      simp[intOf];omega
     have ae:fs.all zy=false:=HF.out (by rw[HQ.out,hd];simp[h5]);go_wp2_with(go_at_call 154;refine(zcQ x true _ af hd).mono ?_;rintro e w'⟨rfl,rfl⟩);go_ret;exact⟨zh (by unfold zar;rw[ae,ybe]),by trivial⟩
    have ac:fs.all zy=true:=by have:=HA.out;rw[yD (by omega)] at this;exact this
    have HY:=hid ac;clear ac;go_wp2;go_ret;exact⟨zh (by unfold zar zdq;rw[HY.out,HL.out];rfl),by trivial⟩
   go_wp2_with fail;go_ret;exact⟨zh (by unfold zar;simp),by trivial⟩
  have al:((N:Int) != 4)=true:=by simp;omega
  have ab:¬fs.length+1=4:=by have:=HN.out;omega
  have ah:=hid ab;clear ab;go_wp2;go_ret;exact⟨zh (by unfold zar zdq;simp;intro h;have:=ah.out;omega),by trivial⟩
 have g1:(f==[68])=false:=yO.2 e1;have g2:(f==[83])=false:=yO.2 e2;have g3:(f==[82])=false:=yO.2 e3;have al:((N:Int) != 0)=true:=by simp;omega
 go_wp2;go_ret;exact⟨zh (by unfold zar zdq;simp[e1,e2,e3]),by trivial⟩
theorem zsY(x:List UInt8)(w:World)(h:zy x=true):Calls Tryz.prog 202 #[.string ⟨x.toArray⟩] w λe w'=>e=.returned (.int .i64 (zai x))/\w'=w:=by
 have hz:(⟨x.toArray⟩:ByteArray).size=x.length:=by simp[ByteArray.size]
 have h':=h;unfold zy at h';simp only[yA,yq] at h';rw[zmw h];exact zop ⟨x.toArray⟩ w (by rw[hz];exact h'.1.2) (by simpa using h'.2)
theorem zfw{w wr w1:World}{B:Nat}{v v':Value}{ps:List Int}{x:Int}(hB:B<=wr.heap.size)(ad:wr.ownsRow B 3 1 v ps.length (zd ps))(ac:Below B w wr){o:Obj}(ab:w1.ownsRow B 3 1 v' (ps.length+1) (zd ps++[.int .i64 x]))(aa:(wr.alloc o).grownBy w1 v.ownBlock):w1.ownsRow B 3 1 v' (ps++[x]).length (zd (ps++[x]))/\Below B w w1:=by refine⟨by rw[yz,show zd (ps++[x])=zd ps++[.int .i64 x] from by simp[zd]];exact ab,?_⟩;exact(ac.alloc hB o).grown aa (by simp;omega) (λk hk=>(ad.lt k hk).1)
theorem zt4{fs:List (List UInt8)}{k:Nat}(h:k<fs.length):(fs.take (k+1)).map zai=(fs.take k).map zai++[zai fs[k]]:=by rw[yr h,yL];simp
theorem zjp(x:List UInt8):0<=zai x/\zai x<=99999:=by
 unfold zai;split
 ·rename_i h;unfold zy at h;simp only[yA,yq] at h;have:=zmz x h.2 h.1.2;omega
 omega
theorem zd1(g cap N:Nat)(fs:List (List UInt8))(w:World)(hN:N=fs.length+1)(hs:fs.length<=100000)(ag:fs.all zy=true)(hg:g<w.heap.size)(hc:∀i (hi:i<fs.length),w.cell? ⟨g,i+1,none⟩=some (.string ⟨(fs[i]).toArray⟩)):Calls Tryz.prog 155 #[.slice (some ⟨g,0,none⟩) N cap] w λe w'=>∃v,e=.returned v/\w'.ownsRow w.heap.size 3 1 v (fs.map zai).length (zd (fs.map zai))/\Below w.heap.size w w':=by
 obtain⟨i0,hi,aj,ak,al⟩:=info_parts Tryz.infoInt;have HC:=hid hc;have ai:=hid ag;subst hN;clear hc ag;go_in;go_wp2;go_loopw[3,4] (λv i wr=>∃k:Nat,i=.int .i64 ((k+1:Nat):Int)/\k<=fs.length/\wr.ownsRow w.heap.size 3 1 v ((fs.take k).map zai).length (zd ((fs.take k).map zai))/\Below w.heap.size w wr) (λ_ i _=>fs.length+1-(intOf i).toNat)
 ·exact⟨0,rfl,by omega,yC _ _ _ _,yk _ _⟩
 obtain⟨k,rfl,hk,ab,aa⟩:=hrel;have ae:=aa.size;by_cases af:k<fs.length
 ·have hcell:wr.cell? ⟨g,k+1,none⟩=some (.string ⟨(fs[k]).toArray⟩):=by rw[aa.cell (by exact hg)];exact HC.out k af
  have HX:Hid (zy fs[k]=true):=yF.1 ai.out _ (ym af);have HM:Hid ((fs.take (k+1)).map zai=(fs.take k).map zai++[zai fs[k]]):=zt4 af;have hln:((fs.take k).map zai).length<=100000:=by simp;omega
  generalize fs[k]=x at*;generalize (fs.take k).map zai=ps at*;obtain⟨hv0,hv1⟩:=zjp x;have HV:Hid (Calls Tryz.prog 202 #[.string ⟨x.toArray⟩] wr λe w'=>e=.returned (.int .i64 (zai x))/\w'=wr):=zsY x wr HX.out;generalize zai x=z at*;go_wp2_with(first
    | (go_at_call 202;refine HV.out.mono ?_;rintro e w'⟨rfl,ah⟩;rw[ah];clear ah w')
    | (at_builtin;refine yy _ rfl _ _ 40 rfl w.heap.size 3 i0 (.int .i64 0) 1 8 Tryz.underlying40 hi aj ak al rfl (by decide) _ _ _ rfl (ab.alloc _) ⟨wr.heap.size,0,none⟩ 1 1 [.int .i64 z] rfl rfl ?c1 ?c2 ?c3 ?c4 ?c5 ?_)
    | go_in)
  case c1=>exact cell_one_new _ _ _
  case c2=>intro u hu;simp at hu;subst hu;rfl
  case c3=>unfold maxLen;omega
  case c4=>omega
  case c5=>simp;omega
  intro v' w2 ad ac _;have R:=zfw ae ab aa ad ac;clear ad ac ab aa;go_wp2;go_roundw
  ·exact⟨k+1,by go_num,by omega,by rw[HM.out];exact R.1,R.2⟩
  simp[intOf];omega
 go_wp2;go_ret;refine⟨_,rfl,?_,aa⟩;rw[yD (by omega)] at ab;exact ab
theorem zm(x:Int)(h:-9223372036854775808<=x/\x<=9223372036854775807):IntKind.i64.wrap x=x:=by simp[IntKind.wrap,IntKind.bits,IntKind.signed];omega
def zcf(zs:List Int)(n:Nat):Bool:=(List.range n).all λi=>decide (zs.getD (2*i) 0<=zs.getD (2*i+1) 0)
theorem zoC(zs:List Int)(n:Nat):zcf zs (n+1)=(zcf zs n&&decide (zs.getD (2*n) 0<=zs.getD (2*n+1) 0)):=by unfold zcf;rw[yR,yX];simp
theorem zs3{zs:List Int}{k n:Nat}(h:k<n)(hk:¬zs.getD (2*k) 0<=zs.getD (2*k+1) 0):zcf zs n=false:=by unfold zcf;rw[yai];exact⟨k,yaT.2 h,by simpa using hk⟩
theorem zfG(b n N c:Nat)(zs:List Int)(w:World)(hN:N=2*n)(hn:n<=50)(hb:b<w.heap.size)(hc:∀i,i<N->w.cell? ⟨b,i,none⟩=some (.int .i64 (zs.getD i 0))):Calls Tryz.prog 203 #[.slice (some ⟨b,0,none⟩) N c] w λe w'=>e=.returned (.bool (zcf zs n))/\Below w.heap.size w w':=by
 have HC:=hid hc;have HN:=hid hN;have hN1:N<=100:=by omega
 clear hc hN;go_in;go_wp2;go_loopw[3] (λi wr=>∃k:Nat,i=.int .i64 ((2*k:Nat):Int)/\k<=n/\Hid (zcf zs k=true)/\Below w.heap.size w wr) (λi _=>2*n-(intOf i).toNat)
 ·exact⟨0,rfl,by omega,rfl,yk _ _⟩
 obtain⟨k,rfl,hk,HP,aa⟩:=hrel;have ae:=HN.out;have a1:k<n->2*k+1<N:=by omega
 have a2:¬k<n->¬(2*(k:Int)+1<(N:Int)):=by omega
 clear ae;by_cases ab:k<n
 ·have a1:=a1 ab;clear a2;have c0:wr.cell? ⟨b,2*k,none⟩=some (.int .i64 (zs.getD (2*k) 0)):=by rw[aa.cell (by exact hb)];exact HC.out (2*k) (by omega)
  have c1:wr.cell? ⟨b,2*k+1,none⟩=some (.int .i64 (zs.getD (2*k+1) 0)):=by rw[aa.cell (by exact hb)];exact HC.out (2*k+1) (by omega)
  have HS:Hid (zcf zs (k+1)=(zcf zs k&&decide (zs.getD (2*k) 0<=zs.getD (2*k+1) 0))):=zoC zs k;have HF:Hid (¬zs.getD (2*k) 0<=zs.getD (2*k+1) 0->zcf zs n=false):=λh=>zs3 ab h;generalize zs.getD (2*k) 0=x at*;generalize zs.getD (2*k+1) 0=y at*;obtain⟨m,hm⟩:∃m,m=2*k:=⟨_,rfl⟩
  have ac:((2*k:Nat):Int)=(m:Int):=by omega
  rw[ac];rw[<-hm] at c0 c1;have i1:(0:Int)<=(m:Int):=by omega
  have i2:(m:Int)<(N:Int):=by omega
  have i3:(m:Int)+1<(N:Int):=by omega
  have i5:(0:Int)<=(m:Int)+1:=by omega
  have i6:m+1<N:=by omega
  have i7:m<N:=by omega
  have HM:=hid hm;clear hm ac;have i4:IntKind.i64.wrap ((m:Int)+1)=(m:Int)+1:=zm _ (by omega);by_cases ad:x<=y
  ·go_wp2_with fail;go_region_held3 (λw'=>w'.cell? ⟨b,m,none⟩=some (.int .i64 x)/\w'.cell? ⟨b,m+1,none⟩=some (.int .i64 y)) (go_keep) (fail);go_wp2;go_roundw
   ·exact⟨k+1,by have:=HM.out;go_num,by omega,by show _=true;rw[HS.out,HP.out];simp[ad],aa.drew⟩
   have:=HM.out;simp[intOf];omega
  have af:=HF.out ad;go_wp2_with fail;go_region_held3 (λw'=>w'.cell? ⟨b,m,none⟩=some (.int .i64 x)/\w'.cell? ⟨b,m+1,none⟩=some (.int .i64 y)) (go_keep) (fail);go_wp2;go_ret;exact⟨zh (by first|rfl|exact af.symm),aa.drew⟩
 have a2:=a2 ab;clear a1;go_wp2;go_ret;have e:k=n:=by omega
 subst e;exact⟨zh (by rw[HP.out]),aa⟩
end Go.Proofs.YtebinaopncclgabGreatDoor
