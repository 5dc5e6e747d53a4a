/- Texts put together:SD,SE,SF,AO,AD,DV,SG,DP. -/
import Derived.Test.YtbapfpekklcicaaGreatDoorBtx30
set_option linter.unusedVariables false
set_option maxRecDepth 100000
set_option maxHeartbeats 16000000
namespace Go.Proofs.YtbapfpekklcicaaGreatDoor
open Go.RowKit Go.Shelf Tryz
namespace Bk
attribute [local go_sem] joY
theorem jeq{d:Func}{p u:Tmp}{e:TypeId}(h:d.results=#[.cell p e,.tmp u])(tmps:Array Value)(P:Program)(w:World):
  (results d tmps).run P w=((asAddr (tmps.getD p undef)).run P w).andThen fun a b=>((loadVar e a).run P b).andThen fun v c=>.ok (.tuple #[v,tmps.getD u undef]) c:=by
 simp only[results,h];simp[Sem.run_bind,Result.andThen]
theorem KP{c:Func}{p u:Tmp}(h:c.results=#[.cell p 28,.tmp u])(tmps:Array Value)(w:World)(b:Nat)(a:Array Value)(e:tmps.getD p undef=.pointer (some ⟨b,0,none⟩))
  (d:ja w b 28 a) (f:a.size=5):(results c tmps).run prog w=.ok (.tuple #[.agg a,tmps.getD u undef]) w:=by
 have L:=run_loadVar_row (P:=prog) w b 28 28 a (0,0) _ d underlying28 rfl (by rw[f];kernel_rfl);rw[jeq h,e];show((loadVar _ _).run _ _).andThen _=_
 rw[L];rfl
theorem jfE{W:World}{b:Nat}{T:TypeId}{a0 a1 a2 a3 a4:Value}(h:ja W b T #[a0,a1,a2,a3,a4])(a c d v3 v4:Value):
  ja (((((W.setCell ⟨b,0,none⟩ a).setCell ⟨b,1,none⟩ c).setCell ⟨b,2,none⟩ d).setCell ⟨b,3,none⟩ v3).setCell ⟨b,4,none⟩ v4) b T #[a,c,d,v3,v4]/\jH (· = b) W (((((W.setCell ⟨b,0,none⟩ a).setCell ⟨b,1,none⟩ c).setCell ⟨b,2,none⟩ d).setCell ⟨b,3,none⟩ v3).setCell ⟨b,4,none⟩ v4):=by
 have k:=((((h.set 0 a).set 1 c).set 2 d).set 3 v3).set 4 v4;refine⟨by simpa [List.setIfInBounds_toArray,List.set]using k,(((((jH.refl (· = b) W).cellS 0 a).cellS 1 c).cellS 2 d).cellS 3 v3).cellS 4 v4⟩
def Qt:Value:=Qi 0 [] (.slice none 0 0) (.slice none 0 0) []
def jmv(w w':World)(t:List UInt8)(e:Ending):Prop:=Below w.heap.size w w' /\
  ((∃a k u,jD (vo (t.drop (hl (Hd.genP t))))=.error (a,k)/\e=.returned (.tuple #[Qt,u])/\jB w.heap.size w' u a k) \/
   (∃its bds r u,jD (vo (t.drop (hl (Hd.genP t))))=.ok its/\jfx Dc (t.drop (hl (Hd.genP t)+(vo (t.drop (hl (Hd.genP t)))).length)) bds r/\jkn Dc r/\e=.returned (.tuple #[Qt,u])/\jB w.heap.size w' u bds.length 10) \/
   (∃base bds tail v,vp Dc t (Hd.genP t) base bds tail/\e=.returned (.tuple #[v,.nilIface])/\BookR w.heap.size w' v (Hd.genP t) base bds tail))
theorem jg2:(prog.info? 55).map (fun i=>(i.zero,i.size,i.bytes))=some (some (.slice none 0 0),1,24):=by kernel_rfl
theorem ja6:(prog.info? 3).map (fun i=>(i.zero,i.size,i.bytes))=some (some (.int .i64 0),1,8):=by kernel_rfl
def jjd(w:World)(b:Nat):Nat:=match w.cell? ⟨b,2,none⟩ with | some (.slice _ n _)=>n | _=>0
theorem jbb{D:List UInt8->Bool}{s r:List UInt8}{a:List (List UInt8)}(h:jfx D s a r):s.length=(a.flatMap Fr.fullR).length+r.length:=by rw[h.eq,joK]
theorem jhM:Qf []=none:=by
 cases h:Qf []with
 | none=>rfl
 | some b =>
 obtain⟨_,c,_,d⟩:=xH.1 h;cases b with
 | nil=>exact absurd c (by decide)
 | cons a r =>
 have:=congrArg List.length d;unfold jo zm jhE jq at this;simp at this
theorem jhv{lo:Nat}{W:World}{q k:Nat}(a:lo<=q)(h:ja W q 90 #[.int .i64 (k:Int),.iface 54 (.int .i64 10)]):jB lo W (.iface 87 (.pointer (some ⟨q,0,none⟩))) k 10 :=
 ⟨q,a,rfl,by rw[zf 10 (by decide)];exact h⟩
theorem jdZ{w a:World}(b:Below w.heap.size w a)(c:ja a w.heap.size 28 #[.int .i64 0,.string ⟨#[]⟩,.slice none 0 0,.slice none 0 0,.string ⟨#[]⟩])(k:Nat):
  Below w.heap.size w ((((((a.alloc (.cells #[.int .i64 (k:Int),.iface 54 (.int .i64 10)] 90)).setCell ⟨w.heap.size,0,none⟩ (.int .i64 0)).setCell ⟨w.heap.size,1,none⟩ (.string ⟨#[]⟩)).setCell ⟨w.heap.size,2,none⟩ (.slice none 0 0)).setCell ⟨w.heap.size,3,none⟩ (.slice none 0 0)).setCell ⟨w.heap.size,4,none⟩ (.string ⟨#[]⟩)).drew /\
  ja ((((((a.alloc (.cells #[.int .i64 (k:Int),.iface 54 (.int .i64 10)] 90)).setCell ⟨w.heap.size,0,none⟩ (.int .i64 0)).setCell ⟨w.heap.size,1,none⟩ (.string ⟨#[]⟩)).setCell ⟨w.heap.size,2,none⟩ (.slice none 0 0)).setCell ⟨w.heap.size,3,none⟩ (.slice none 0 0)).setCell ⟨w.heap.size,4,none⟩ (.string ⟨#[]⟩)).drew w.heap.size 28 #[.int .i64 0,.string ⟨#[]⟩,.slice none 0 0,.slice none 0 0,.string ⟨#[]⟩] /\
  jB w.heap.size ((((((a.alloc (.cells #[.int .i64 (k:Int),.iface 54 (.int .i64 10)] 90)).setCell ⟨w.heap.size,0,none⟩ (.int .i64 0)).setCell ⟨w.heap.size,1,none⟩ (.string ⟨#[]⟩)).setCell ⟨w.heap.size,2,none⟩ (.slice none 0 0)).setCell ⟨w.heap.size,3,none⟩ (.slice none 0 0)).setCell ⟨w.heap.size,4,none⟩ (.string ⟨#[]⟩)).drew (.iface 87 (.pointer (some ⟨a.heap.size,0,none⟩))) k 10:=by
 have h:=ja.new a 90 #[.int .i64 (k:Int),.iface 54 (.int .i64 10)];have f:Below w.heap.size w (a.alloc (.cells #[.int .i64 (k:Int),.iface 54 (.int .i64 10)] 90)):=b.alloc b.size _
 obtain⟨g,d⟩:=jfE (c.alloc (.cells #[.int .i64 (k:Int),.iface 54 (.int .i64 10)] 90)) (.int .i64 0) (.string ⟨#[]⟩) (.slice none 0 0) (.slice none 0 0) (.string ⟨#[]⟩);have i:=c.lt
 exact⟨(f.trans (d.to_below f.size (fun r j e=>by omega))).drew,g.drew,jhv b.size ((h.only d (fun e=>by omega)).drew)⟩
theorem jdY{w a:World}(b:Below w.heap.size w a)(f:ja a w.heap.size 28 #[.int .i64 0,.string ⟨#[]⟩,.slice none 0 0,.slice none 0 0,.string ⟨#[]⟩])(k:Nat):
  Below w.heap.size w ((((((a.setCell ⟨w.heap.size,0,none⟩ (.int .i64 0)).setCell ⟨w.heap.size,1,none⟩ (.string ⟨#[]⟩)).setCell ⟨w.heap.size,2,none⟩ (.slice none 0 0)).setCell ⟨w.heap.size,3,none⟩ (.slice none 0 0)).setCell ⟨w.heap.size,4,none⟩ (.string ⟨#[]⟩)).alloc (.cells #[.int .i64 (k:Int),.iface 54 (.int .i64 10)] 90)).drew /\
  ja ((((((a.setCell ⟨w.heap.size,0,none⟩ (.int .i64 0)).setCell ⟨w.heap.size,1,none⟩ (.string ⟨#[]⟩)).setCell ⟨w.heap.size,2,none⟩ (.slice none 0 0)).setCell ⟨w.heap.size,3,none⟩ (.slice none 0 0)).setCell ⟨w.heap.size,4,none⟩ (.string ⟨#[]⟩)).alloc (.cells #[.int .i64 (k:Int),.iface 54 (.int .i64 10)] 90)).drew w.heap.size 28 #[.int .i64 0,.string ⟨#[]⟩,.slice none 0 0,.slice none 0 0,.string ⟨#[]⟩] /\
  jB w.heap.size ((((((a.setCell ⟨w.heap.size,0,none⟩ (.int .i64 0)).setCell ⟨w.heap.size,1,none⟩ (.string ⟨#[]⟩)).setCell ⟨w.heap.size,2,none⟩ (.slice none 0 0)).setCell ⟨w.heap.size,3,none⟩ (.slice none 0 0)).setCell ⟨w.heap.size,4,none⟩ (.string ⟨#[]⟩)).alloc (.cells #[.int .i64 (k:Int),.iface 54 (.int .i64 10)] 90)).drew (.iface 87 (.pointer (some ⟨a.heap.size,0,none⟩))) k 10:=by
 obtain⟨g,h⟩:=jfE f (.int .i64 0) (.string ⟨#[]⟩) (.slice none 0 0) (.slice none 0 0) (.string ⟨#[]⟩);have d:=b.trans (h.to_below b.size (fun r j e=>by omega))
 have i:(((((a.setCell ⟨w.heap.size,0,none⟩ (.int .i64 0)).setCell ⟨w.heap.size,1,none⟩ (.string ⟨#[]⟩)).setCell ⟨w.heap.size,2,none⟩ (.slice none 0 0)).setCell ⟨w.heap.size,3,none⟩ (.slice none 0 0)).setCell ⟨w.heap.size,4,none⟩ (.string ⟨#[]⟩)).heap.size=a.heap.size:=by simp[World.setCell]
 have c:=ja.new (((((a.setCell ⟨w.heap.size,0,none⟩ (.int .i64 0)).setCell ⟨w.heap.size,1,none⟩ (.string ⟨#[]⟩)).setCell ⟨w.heap.size,2,none⟩ (.slice none 0 0)).setCell ⟨w.heap.size,3,none⟩ (.slice none 0 0)).setCell ⟨w.heap.size,4,none⟩ (.string ⟨#[]⟩)) 90 #[.int .i64 (k:Int),.iface 54 (.int .i64 10)];rw[i]at c;exact⟨(d.alloc d.size _).drew,(g.alloc _).drew,jhv b.size c.drew⟩
theorem VX(t:List UInt8)(ht:t.length<=100000)(cQ:(vo (t.drop (hl (Hd.genP t)))).length<=60000)(w:World)(hT:WY w):
  Calls prog 26 #[.string (B t)] w fun e w'=>jmv w w' t e:=by
 obtain⟨i1,hi,cU,cV,cS⟩:=info_parts ja6;obtain⟨i2,cR,cH,cI,cJ⟩:=info_parts jg2;have cT:(B t).size=t.length:=jg t
 have ai:=Hd.genP_is t;have hn:=Hd.gen_lt ai
 have dv:=jjp ai;generalize p:Hd.genP t=n at *
 obtain⟨w0,aj⟩:∃z,w.alloc (.cells #[.int .i64 0,.string ⟨#[]⟩,.slice none 0 0,.slice none 0 0,.string ⟨#[]⟩] 28)=z:=⟨_,rfl⟩
 have aT:Below w.heap.size w w0:=by rw[<- aj];exact(joL _ w).alloc (joJ _) _
 have hz:w0.heap.size=w.heap.size+1:=by rw[<- aj];simp
 have C0:ja w0 w.heap.size 28 #[.int .i64 0,.string ⟨#[]⟩,.slice none 0 0,.slice none 0 0,.string ⟨#[]⟩]:=by rw[<- aj];exact ja.new _ _ _
 have TB:Hid (∀W,Below w.heap.size w W->WY W):=fun W hW=>hT.below hW (joJ _);have aR:=Hd.take_any t ht w0 (TB.out w0 aT).tab
 rw[p]at aR;have TK:=joI aR
 have aZ:=joI aT;have bj:=joI C0
 have cl:=joI aj;have q1:¬(120000:Int)<((B t).size:Int):=by omega
 have bP:(t.drop (hl n)).length<=100000:=by rw[joX];omega
 have HZ:=joI hz;clear hT aR aT C0 aj hz;go_enter func26,ntmps26;go_wp2_with fail;rw[cl.out];refine TK.out.mono ?_;rintro e w1 ⟨rfl,b1⟩;have be:=joI (aZ.out.trans (b1.mono aZ.out.size))
 have dx:=b1.size;have bm:=joI (jb bj.out b1 bj.out.lt)
 have BS:=joI (jkd (t.drop (hl n)) bP w1);have cj:=joI (XV (t.drop (hl n)))
 have dm:=joI (jcK (t.drop (hl n)));have cO:(vo (t.drop (hl n))).length<=(t.drop (hl n)).length:=by have:=congrArg List.length cj.out;rw[joK]at this;omega
 clear TK b1;rw[jg5];generalize g:vo (t.drop (hl n))=d at *
 go_wp2_with fail;refine BS.out.mono ?_;rintro e y ⟨rfl,b2⟩;have bg:=joI (be.out.trans (b2.mono be.out.size))
 have dy:=b2.size;obtain⟨J,aF⟩:∃z,y.alloc (.cells #[.int .i64 (n:Int),.string (B d),.slice none 0 0,.slice none 0 0,.string ⟨#[]⟩] 28)=z:=⟨_,rfl⟩
 have aB:Below y.heap.size y J:=by rw[<- aF];exact(joL _ _).alloc (joJ _) _
 have C3:ja J y.heap.size 28 #[.int .i64 (n:Int),.string (B d),.slice none 0 0,.slice none 0 0,.string ⟨#[]⟩]:=by rw[<- aF];exact ja.new _ _ _
 have ax:=joI (jb bm.out (b2.trans (aB.mono b2.size)) bm.out.lt);have aw:=joI (bg.out.trans (aB.mono bg.out.size))
 have PA:=joI (Xa (B d) (by rw[jg];exact cQ) J);rw[jj]at PA;have bo:=joI C3
 have cm:=joI aF;have dA:=aB.size
 have dl:=C3.lt;have dk:w.heap.size+1<=y.heap.size:=by have:=HZ.out;omega
 clear BS b2 aB C3 aF;go_wp2_with fail;rw[cm.out];refine PA.out.mono ?_;rintro e w4 Q;cases hp:jD d with
 | error an =>
  obtain⟨a,k⟩:=an;unfold Qq at Q;rw[hp]at Q;obtain⟨b4,u,rfl,hf⟩:=Q;have bi:=joI (aw.out.trans (b4.mono aw.out.size))
  have s:=joI (jb ax.out b4 ax.out.lt);obtain⟨aH,I⟩:=jfE s.out (.int .i64 0) (.string ⟨#[]⟩) (.slice none 0 0) (.slice none 0 0) (.string ⟨#[]⟩);have HF:Hid (jB w.heap.size (((((w4.setCell ⟨w.heap.size,0,none⟩ (.int .i64 0)).setCell ⟨w.heap.size,1,none⟩ (.string ⟨#[]⟩)).setCell ⟨w.heap.size,2,none⟩ (.slice none 0 0)).setCell ⟨w.heap.size,3,none⟩ (.slice none 0 0)).setCell ⟨w.heap.size,4,none⟩ (.string ⟨#[]⟩)) u a k):=by obtain⟨q,h0,h1,h2⟩:=hf;exact⟨q,by omega,h1,h2.only I (fun e=>by omega)⟩
  have c8:=joI (bi.out.trans (I.to_below bi.out.size (fun r hr e=>by omega)));have bz:=joI aH
  obtain⟨q,_,rfl,_⟩:=hf;have c0:=s.out.cell 0
  have c1:=s.out.cell 1;have c2:=s.out.cell 2
  have c3:=s.out.cell 3;have c4:=s.out.cell 4
  have f0:=s.out.frozen 0;have f1:=s.out.frozen 1
  have f2:=s.out.frozen 2;have f3:=s.out.frozen 3
  have f4:=s.out.frozen 4;simp only[joQ,joP,joO]at c0 c1 c2 c3 c4;have HP:=joI hp
  clear b4 aH I PA hp;go_wp2_with fail;refine bodyPost_ret (KP rfl _ _ w.heap.size _ rfl bz.out rfl) rfl ?_;exact⟨c8.out,.inl ⟨a,k,_,by rw[p,g];exact HP.out,rfl,HF.out⟩⟩
 | ok ak =>
 unfold Qq at Q;rw[hp]at Q;obtain⟨b4,u,rfl,_⟩:=Q;have cN:=aw.out.trans (b4.mono aw.out.size)
 have cL:=jb ax.out b4 ax.out.lt;have cM:=jb bo.out b4 bo.out.lt
 have HP:=joI hp;have bu:=joI ai
 clear PA b4 hp;go_wp2_with fail;go_loopw [9] (fun _ wr=>∃(c:List (List UInt8)) (r:List UInt8) (bv ev:Value) (us:List Value),jfx Dc (t.drop (hl n+d.length)) c r/\ja wr y.heap.size 28 #[.int .i64 (n:Int),.string (B d),bv,ev,.string ⟨#[]⟩]/\Kg w.heap.size wr bv c us/\wr.ownsRow w.heap.size 3 1 ev c.length ((ql (hl n+d.length) c).map jjR)/\ja wr w.heap.size 28 #[.int .i64 0,.string ⟨#[]⟩,.slice none 0 0,.slice none 0 0,.string ⟨#[]⟩]/\Below w.heap.size w wr) (fun _ wr=>t.length+1-jjd wr y.heap.size)
 case atStart=>exact⟨[],_,_,_,[],⟨rfl,fun b h=>by cases h⟩,cM,Kg.nil _ _,⟨rfl,.inl ⟨rfl,rfl⟩⟩,cL,cN⟩
 case round =>
 obtain⟨c,r,bv,ev,us,hR,hK,aD,aE,hC,hb⟩:=hrel;obtain⟨ba,bc,rfl,_⟩:=je aD.row;obtain⟨X,ec,rfl,_⟩:=je aE;have aV:=jbb hR
 rw[joX]at aV;have dj:=XT c
 have cP:d.length+hl n<=t.length:=by rw[joX]at cO;omega
 have aS:zg n d c=hl n+d.length+(c.flatMap Fr.fullR).length:=rfl;have dh:zg n d c<=t.length:=by omega
 have ah:t.drop (zg n d c)=r:=by rw[aS,Qe,hR.eq,jp8]
 have EX:Hid ((B t).extract (zg n d c) t.length=B r):=by show _=_;rw[<- cT,Fr.ext_drop,ah]
 have aW:r.length<=700000:=by omega
 have aX:BookR w.heap.size wr (Qi n d (.slice ba c.length bc) (.slice X c.length ec) []) n d c []:=⟨_,_,us,rfl,aD,aE⟩
 have WH:=joI (jai aX (by omega) (TB.out wr hb));have k0:=hK.cell 0
 have k1:=hK.cell 1;have k2:=hK.cell 2
 have k3:=hK.cell 3;have k4:=hK.cell 4
 simp only[joQ,joP,joO]at k0 k1 k2 k3 k4;have HR:=joI hR
 have HK:=joI hK;have cd:=joI aD
 have ce:=joI aE;have HC:=joI hC
 have HB:=joI hb;have bC:=joI aS
 have bA:=joI aV;unfold Qi at WH;clear hR aD aE hC hb aV ah aS aX;generalize dr:zg n d c=W at *
 go_wp2_with fail;refine WH.out.mono ?_;rintro e w5 ⟨rfl,b5⟩;have aM:=joI (HB.out.trans (b5.mono HB.out.size))
 have FR:=joI (Fr.read_any r aW w5 (TB.out w5 aM.out).nums);have aJ:=joI b5
 clear WH b5 k0 k1 k2 k3 k4 hK;go_wp2_with fail;rw[EX.out];refine FR.out.mono ?_;rintro e w6 ⟨kk,Z,mm,aU,rfl,b6⟩;have v:=joI (aM.out.trans (b6.mono aM.out.size))
 have av:=joI (aJ.out.trans (b6.mono aJ.out.size));have U:=jb HK.out av.out HK.out.lt
 have C6:=jb HC.out av.out HC.out.lt;have T6:=cd.out.below av.out
 have E6:=jN ce.out av.out (joJ _);clear FR b6 aJ;unfold Fr.readV;rcases aU with ⟨R,rfl,rfl⟩|⟨bU,rfl,rfl,rfl⟩|⟨bR,bT,rfl,rfl,rfl⟩
 ·
  have du:=Fr.good_iff.1 R.1;have DE:=joI (WK Z (by unfold maxLen;omega) w6 (TB.out w6 v.out).tabs)
  have dt:(Fr.fullR Z).length<=r.length:=by obtain⟨_,m,e⟩:=R;rw[e,joK];omega
  go_wp2_with fail;refine DE.out.mono ?_;rintro e l ⟨V,h7⟩;have G:=joI (v.out.trans (V.mono v.out.size))
  have C:=jb U V U.lt;have f:=jb C6 V C6.lt
  have T7:=T6.below V;have E7:=jN E6 V (joJ _)
  clear DE U C6 T6 E6;rcases h7 with ⟨hd,rfl⟩|⟨aC,u7,bG,hd,rfl,hO⟩
  ·have FB:Hid (jkn Dc r):=.inr ⟨Z,R,by unfold Dc;rw[hd];rfl⟩;clear R hd T7 E7 V;have a7:=f.cell 0
   have a8:=f.cell 1;have aa:=f.cell 2
   have ae:=f.cell 3;have af:=f.cell 4
   have bH:=f.frozen 0;have bI:=f.frozen 1
   have bJ:=f.frozen 2;have bK:=f.frozen 3
   have bL:=f.frozen 4;have am:=C.cell 2
   simp only[joQ,joP,joO]at a7 a8 aa ae af am;have cu:∀o,(l.alloc o).cell? ⟨w.heap.size,0,none⟩=_:=fun o=>((f.alloc o).cell 0).trans rfl
   have cw:∀o,(l.alloc o).cell? ⟨w.heap.size,1,none⟩=_:=fun o=>((f.alloc o).cell 1).trans rfl;have cy:∀o,(l.alloc o).cell? ⟨w.heap.size,2,none⟩=_:=fun o=>((f.alloc o).cell 2).trans rfl
   have cz:∀o,(l.alloc o).cell? ⟨w.heap.size,3,none⟩=_:=fun o=>((f.alloc o).cell 3).trans rfl;have cA:∀o,(l.alloc o).cell? ⟨w.heap.size,4,none⟩=_:=fun o=>((f.alloc o).cell 4).trans rfl
   have cC:∀o,(l.alloc o).frozen? ⟨w.heap.size,0,none⟩=false:=fun o=>(f.alloc o).frozen 0;have cD:∀o,(l.alloc o).frozen? ⟨w.heap.size,1,none⟩=false:=fun o=>(f.alloc o).frozen 1
   have cE:∀o,(l.alloc o).frozen? ⟨w.heap.size,2,none⟩=false:=fun o=>(f.alloc o).frozen 2;have cF:∀o,(l.alloc o).frozen? ⟨w.heap.size,3,none⟩=false:=fun o=>(f.alloc o).frozen 3
   have cG:∀o,(l.alloc o).frozen? ⟨w.heap.size,4,none⟩=false:=fun o=>(f.alloc o).frozen 4;have CA:=joI (jdZ G.out f c.length)
   have CB:=joI (jdY G.out f c.length);clear C f;go_wp2_with fail;go_region
   all_goals go_wp2_with fail
   ·refine bodyPost_ret (KP rfl _ _ w.heap.size _ rfl CA.out.2.1 rfl) rfl ?_;exact⟨CA.out.1,.inr (.inl ⟨ak,c,r,_,by rw[p,g];exact HP.out,by rw[p,g];exact HR.out,FB.out,rfl,CA.out.2.2⟩)⟩
   refine bodyPost_ret (KP rfl _ _ w.heap.size _ rfl CB.out.2.1 rfl) rfl ?_;exact⟨CB.out.1,.inr (.inl ⟨ak,c,r,_,by rw[p,g];exact HP.out,by rw[p,g];exact HR.out,FB.out,rfl,CB.out.2.2⟩)⟩
  have bN:yr w.heap.size l u7 (yZ Z) bG:=by
   have:yZ Z=aC:=by unfold yZ;rw[hd];rfl
   rw[this];exact⟨jA hO.row v.out.size,hO.len,fun i ed fv h1 h2=>jA (hO.each i ed fv h1 h2) v.out.size⟩
  have bM:Dc Z=true:=by unfold Dc;rw[hd];rfl
  obtain⟨ua,uc,rfl,_⟩:=je hO.row;have RS:=joI (HR.out.snoc R bM)
  have ES:Hid ((ql (hl n+d.length) (c++[Z])).map jjR=(ql (hl n+d.length) c).map jjR++[Value.int .i64 ((W:Int)+((Fr.fullR Z).length:Int))]):=by show _=_;rw[vZ,jpt,<- bC.out];simp[jjR]
  have HO:=joI bN;have H:=joI T7
  have aL:=joI E7;have aQ:=joI C
  have aK:=joI f;have N1:∀(J:World) (T:TypeId) (x:Value),Hid (∀(j:Nat) (u:Value),[x][j]?=some u->(J.alloc (.cells #[x] T)).cell? ((⟨J.heap.size,0,none⟩:Addr).add j)=some u):=fun J T x j u h=>by
   have X:(⟨J.heap.size,0,none⟩:Addr).add j=⟨J.heap.size,j,none⟩:=by unfold Addr.add;split<;>simp_all
   rw[X,(ja.new J T #[x]).cell j];simpa using h
  have co:∀(J:World) (b:Nat) (T:TypeId) (x:Value),J.heap.size=b->Hid (∀(j:Nat) (u:Value),[x][j]?=some u->(J.alloc (.cells #[x] T)).cell? ((⟨b,0,none⟩:Addr).add j)=some u):=fun J b T x hb j u h=>by rw[<- hb];exact(N1 J T x).out j u h
  have k2:=C.cell 2;have f2:=C.frozen 2
  simp only[joQ,joP,joO]at k2;have bQ:w.heap.size<=l.heap.size:=G.out.size
  have dw:y.heap.size<l.heap.size:=C.lt;have di:c.length+(Fr.fullR Z).length<=t.length:=by have:=bA.out;omega
  clear R hd hO bN bM T7 E7 C f V;generalize hm:(Fr.fullR Z).length=m at *
  have dE:IntKind.i64.wrap ((W:Int)+(m:Int))=(W:Int)+(m:Int):=jph _ (by have:=bA.out;have:=bC.out;omega);go_wp2_with (at_builtin;refine jz rfl _ _ 22 rfl w.heap.size 55 i2 _ 1 24 underlying22 cR cH cI cJ rfl (by decide) _ _ _ rfl (H.out.row.alloc _) _ 1 1 [.slice ua aC.length uc] rfl rfl (N1 _ _ _).out (by intro u hu;simp at hu;subst hu;rfl) (by unfold maxLen;omega) (by omega) (by simp only[joZ];omega) ?_);intro dp W8 au ag ct;have bO:Below l.heap.size l (l.alloc (.cells #[.slice ua aC.length uc] 55)):=(joL _ _).alloc (joJ _) _
  have Y:jH (fun r=>(Value.slice ba c.length bc).ownBlock=some r) l W8:=(jH.of_below (S:=fun r=>(Value.slice ba c.length bc).ownBlock=some r) bO (joJ _)).grown ag (fun r e=>.inl e);have T8:=H.out.snoc HO.out au Y
  have E8:=jG aL.out Y (fun b e q=>jZ H.out.row aL.out (by decide) b q e);have K8:=aQ.out.only Y (fun e=>jh H.out.row aQ.out (by decide) e)
  have C8:=aK.out.only Y (fun e=>jh H.out.row aK.out (by decide) e);have B8:=G.out.trans (Y.to_below bQ (fun r hr e=>by have:=(H.out.row.lt r e).1;omega))
  have dB:=Y.size;obtain⟨D,E,rfl,_⟩:=je au;have K9:=K8.set 2 (.slice D (c.length+1) E)
  rw[show(#[Value.int .i64 (n:Int),.string (B d),.slice ba c.length bc,.slice X c.length ec,.string ⟨#[]⟩]:Array Value).setIfInBounds 2 (.slice D (c.length+1) E)=#[.int .i64 (n:Int),.string (B d),.slice D (c.length+1) E,.slice X c.length ec,.string ⟨#[]⟩] from rfl]at K9;have o9:jH (· = y.heap.size) W8 (W8.setCell ⟨y.heap.size,2,none⟩ (.slice D (c.length+1) E)):=(jH.refl (· = y.heap.size) W8).cellS 2 _
  have T9:=T8.box K8 (by decide) (by decide) (by decide) o9;have E9:=jG E8 o9 (fun b e q=>jh E8 K8 (by decide) (by rw[e,q]))
  have C9:=C8.only o9 (fun e=>by omega);have B9:=B8.trans (o9.to_below B8.size (fun r hr e=>by omega))
  have bX:=K8.cell 2;have cX:=K8.frozen 2
  have bW:=K9.cell 3;have cB:=K9.frozen 3
  simp only[joQ,joP,joO]at bX bW;have bB:=joI T9
  have O:=joI E9;have aP:=joI K9
  have aO:=joI C9;have aN:=joI B9
  have dC:=o9.size;have ck:Hid ((W8.setCell ⟨y.heap.size,2,none⟩ (.slice D (c.length+1) E)).heap.size=W8.heap.size):=by show _=_;simp[World.setCell]
  clear au ag ct bO Y T8 E8 K8 C8 B8 K9 o9 T9 E9 C9 B9 H aL aQ aK HO k2 f2;go_wp2_with (at_builtin;refine jz rfl _ _ 23 rfl w.heap.size 3 i1 _ 1 8 underlying23 hi cU cV cS rfl (by decide) _ _ _ rfl (O.out.alloc _) _ 1 1 [.int .i64 ((W:Int)+(m:Int))] rfl rfl (by first | exact(co _ _ _ _ ck.out).out | exact(N1 _ _ _).out) (by intro u hu;simp at hu;subst hu;rfl) (by unfold maxLen;omega) (by omega) (by simp only[joZ];omega) ?_);intro df aA A N bF;generalize dD:W8.setCell ⟨y.heap.size,2,none⟩ (.slice D (c.length+1) E)=W9 at *
  have aG:Below W9.heap.size W9 (W9.alloc (.cells #[.int .i64 ((W:Int)+(m:Int))] 3)):=(joL _ _).alloc (joJ _) _;have aq:jH (fun r=>(Value.slice X c.length ec).ownBlock=some r) W9 aA:=(jH.of_below (S:=fun r=>(Value.slice X c.length ec).ownBlock=some r) aG (joJ _)).grown N (fun r e=>.inl e)
  have bE:=bB.out.beside O.out (by decide) (by decide) (by decide) aq;have P:=aP.out.only aq (fun e=>jh O.out aP.out (by decide) e)
  have aY:=aO.out.only aq (fun e=>jh O.out aO.out (by decide) e);have aI:=aN.out.trans (aq.to_below aN.out.size (fun r hr e=>by have:=(O.out.lt r e).1;omega))
  obtain⟨K,L,rfl,_⟩:=je A;have ay:=P.set 3 (.slice K (c.length+1) L)
  rw[show(#[Value.int .i64 (n:Int),.string (B d),.slice D (c.length+1) E,.slice X c.length ec,.string ⟨#[]⟩]:Array Value).setIfInBounds 3 (.slice K (c.length+1) L)=#[.int .i64 (n:Int),.string (B d),.slice D (c.length+1) E,.slice K (c.length+1) L,.string ⟨#[]⟩] from rfl]at ay;have ar:jH (· = y.heap.size) aA (aA.setCell ⟨y.heap.size,3,none⟩ (.slice K (c.length+1) L)):=(jH.refl (· = y.heap.size) aA).cellS 3 _
  have cr:=joI (bE.box P (by decide) (by decide) (by decide) ar);have c7:=joI (jG A ar (fun b e q=>jh A P (by decide) (by rw[e,q])))
  have bZ:=joI (aY.only ar (fun e=>by omega));have bY:=joI (aI.trans (ar.to_below aI.size (fun r hr e=>by omega)))
  have bw:=joI ay;have cW:=P.cell 3
  have dF:=P.frozen 3;have l2:=ay.cell 2
  simp only[joQ,joP,joO]at cW l2;have L2:=joI l2
  have LW:=joI (show jjd wr y.heap.size=c.length by unfold jjd;rw[HK.out.cell];rfl);clear A N bF aG aq bE P aY aI ay ar l2 bB O aP aO aN bX cX bW cB;go_wp2_with fail;go_roundw
  case rel=>exact⟨c++[Z],_,_,_,_,RS.out,bw.out,cr.out,by rw[ES.out,joK];exact c7.out,bZ.out,bY.out⟩
  case measure =>
  have h1:=LW.out;rw[h1];unfold jjd;rw[L2.out];show t.length+1-(c.length+1)<t.length+1-c.length
  omega
 ·
  have C:=U.set 4 (.string (B r));rw[show(#[Value.int .i64 (n:Int),.string (B d),.slice ba c.length bc,.slice X c.length ec,.string ⟨#[]⟩]:Array Value).setIfInBounds 4 (.string (B r))=#[.int .i64 (n:Int),.string (B d),.slice ba c.length bc,.slice X c.length ec,.string (B r)] from rfl]at C;have o7:jH (· = y.heap.size) w6 (w6.setCell ⟨y.heap.size,4,none⟩ (.string (B r))):=(jH.refl (· = y.heap.size) w6).cellS 4 _
  have f:=C6.only o7 (fun e=>by omega);have T7:=T6.box U (by decide) (by decide) (by decide) o7
  have E7:=jG E6 o7 (fun b e q=>jh E6 U (by decide) (by rw[e,q]));obtain⟨P8,Y⟩:=jfE f (.int .i64 (n:Int)) (.string (B d)) (.slice ba c.length bc) (.slice X c.length ec) (.string (B r));have T8:=T7.box f (by decide) (by decide) (by decide) Y
  have E8:=jG E7 Y (fun b e q=>jh E7 f (by decide) (by rw[e,q]));have ci:=joI P8
  have B7:=v.out.trans (o7.to_below v.out.size (fun r hr e=>by omega));have B8:=joI (B7.trans (Y.to_below B7.size (fun r hr e=>by omega)))
  have BR:=joI (show BookR w.heap.size _ (Qi n d (.slice ba c.length bc) (.slice X c.length ec) r) n d c r from⟨_,_,us,rfl,T8,E8⟩);have cp:=joI (show vp Dc t n d c r from⟨bu.out,⟨ak,HP.out⟩,g,HR.out,bU⟩)
  have dq:=U.frozen 4;have cY:=U.cell 4
  have a7:=f.cell 0;have a8:=f.cell 1
  have aa:=f.cell 2;have ae:=f.cell 3
  have af:=f.cell 4;have bH:=f.frozen 0
  have bI:=f.frozen 1;have bJ:=f.frozen 2
  have bK:=f.frozen 3;have bL:=f.frozen 4
  have cZ:=C.cell 0;have d8:=C.cell 1
  have am:=C.cell 2;have d9:=C.cell 3
  have de:=C.cell 4;simp only[joQ,joP,joO]at cY a7 a8 aa ae af cZ d8 am d9 de;clear U C6 T6 E6 C o7 f T7 E7 P8 Y T8 E8 B7 bU;go_upto_region 12 with fail;rw[EX.out];go_wp2_with fail;refine bodyPost_ret (KP rfl _ _ w.heap.size _ rfl ci.out rfl) rfl ?_;exact⟨B8.out,.inr (.inr ⟨d,c,r,_,by rw[p];exact cp.out,rfl,by rw[p];exact BR.out⟩)⟩
 ·
  have DE:=joI (WK [] (by decide) w6 (TB.out w6 v.out).tabs);have FB:Hid (jkn Dc r):=.inl ⟨bR,bT⟩
  have DN:=joI jhM;clear bR bT;go_wp2_with fail;refine DE.out.mono ?_;rintro e l ⟨V,h7⟩;have G:=joI (v.out.trans (V.mono v.out.size))
  have C:=jb U V U.lt;have f:=jb C6 V C6.lt
  clear DE U C6 T6 E6 V;rcases h7 with ⟨hd,rfl⟩|⟨aC,u7,bG,hd,_⟩
  rotate_left
  ·rw[DN.out]at hd;cases hd
  have a7:=f.cell 0;have a8:=f.cell 1
  have aa:=f.cell 2;have ae:=f.cell 3
  have af:=f.cell 4;have bH:=f.frozen 0
  have bI:=f.frozen 1;have bJ:=f.frozen 2
  have bK:=f.frozen 3;have bL:=f.frozen 4
  have am:=C.cell 2;simp only[joQ,joP,joO]at a7 a8 aa ae af am;have cu:∀o,(l.alloc o).cell? ⟨w.heap.size,0,none⟩=_:=fun o=>((f.alloc o).cell 0).trans rfl
  have cw:∀o,(l.alloc o).cell? ⟨w.heap.size,1,none⟩=_:=fun o=>((f.alloc o).cell 1).trans rfl;have cy:∀o,(l.alloc o).cell? ⟨w.heap.size,2,none⟩=_:=fun o=>((f.alloc o).cell 2).trans rfl
  have cz:∀o,(l.alloc o).cell? ⟨w.heap.size,3,none⟩=_:=fun o=>((f.alloc o).cell 3).trans rfl;have cA:∀o,(l.alloc o).cell? ⟨w.heap.size,4,none⟩=_:=fun o=>((f.alloc o).cell 4).trans rfl
  have cC:∀o,(l.alloc o).frozen? ⟨w.heap.size,0,none⟩=false:=fun o=>(f.alloc o).frozen 0;have cD:∀o,(l.alloc o).frozen? ⟨w.heap.size,1,none⟩=false:=fun o=>(f.alloc o).frozen 1
  have cE:∀o,(l.alloc o).frozen? ⟨w.heap.size,2,none⟩=false:=fun o=>(f.alloc o).frozen 2;have cF:∀o,(l.alloc o).frozen? ⟨w.heap.size,3,none⟩=false:=fun o=>(f.alloc o).frozen 3
  have cG:∀o,(l.alloc o).frozen? ⟨w.heap.size,4,none⟩=false:=fun o=>(f.alloc o).frozen 4;have CA:=joI (jdZ G.out f c.length)
  have CB:=joI (jdY G.out f c.length);clear C f;go_wp2_with fail;go_region
  all_goals go_wp2_with fail
  ·refine bodyPost_ret (KP rfl _ _ w.heap.size _ rfl CA.out.2.1 rfl) rfl ?_;exact⟨CA.out.1,.inr (.inl ⟨ak,c,r,_,by rw[p,g];exact HP.out,by rw[p,g];exact HR.out,FB.out,rfl,CA.out.2.2⟩)⟩
  refine bodyPost_ret (KP rfl _ _ w.heap.size _ rfl CB.out.2.1 rfl) rfl ?_;exact⟨CB.out.1,.inr (.inl ⟨ak,c,r,_,by rw[p,g];exact HP.out,by rw[p,g];exact HR.out,FB.out,rfl,CB.out.2.2⟩)⟩
theorem Vj(t:List UInt8)(n:Nat):(vo (t.drop n)).length<=t.length:=by
 have a:=Ql (t.drop n);have b:=jdW (t.drop n)
 have c:(t.drop n).length<=t.length:=by rw[joX];omega
 omega
theorem jh2{w w2:World}{n:Nat}{base a:List UInt8}{b e:Option Addr}{d c g f:Nat}(h:w.alloc (.cells #[.int .i64 (n:Int),.string (B base),.slice b d c,.slice e g f,.string (B a)] 28)=w2):
  Below w.heap.size w w2/\ja w2 w.heap.size 28 #[.int .i64 (n:Int),.string (B base),.slice b d c,.slice e g f,.string (B a)]:=by
 rw[<- h];exact⟨(joL _ _).alloc (joJ _) _,ja.new _ _ _⟩
theorem jnV(l:List UInt8):((B l).toList==(B l).toList)=true:=by simp
end Bk
section
open Go.Maps Go.ChangeShapes Go.Joins Go.WideShapes
end
theorem jfs{eds:List Ed}(h:∀a∈eds,zG a=0):∀l∈zm eds,∃r,l=32::r:=by
 intro l hl;obtain⟨a,c,b⟩:=List.mem_flatMap.1 hl;rcases List.mem_cons.1 b with rfl|b
 ·unfold zi;rw[if_pos (yV (h a c))];exact⟨_,rfl⟩
 obtain⟨x,_,rfl⟩:=List.mem_map.1 b;exact⟨_,rfl⟩
theorem KH(l:List UInt8)(r:List (List UInt8)):jq (l::r)=l++10::jq r:=by unfold jq;simp
theorem jfW(ls:List (List UInt8))(a:ls≠[]):(jq ls)[(jq ls).length-1]?=some 10:=by rw[<- jqL];rw[<- List.dropLast_concat_getLast a];unfold jq;simp
namespace Fr
theorem jf7:∀a:List (List UInt8),(∀l∈a,(10:UInt8)∉l)->(∀l∈a,∃r,l=32::r)->sp true (jq a)=true
 | [],_,_=>rfl
 | l::a,b,c=>by
  obtain⟨r,f⟩:=c l joV;have e:jq (l::a)=(l++[10])++jq a:=by rw[KH];simp
  rw[e,qo,jf8 l (b l joV),VM l [10] true (by simp)];have d:fresh true ([10]:List UInt8)=true:=rfl
  rw[d,jf7 a (fun x h=>b x (joU _ h)) (fun x h=>c x (joU _ h)),f];rfl
theorem batch_body{eds:List Ed}(f:(qw eds).2=0)(hl:(jo eds).length<=50000):goodR (jo eds)=true:=by
 obtain⟨⟨i,_⟩,c⟩:=vm f;have b:zm eds≠[]:=by
  cases eds with
  | nil=>simp at i
  | cons x r=>unfold zm jhE;simp
 have e:=jfs c;have g:=xK c
 rw[good_iff];unfold jo at *
 have a:vH (jq (zm eds))=true:=by unfold vH;rw[jqL,jfW _ b];rfl
 refine⟨?_,hl,a,jf7 _ g e⟩;cases d:zm eds with
 | nil=>exact absurd d b
 | cons l j =>
 obtain⟨r,h⟩:=e l (by rw[d];exact joV);rw[KH,h];simp;omega
attribute [local go_sem] joY
end Fr
namespace Bk
attribute [local go_sem] joY
theorem je2(s:ByteArray)(d:50000<s.size)(w:World):
  Calls prog 92 #[.string s] w fun e h=>e=.returned (.bool false)/\Below w.heap.size w h:=by
 have a:=joI (Fr.fits_any (s.size:Int));have b:decide (2<=(s.size:Int)/\(s.size:Int)<=50000)=false:=by simp;omega
 refine callsIn_wide (n:=9).1 ?_;refine callsIn_of_wp_marks func92 rfl trivial ?_ rfl;simp only[ntmps92,jpN,joR,jpm,Nat.reduceAdd,Nat.reduceSub,jpK,jpL,jpU,jpQ,jpC,jo6];have f:=jqe w 4 (.bool false)
 have g:Below w.heap.size w (w.alloc (.cells #[.bool false] 4)):=(joL _ w).alloc (joJ _) _;rw[b]at a;gi_wp2_with fail;refine⟨trivial,(callsIn_wide.2 (a.out _)).mono ?_⟩;rintro e i ⟨rfl,rfl⟩;gi_wp2;have c:=f.cell
 exact⟨.bool false,by simp[results,Tryz.f92,go_sem,c],rfl,g⟩
theorem jaK(l:List UInt8)(hl:50000<l.length)(w:World):
  Calls prog 64 #[.string (B l)] w fun e c=>e=.returned (.tuple #[.string (B []),Zc 2])/\Below w.heap.size w c:=by
 have b:=joI (je2 (B l) (by rw[jg];exact hl) w);go_enter func64,ntmps64;go_wp2_with fail;refine b.out.mono ?_;rintro e d ⟨rfl,a⟩;go_wp2_with fail;go_ret2;exact⟨rfl,a⟩
def Yf(t:List UInt8)(a k:Nat):Prop :=
 jD (vo (t.drop (hl (Hd.genP t))))=.error (a,k) \/
 (k=10/\∃its bds r,jD (vo (t.drop (hl (Hd.genP t))))=.ok its/\jfx Dc (t.drop (hl (Hd.genP t)+(vo (t.drop (hl (Hd.genP t)))).length)) bds r/\jkn Dc r/\a=bds.length)
theorem Yf.one{t:List UInt8}{a k f l:Nat}(h:Yf t a k)(b:Yf t f l):a=f/\k=l:=by
 rcases h with h|⟨rfl,p,m,r,i,n,o,rfl⟩<;>rcases b with b|⟨rfl,j,g,q,c,d,e,rfl⟩
 ·rw[h]at b;injection b with b;exact⟨(Prod.mk.inj b).1,(Prod.mk.inj b).2⟩
 ·rw[h]at c;cases c
 ·rw[b]at i;cases i
 obtain⟨rfl,_⟩:=Ym n d (.inr o) (.inr e);exact⟨rfl,rfl⟩
theorem Yf.not{t:List UInt8}{a k n:Nat}{base b:List UInt8}{c:List (List UInt8)}(h:Yf t a k)(s:vp Dc t n base c b):False:=by
 have i:Hd.genP t=n:=Hd.gen_one (Hd.genP_is t) s.gen;obtain⟨l,j⟩:=s.parse;have g:=s.isB
 unfold Yf at h;rw[i,g]at h;rcases h with h|⟨_,_,d,r,_,f,e,_⟩
 ·rw[j]at h;cases h
 obtain⟨rfl,rfl⟩:=Ym f s.recd (.inr e) (.inl s.fin);exact jjI s.fin e
theorem Yf.num{t:List UInt8}{a k:Nat}(h:Yf t a k):k≠0/\k<=11:=by
 rcases h with h|⟨rfl,_⟩
 ·exact Yo h
 exact⟨by decide,by decide⟩
theorem jmv.two{w w':World}{t:List UInt8}{e:Ending}(h:jmv w w' t e):Below w.heap.size w w' /\
  ((∃a k u,Yf t a k/\e=.returned (.tuple #[Qt,u])/\jB w.heap.size w' u a k)\/∃n b d c v,vp Dc t n b d c/\e=.returned (.tuple #[v,.nilIface])/\BookR w.heap.size w' v n b d c):=by
 obtain⟨o,h⟩:=h;refine⟨o,?_⟩;rcases h with ⟨a,k,u,f,g,i⟩|⟨j,d,r,u,f,g,i,l,m⟩|⟨b,d,c,v,f,g,i⟩
 ·exact .inl ⟨a,k,u,.inl f,g,i⟩
 ·exact .inl ⟨_,10,u,.inr ⟨rfl,j,d,r,f,g,i,rfl⟩,l,m⟩
 exact .inr ⟨_,b,d,c,v,f,g,i⟩
def jnT(w w':World)(t:List UInt8)(eds:List Ed)(e:Ending):Prop:=Below w.heap.size w w' /\
  ((∃a k u,Yf t a k/\e=.returned (.tuple #[.string (B []),u])/\jB w.heap.size w' u a k) \/
   ∃n base bds tail,vp Dc t n base bds tail /\
    (((qw eds).2≠0/\∃u,e=.returned (.tuple #[.string (B []),u])/\vE w.heap.size w' u (qw eds).1 (qw eds).2) \/
     ((qw eds).2=0/\50000<(jo eds).length/\e=.returned (.tuple #[.string (B []),Zc 11])) \/
     ((qw eds).2=0/\(jo eds).length<=50000/\e=.returned (.tuple #[.string (B (t.take (zg n base bds)++Fr.fullR (jo eds))),.nilIface]))))
theorem jbH(t:List UInt8)(ht:t.length<=60000)(eds:List Ed)(bv:Value)(w:World)(hE:EdV w bv eds)(V:eds.length<=1000000)(hf:VY eds)(hi:∀ed∈eds,I64 ed.id)(hT:WY w):
  Calls prog 31 #[.string (B t),bv] w fun e g=>jnT w g t eds e:=by
 have TB:Hid (∀W,Below w.heap.size w W->WY W):=fun W J=>hT.below J (joJ _);have am:(B t).size=t.length:=jg t
 have RD:=joI (VX t (by omega) (by have:=Vj t (hl (Hd.genP t));omega) w hT);have EV:Hid (∀W,Below w.heap.size w W->EdV W bv eds):=fun W J=>hE.below J (joJ _)
 have HF:=joI hf;have HI:=joI hi
 obtain⟨va,vc,rfl,_⟩:∃A c,bv=.slice A eds.length c/\True:=by obtain⟨A,c,e,_⟩:=hE;exact⟨A,c,e,trivial⟩
 clear hT hE hf hi;go_enter func31,ntmps31;go_wp2_with fail;refine RD.out.mono ?_;rintro e w1 hr;obtain⟨b1,h1⟩:=hr.two;have Z:=joI b1
 clear RD hr b1;rcases h1 with ⟨a,k,u,p,rfl,U⟩|⟨n,b,d,j,v,hS,rfl,y⟩
 ·have C:Below w1.heap.size w1 (w1.alloc (.cells #[.int .i64 0,.string ⟨#[]⟩,.slice none 0 0,.slice none 0 0,.string ⟨#[]⟩] 28)):=(joL _ _).alloc (joJ _) _;have B2:=joI (Z.out.trans (C.mono Z.out.size))
  have F2:=joI (U.below C (joJ _));obtain⟨q,_,rfl,_⟩:=U;have O:=joI p
  unfold Qt Qi;clear C p;go_wp2_with fail;go_ret2;exact⟨B2.out,.inl ⟨a,k,_,O.out,rfl,F2.out⟩⟩
 have N:=y;obtain⟨ae,ev,us,rfl,P,Q⟩:=y.is;obtain⟨ba,bc,rfl,_⟩:=je P.row;obtain⟨ea,ec,rfl,_⟩:=je Q;have PT:=hS.parts
 unfold Qi at *
 obtain⟨Y,E⟩:∃z,w1.alloc (.cells #[.int .i64 (n:Int),.string (B b),.slice ba d.length bc,.slice ea d.length ec,.string (B j)] 28)=z:=⟨_,rfl⟩
 obtain⟨x,C3⟩:=jh2 E;have s:=joI (Z.out.trans (x.mono Z.out.size))
 have ag:zg n b d<=t.length:=by have:=PT.len;omega
 have WH:Hid (∀W,Below Y.heap.size Y W->Calls prog 50 #[.agg #[.int .i64 (n:Int),.string (B b),.slice ba d.length bc,.slice ea d.length ec,.string (B j)]] W fun e g=>e=.returned (.int .i64 (zg n b d:Nat))/\Below W.heap.size W g):=fun W J=>jai ((N.below x).below J) (by omega) (TB.out W (s.out.trans (J.mono s.out.size)));have EN:=joI (WI eds _ Y (EV.out Y s.out) V HF.out HI.out (TB.out Y s.out).tabs)
 have m:=joI C3;have a8:=joI E
 have EX:Hid ((B t).extract 0 (zg n b d)=B (t.take (zg n b d))):=Fr.ext_take _ _;have RS:Hid (∀e:Ending,∀g,Below w.heap.size w g->(((qw eds).2≠0/\∃u,e=.returned (.tuple #[.string (B []),u])/\vE w.heap.size g u (qw eds).1 (qw eds).2)\/((qw eds).2=0/\50000<(jo eds).length/\e=.returned (.tuple #[.string (B []),Zc 11]))\/((qw eds).2=0/\(jo eds).length<=50000/\e=.returned (.tuple #[.string (B (t.take (zg n b d)++Fr.fullR (jo eds))),.nilIface])))->jnT w g t eds e):=fun e g R h=>⟨R,.inr ⟨n,b,d,j,hS,h⟩⟩
 clear N y P Q hS PT x C3 E;generalize af:zg n b d=W at *
 go_wp2_with fail;rw[a8.out];refine EN.out.mono ?_;rintro e w4 ⟨b4,h4⟩;have G:=joI (s.out.trans (b4.mono s.out.size))
 have o:=joI b4;clear EN b4;rcases h4 with ⟨K,rfl⟩|⟨K,u,rfl,hz⟩
 rotate_left
 ·
  have Z4:=joI (hz.mono (s.out.size));have f:=hz
  obtain⟨_,f⟩:=f;have f:(∃z,u=.iface 54 (.int .i64 z))\/∃q,u=.iface 87 (.pointer (some ⟨q,0,none⟩)):=by
   rcases f with ⟨rfl,_⟩|⟨_,⟨q,_,rfl,_⟩,_,_⟩
   ·rw[zf _ (by omega)];exact .inl ⟨_,rfl⟩
   exact .inr ⟨q,rfl⟩
  have R4:=joI (RS.out (.returned (.tuple #[.string (B []),u])) w4 G.out (.inl ⟨K,u,rfl,Z4.out⟩));clear hz RS;rcases f with ⟨z,rfl⟩|⟨q,rfl⟩
  all_goals
   go_wp2_with fail;go_ret2;exact R4.out
 have ah:=jg (jo eds);by_cases r:50000<(jo eds).length
 ·have H:=joI (jaK (jo eds) r w4);have i:Hid (∀g,Below w.heap.size w g->jnT w g t eds (.returned (.tuple #[.string (B []),Zc 11]))):=fun g R=>RS.out _ g R (.inr (.inl ⟨K,r,rfl⟩))
  rw[jbj]at H;rw[zf 11 (by decide)]at i;clear RS;generalize B (jo eds)=X at *
  go_wp2_with fail;refine H.out.mono ?_;rintro e w5 ⟨rfl,I⟩;have R5:=joI (i.out w5 (G.out.trans (I.mono G.out.size)))
  clear I H;go_wp2_with fail;go_ret2;exact R5.out
 have D:Fr.goodR (jo eds)=true:=Fr.batch_body K (by omega);have H:=joI (Fr.record_yes (jo eds) D w4 (TB.out w4 G.out).nums)
 have aj:=Fr.full_le D;have ak:(B (Fr.fullR (jo eds))).size=(Fr.fullR (jo eds)).length:=jg _
 have a7:Hid (B (t.take W)++B (Fr.fullR (jo eds))=B (t.take W++Fr.fullR (jo eds))):=by show _=_;rw[jn]
 have i:Hid (∀g,Below w.heap.size w g->jnT w g t eds (.returned (.tuple #[.string (B (t.take W++Fr.fullR (jo eds))),.nilIface]))):=fun g R=>RS.out _ g R (.inr (.inr ⟨K,by omega,rfl⟩));have aa:(B (t.take W)).size=W:=by rw[jg,joS];omega
 clear RS D K;generalize Fr.fullR (jo eds)=FR at *
 generalize B (jo eds)=X at *
 go_wp2_with fail;refine H.out.mono ?_;rintro e w5 ⟨rfl,I⟩;have l:=joI (o.out.trans (I.mono o.out.size))
 have B5:=joI (G.out.trans (I.mono G.out.size));have k:=jb m.out l.out m.out.lt
 have k0:=k.cell 0;have k1:=k.cell 1
 have k2:=k.cell 2;have k3:=k.cell 3
 have k4:=k.cell 4;simp only[joQ,joP,joO]at k0 k1 k2 k3 k4;clear I H k;go_wp2_with fail;refine(WH.out w5 l.out).mono ?_;rintro e w6 ⟨rfl,b6⟩;have L:=joI (l.out.trans (b6.mono l.out.size))
 have B6:=joI (B5.out.trans (b6.mono B5.out.size));have k:=jb m.out L.out m.out.lt
 have j0:=k.cell 0;have j1:=k.cell 1
 have j2:=k.cell 2;have j3:=k.cell 3
 have j4:=k.cell 4;simp only[joQ,joP,joO]at j0 j1 j2 j3 j4;have q5:¬(120000:Int)<(W:Int)+(FR.length:Int):=by omega
 clear b6 k k0 k1 k2 k3 k4;go_wp2_with fail;refine(WH.out w6 L.out).mono ?_;rintro e w7 ⟨rfl,b7⟩;have R7:=joI (i.out w7 (B6.out.trans (b7.mono B6.out.size)))
 have ai:((B t).extract 0 W).size=W:=by rw[EX.out];exact aa
 clear b7 i;go_wp2_with fail;rw[EX.out,a7.out];go_ret2;exact R7.out
end Bk
namespace Fr
attribute [local go_sem] joY
theorem vQ{p:UInt8->Bool}{l:List UInt8}{k:Nat}(j:k<=l.length)(d:(l.take k).all p=true)(f:k=l.length\/∃c,l[k]?=some c/\p c=false):(l.takeWhile p).length=k:=by
 have e:l=l.take k++l.drop k:=(jpb k l).symm;rw[e,jqy (fun x hx=>List.all_eq_true.1 d x hx)];have g:(l.drop k).takeWhile p=[]:=by
  rcases f with h|⟨c,a,i⟩
  ·rw[jpE (by omega)];rfl
  obtain⟨b,a⟩:=List.getElem?_eq_some_iff.1 a;rw[jpp b,jpy,a,i];rfl
 rw[g,jo9,joS];omega
theorem jad{p:UInt8->Bool}{s:ByteArray}{k:Nat}(h:k<s.size)(a:(s.data.toList.take k).all p=true)(b:p s[k]=true):(s.data.toList.take (k+1)).all p=true:=by rw[Sm.take_snoc s k h,jqi,a];simp[b]
theorem xM{s:ByteArray}{k:Nat}(h:k<s.size):s.data.toList[k]?=some s[k]:=by rw[joM (by rw[<- jo2];exact h)];rfl
theorem jcG(s:ByteArray)(n:s.size<=1000000)(w:World):
  Calls prog 103 #[.string s] w fun e l=>e=.returned (.int .i64 ((s.data.toList.takeWhile dgB).length:Int))/\l=w:=by
 go_enter func103,ntmps103;go_wp2_with fail;go_loop [3] (fun i=>∃k:Nat,k<=s.size/\i=.int .i64 k/\(s.data.toList.take k).all dgB=true) (fun i=>s.size-(intOf i).toNat)
 case atStart=>exact⟨0,joT _,rfl,rfl⟩
 case round =>
 obtain⟨k,m,rfl,a⟩:=hrel;by_cases c:k<s.size
 ·have d:dgB s[k]=(decide (48<=s[k].toNat)&&decide (s[k].toNat<=57)):=rfl;by_cases f:48<=s[k].toNat
  ·have h:(48:Int)<=(s[k].toNat:Int):=by omega
   by_cases g:s[k].toNat<=57
   ·have j:(s[k].toNat:Int)<=57:=by omega
    have b:=joI (jad c a (by rw[d];simp[f,g]));clear a d;go_wp2_with fail;go_round
    case rel=>exact⟨k+1,by omega,by go_num,b.out⟩
    case measure=>simp[intOf];omega
   have j:¬(s[k].toNat:Int)<=57:=by omega
   have b:=joI (vQ (p:=dgB) (by rw[<- jo2];omega) a (.inr ⟨_,xM c,by rw[d];simp[g]⟩));clear a d;go_wp2_with fail;go_ret;exact⟨by rw[b.out];rfl,rfl⟩
  have h:¬(48:Int)<=(s[k].toNat:Int):=by omega
  have b:=joI (vQ (p:=dgB) (by rw[<- jo2];omega) a (.inr ⟨_,xM c,by rw[d];simp[f]⟩));clear a d;go_wp2_with fail;go_ret;exact⟨by rw[b.out];rfl,rfl⟩
 obtain rfl:k=s.size:=by omega
 have b:=joI (vQ (p:=dgB) (by rw[<- jo2];omega) a (.inl (jo2 s)));clear a;go_wp2_with fail;go_ret;exact⟨by rw[b.out];rfl,rfl⟩
theorem jlS(c:UInt8):Xv c=(decide (48<=c.toNat/\c.toNat<=57) || decide (97<=c.toNat/\c.toNat<=102)):=by
 unfold Xv Sm.val;by_cases h:48<=c.toNat/\c.toNat<=57
 ·rw[if_pos h];simp[h]
 rw[if_neg h];by_cases a:97<=c.toNat/\c.toNat<=102
 ·rw[if_pos a];simp[a]
 rw[if_neg a];simp[h,a]
theorem ja9{s:ByteArray}{k:Nat}(c:k<=8)(g:k<=s.size)(a:(s.data.toList.take k).all Xv=true)(b:k=s.size\/k=8\/∃h:k<s.size,Xv s[k]=false):hx s.data.toList=k:=by
 unfold hx;have e:=jo2 s
 refine vQ (by simp;omega) (by rw[jrd,jq5 c];exact a) ?_;rcases b with h|h|⟨h,d⟩
 ·exact .inl (by simp;omega)
 ·exact .inl (by simp;omega)
 by_cases f:k=8
 ·exact .inl (by simp;omega)
 exact .inr ⟨_,by rw[jpD,if_pos (by omega)];exact xM h,d⟩
theorem jlR(s:ByteArray)(x:s.size<=1000000)(w:World):
  Calls prog 104 #[.string s] w fun e u=>e=.returned (.int .i64 (hx s.data.toList:Int))/\u=w:=by
 go_enter func104,ntmps104;go_wp2_with fail;go_loop [3] (fun i=>∃k:Nat,k<=s.size/\k<=8/\i=.int .i64 k/\(s.data.toList.take k).all Xv=true) (fun i=>s.size-(intOf i).toNat)
 case atStart=>exact⟨0,joT _,joT _,rfl,rfl⟩
 case round =>
 obtain⟨k,g,c,rfl,a⟩:=hrel;by_cases d:k<s.size
 ·by_cases v:k<8
  ·have t:(k:Int)<8:=by omega
   have f:=jlS s[k];by_cases l:48<=s[k].toNat
   ·have o:(48:Int)<=(s[k].toNat:Int):=by omega
    by_cases j:s[k].toNat<=57
    ·have q:(s[k].toNat:Int)<=57:=by omega
     have b:=joI (jad (p:=Xv) d a (by rw[f];simp[l,j]));clear a f;go_wp2_with fail;go_round
     case rel=>exact⟨k+1,by omega,by omega,by go_num,b.out⟩
     case measure=>simp[intOf];omega
    have q:¬(s[k].toNat:Int)<=57:=by omega
    by_cases h:97<=s[k].toNat
    ·have n:(97:Int)<=(s[k].toNat:Int):=by omega
     by_cases m:s[k].toNat<=102
     ·have r:(s[k].toNat:Int)<=102:=by omega
      have b:=joI (jad (p:=Xv) d a (by rw[f];simp[h,m]));clear a f;go_wp2_with fail;go_round
      case rel=>exact⟨k+1,by omega,by omega,by go_num,b.out⟩
      case measure=>simp[intOf];omega
     have r:¬(s[k].toNat:Int)<=102:=by omega
     have b:=joI (ja9 c g a (.inr (.inr ⟨d,by rw[f];simp[j,m]⟩)));clear a f;go_wp2_with fail;go_ret;exact⟨by rw[b.out];rfl,rfl⟩
    have n:¬(97:Int)<=(s[k].toNat:Int):=by omega
    have b:=joI (ja9 c g a (.inr (.inr ⟨d,by rw[f];simp[j,h]⟩)));clear a f;go_wp2_with fail;go_ret;exact⟨by rw[b.out];rfl,rfl⟩
   have o:¬(48:Int)<=(s[k].toNat:Int):=by omega
   have h:¬97<=s[k].toNat:=by omega
   have n:¬(97:Int)<=(s[k].toNat:Int):=by omega
   have b:=joI (ja9 c g a (.inr (.inr ⟨d,by rw[f];simp[l,h]⟩)));clear a f;go_wp2_with fail;go_ret;exact⟨by rw[b.out];rfl,rfl⟩
  have t:¬(k:Int)<8:=by omega
  have b:=joI (ja9 c g a (.inr (.inl (by omega))));clear a;go_wp2_with fail;go_ret;exact⟨by rw[b.out];rfl,rfl⟩
 obtain rfl:k=s.size:=by omega
 have b:=joI (ja9 c g a (.inl rfl));clear a;go_wp2_with fail;go_ret;exact⟨by rw[b.out];rfl,rfl⟩
end Fr
end Go.Proofs.YtbapfpekklcicaaGreatDoor
