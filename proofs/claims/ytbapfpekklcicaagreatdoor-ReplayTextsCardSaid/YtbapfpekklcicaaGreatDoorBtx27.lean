/- Texts put together:DK,DL,DQ,SB,MC,MD,ME,MF. -/
import Derived.Test.YtbapfpekklcicaaGreatDoorBtx26
set_option linter.unusedVariables false
set_option maxRecDepth 100000
set_option maxHeartbeats 16000000
namespace Go.Proofs.YtbapfpekklcicaaGreatDoor
open Go.RowKit Go.Shelf Tryz
abbrev jqL:=@List.getLast?_eq_getElem?
namespace Fr
attribute [local go_sem] joY
theorem Kt{c:UInt8}(d:UInt8)(n:Int)(a:(d.toNat:Int)=n):((c.toNat:Int)==n)=(c==d):=by
 by_cases h:c=d
 ·subst h;simp[a]
 have:(c.toNat:Int)≠n:=by intro e;apply h;apply UInt8.toNat_inj.1;omega
 rw[beq_eq_false_iff_ne.2 this];simp[h]
theorem je5{s:ByteArray}{m:Nat}(h:m<s.size):fresh true (s.data.toList.take (m+1))=(s[m]==10):=by rw[Sm.take_snoc s m h];unfold fresh;simp
theorem jla{s:ByteArray}{k:Nat}(h:k<s.size):sp true (s.data.toList.take (k+1))=(sp true (s.data.toList.take k)&&(!fresh true (s.data.toList.take k) || s[k]==32)):=by rw[Sm.take_snoc s k h,qo];simp[sp]
theorem jmN{s:ByteArray}{k:Nat}(h:sp true (s.data.toList.take k)=false):sp true s.data.toList=false:=by rw[<- jpb k s.data.toList,qo,h];rfl
theorem Vy(s:ByteArray)(v:s.size<=1000000)(w:World):
  Calls prog 105 #[.string s] w fun e t=>e=.returned (.bool (sp true s.data.toList))/\t=w:=by
 go_enter func105,ntmps105;go_wp2_with fail;go_loop [3] (fun i=>∃k:Nat,k<=s.size/\i=.int .i64 k/\sp true (s.data.toList.take k)=true) (fun i=>s.size-(intOf i).toNat)
 case atStart=>exact⟨0,joT _,rfl,rfl⟩
 case round =>
 obtain⟨k,u,rfl,f⟩:=hrel;by_cases n:k<s.size
 ·have a:=jla n;rw[f,jqH]at a;have j:=Kt (c:=s[k]) 32 32 rfl
  by_cases l:k=0
  ·subst l;have p:fresh true (s.data.toList.take 0)=true:=rfl
   rw[p]at a;have b:=joI a
   clear a p f;cases d:(s[0]==32) with
   | true =>
    rw[d]at j;go_wp2_with fail;go_round
    case rel=>exact⟨1,by omega,by go_num,by rw[b.out,d];rfl⟩
    case measure=>simp[intOf];omega
   | false =>
   rw[d]at j;have h:=joI (jmN (s:=s) (k:=1) (by rw[b.out,d];rfl))
   go_wp2_with fail;go_ret;exact⟨by rw[h.out];rfl,rfl⟩
  obtain⟨m,rfl⟩:∃m,k=m+1:=⟨k-1,by omega⟩
  have r:m<s.size:=by omega
  rw[je5 r]at a;have o:=Kt (c:=s[m]) 10 10 rfl
  have b:=joI a;clear a f;have z:IntKind.i64.wrap (m:Int)=m:=jph _ (by omega)
  have x:(0:Int)<=m:=by omega
  have y:(((m:Int)+1)==0)=false:=by rw[beq_eq_false_iff_ne];omega
  cases g:(s[m]==10) with
  | false =>
   rw[g]at o;have h:Hid (sp true (s.data.toList.take (m+1+1))=true):=by show _=_;rw[b.out,g];rfl
   clear g;go_wp2_with fail;go_round
   case rel=>exact⟨m+1+1,by omega,by go_num,h.out⟩
   case measure=>simp[intOf];omega
  | true =>
  rw[g]at o;cases d:(s[m+1]==32) with
  | true =>
   rw[d]at j;have h:Hid (sp true (s.data.toList.take (m+1+1))=true):=by show _=_;rw[b.out,g,d];rfl
   clear g d;go_wp2_with fail;go_round
   case rel=>exact⟨m+1+1,by omega,by go_num,h.out⟩
   case measure=>simp[intOf];omega
  | false =>
  rw[d]at j;have h:=joI (jmN (s:=s) (k:=m+1+1) (by rw[b.out,g,d];rfl))
  clear g d;go_wp2_with fail;go_ret;exact⟨by rw[h.out];rfl,rfl⟩
 have:k=s.size:=by omega
 subst this;have q:Hid (sp true s.data.toList=true):=by show _=_;rw[jpi (by simp)]at f;exact f
 go_wp2_with fail;go_ret;exact⟨by rw[q.out];rfl,rfl⟩
theorem JC(l p:List UInt8)(hl:l.length<=1000000)(h:p.length<=1000)(w:World):
  Calls prog 102 #[.string (B l),.string (B p)] w fun e f=>e=.returned (.bool (Lib.hasPrefix l p))/\f=w:=by
 have g:=jg l;have b:=jg p
 have hx:(B l).extract 0 (B p).size=B (l.take p.length):=by apply jp5;apply Array.toList_inj.1;rw[jpS,jp2,Nat.sub_zero,jj,jj,b]
 by_cases c:p.length<=l.length
 ·have d:decide (((B p).size:Int)<=((B l).size:Int))=true:=by simp;omega
  have a:((B (l.take p.length)).toList==(B p).toList)=Lib.hasPrefix l p:=by rw[jpI];unfold Lib.hasPrefix;rw[jpW,List.prefix_iff_eq_take,beq_iff_eq,jpn,jpn,jj,jj];exact eq_comm
  generalize Lib.hasPrefix l p=q at *
  generalize B (l.take p.length)=V at *
  generalize B l=X at *
  generalize B p=Y at *
  go_enter func102,ntmps102;go_wp2_with fail;go_ret;exact⟨by rw[<- a,<- hx,b];rfl,rfl⟩
 have d:decide (((B p).size:Int)<=((B l).size:Int))=false:=by simp;omega
 have a:Lib.hasPrefix l p=false:=by
  cases q:Lib.hasPrefix l p with
  | false=>rfl
  | true =>
  unfold Lib.hasPrefix at q;have:=(List.isPrefixOf_iff_prefix.1 q).length_le
  omega
 rw[a];generalize B l=X at *
 generalize B p=Y at *
 go_enter func102,ntmps102;go_wp2_with fail;go_ret;exact⟨rfl,rfl⟩
theorem qY{l p:List UInt8}:Lib.hasPrefix l p=true↔∃q,l=p++q:=by unfold Lib.hasPrefix;rw[jpW];exact⟨fun⟨q,h⟩=>⟨q,h.symm⟩,fun⟨q,h⟩=>⟨q,h.symm⟩⟩
theorem Qj(l p:List UInt8)(hl:l.length<=1000)(c:p.length<=1000)(w:World):
  Calls prog 101 #[.string (B l),.string (B p)] w fun e b=>e=.returned (.bool (Lib.hasPrefix p l))/\b=w:=by
 have a:=joI (JC p l (by omega) hl w);go_enter func101,ntmps101;go_wp2_with fail;refine a.out.mono ?_;rintro e d ⟨rfl,rfl⟩;go_wp2_with fail;go_ret;exact⟨rfl,rfl⟩
theorem Zk(s:ByteArray)(r:s.size<=1000000)(w:World):
  Calls prog 106 #[.string s] w fun e v=>e=.returned (.bool (goodR s.data.toList))/\v=w:=by
 have n:goodR s.data.toList=(decide (2<=s.size)&&decide (s.size<=50000)&&vH s.data.toList&&sp true s.data.toList):=by unfold goodR;rw[<- jo2]
 have p:=joI (Vy s r);rw[n];clear n;by_cases k:2<=s.size
 ·have t:(2:Int)<=s.size:=by omega
  by_cases l:s.size<=50000
  ·have u:(s.size:Int)<=50000:=by omega
   have d:decide (2<=s.size)=true:=by simpa using k
   have f:decide (s.size<=50000)=true:=by simpa using l
   have x:IntKind.i64.wrap ((s.size:Int)-1)=((s.size-1:Nat):Int):=by rw[show(s.size:Int)-1=((s.size-1:Nat):Int) by omega];exact jph _ (by omega)
   have hl:vH s.data.toList=(s[s.size-1]==10):=by unfold vH;rw[jqL,<- jo2,joM (by rw[<- jo2];omega)];simp;rfl
   have i:=Kt (c:=s[s.size-1]) 10 10 rfl;rw[d,f,hl];generalize sp true s.data.toList=z at *
   clear hl d f;have a:s.size-1<s.size:=by omega
   obtain⟨m,j⟩:∃m,s.size-1=m:=⟨_,rfl⟩
   have b:∀(m:Nat) (h:m<s.size),s.size-1=m->(s[s.size-1]=s[m]):=fun m h e=>by subst e;rfl
   rw[j]at x a;have o:=b m a j
   rw[o]at i ⊢;clear b o;have q:(m:Int)<s.size:=by omega
   clear j;cases g:(s[m]==10) with
   | true =>
    rw[g]at i;clear g;go_enter func106,ntmps106;go_wp2_with fail;refine(p.out _).mono ?_;rintro e y ⟨rfl,rfl⟩;go_wp2_with fail;go_ret;exact⟨by simp,rfl⟩
   | false =>
   rw[g]at i;clear g;go_enter func106,ntmps106;go_wp2_with fail;go_ret;exact⟨by simp,rfl⟩
  have u:¬(s.size:Int)<=50000:=by omega
  have f:decide (s.size<=50000)=false:=by simpa using l
  rw[f];go_enter func106,ntmps106;go_wp2_with fail;go_ret;exact⟨by simp,rfl⟩
 have t:¬(2:Int)<=s.size:=by omega
 have d:decide (2<=s.size)=false:=by simpa using k
 rw[d];go_enter func106,ntmps106;go_wp2_with fail;go_ret;exact⟨by simp,rfl⟩
theorem Kl(n:Nat)(b:n<=9223372036854775807)(w:World):Calls prog 154 #[.int .i64 (n:Int)] w fun e a=>e=.returned (.string (B (Lib.decDigits n)))/\a=w:=by have:=figures_any (n:Int) (by unfold I64;omega) w;rwa [jpZ]at this
theorem WX(n:Nat)(l:n<=50000)(f:List UInt8)(h:f.length<=1000000)(w:World):
  Calls prog 107 #[.int .i64 (n:Int),.string (B f)] w fun e j=>e=.returned (.tuple #[.string (B (jP n f++[10])),.string (B (zj n))])/\j=w:=by
 have a:=joI (fun w=>Kl n (by omega) w);have b:Hid ((⟨#[37,97,109,101,110,100,32]⟩:ByteArray)++B (Lib.decDigits n) ++ ⟨#[32]⟩++B f ++ ⟨#[10]⟩=B (jP n f++[10])):=by show _=_;rw[show(⟨#[37,97,109,101,110,100,32]⟩:ByteArray)=B AMD from rfl,show(⟨#[32]⟩:ByteArray)=B [32] from rfl,show(⟨#[10]⟩:ByteArray)=B [10] from rfl,jn,jn,jn,jn];unfold jP;simp
 have c:Hid ((⟨#[37,101,110,100,32]⟩:ByteArray)++B (Lib.decDigits n) ++ ⟨#[10]⟩=B (zj n)):=by show _=_;rw[show(⟨#[37,101,110,100,32]⟩:ByteArray)=B END from rfl,show(⟨#[10]⟩:ByteArray)=B [10] from rfl,jn,jn];unfold zj;simp
 have m:=GG n (by omega);have i:(B f).size<=1000000:=by rw[jg];exact h
 generalize B (Lib.decDigits n)=d at *
 generalize B f=g at *
 have o:((⟨#[37,97,109,101,110,100,32]⟩:ByteArray)++d).size<=27:=by rw[jpB];show 7+_<=_;omega
 have p:((⟨#[37,97,109,101,110,100,32]⟩:ByteArray)++d ++ ⟨#[32]⟩).size<=28:=by rw[jpB];show _+1<=_;omega
 have q:((⟨#[37,97,109,101,110,100,32]⟩:ByteArray)++d ++ ⟨#[32]⟩++g).size<=1000028:=by rw[jpB];omega
 have r:((⟨#[37,101,110,100,32]⟩:ByteArray)++d).size<=25:=by rw[jpB];show 5+_<=_;omega
 go_enter func107,ntmps107;go_wp2_with fail;refine(a.out _).mono ?_;rintro e k ⟨rfl,rfl⟩;go_wp2_with fail;refine(a.out _).mono ?_;rintro e k ⟨rfl,rfl⟩;go_wp2_with fail;go_ret2;exact⟨by rw[<- b.out,<- c.out];rfl,rfl⟩
theorem Ur(n:Int)(w:World):
  Calls prog 110 #[.int .i64 n] w fun e l=>e=.returned (.int .i64 (yS n))/\l=w:=by
 by_cases d:2<=n
 ·have i:¬n<2:=by omega
  by_cases f:n<=50000
  ·have j:¬50000<n:=by omega
   obtain⟨k,rfl⟩:∃k:Nat,n=k:=⟨n.toNat,by omega⟩
   have a:yS k=((jP k qH++[10]).length:Int)+k+((zj k).length:Int):=by unfold yS;rw[if_pos ⟨d,f⟩];simp
   rw[a];have c:=joI (fun w=>WX k (by omega) qH (by decide) w)
   have b:=xG (show k<=99999 by omega);have h:(B (jP k qH++[10])).size<=31:=by rw[jg];unfold jP AMD qH;simp;omega
   have g:(B (zj k)).size<=30:=by rw[jg];unfold zj END;simp;omega
   rw[<- jg,<- jg];have o:(⟨#[48,48,48,48,48,48,48,48]⟩:ByteArray)=B qH:=rfl
   generalize B (jP k qH++[10])=X at *
   generalize B (zj k)=Y at *
   clear a b;have m:IntKind.i64.wrap ((X.size:Int)+k)=(X.size:Int)+k:=jph _ (by omega)
   have p:IntKind.i64.wrap ((X.size:Int)+k+(Y.size:Int))=(X.size:Int)+k+(Y.size:Int):=jph _ (by omega);go_enter func110,ntmps110;rw[o];go_wp2_with fail;refine(c.out _).mono ?_;rintro e m ⟨rfl,rfl⟩;go_wp2_with fail;go_ret;exact⟨rfl,rfl⟩
  have j:50000<n:=by omega
  have a:yS n=0:=by unfold yS;rw[if_neg (by omega)]
  rw[a];go_enter func110,ntmps110;go_wp2_with fail;go_ret;exact⟨rfl,rfl⟩
 have i:n<2:=by omega
 have a:yS n=0:=by unfold yS;rw[if_neg (by omega)]
 rw[a];go_enter func110,ntmps110;go_wp2_with fail;go_ret;exact⟨rfl,rfl⟩
def b3:List UInt8:=[32,97,10]
theorem jjb{b:List UInt8}(a:goodR b=true):yS (b.length:Int)=((fullR b).length:Int):=by
 obtain⟨c,d,_,_⟩:=good_iff.1 a;have:=xC (qR b)
 unfold yS;rw[if_pos (by omega)];unfold fullR;rw[qV];have z8:qH.length=8:=rfl
 unfold jP;simp only[joK,joR,jqs,z8,this];omega
theorem jkf{s:ByteArray}{k:Nat}(h:k<s.size):s.data.toList[k]?=some s[k]:=by rw[joM (by rw[<- jo2];exact h)];rfl
def signB(l:List UInt8):Bool:=Lib.hasPrefix l [37]
theorem beginsF_any(s:ByteArray)(j:s.size<=100000)(w:World):
  Calls prog 82 #[.string s] w fun e g=>e=.returned (.bool (signB s.data.toList&&decide (jm s.data.toList=5)))/\Below w.heap.size w g:=by
 have a:=joI (fun w=>Tryz.strings_HasPrefix s ⟨#[37]⟩ w);have c:Lib.hasPrefix s.data.toList (⟨#[37]⟩:ByteArray).data.toList=signB s.data.toList:=rfl
 simp only[c]at a;have b:=joI (fun w=>ZT s (by unfold maxLen;omega) w)
 have i:(((jm s.data.toList:Nat):Int)==5)=decide (jm s.data.toList=5):=by rw[jpI];simp;omega
 generalize signB s.data.toList=q at *
 generalize decide (jm s.data.toList=5)=d at *
 generalize jm s.data.toList=k at *
 cases q with
 | false =>
  go_enter func82,ntmps82;go_wp2_with fail;refine(a.out _).mono ?_;rintro e h ⟨rfl,rfl⟩;go_wp2_with fail;go_ret;exact⟨rfl,joL _ _⟩
 | true =>
 go_enter func82,ntmps82;go_wp2_with fail;refine(a.out _).mono ?_;rintro e h ⟨rfl,rfl⟩;go_wp2_with fail;refine(b.out _).mono ?_;rintro e l ⟨rfl,f⟩;go_wp2_with fail;go_ret;exact⟨by simp,f⟩
theorem refBegins_any(s:ByteArray)(t:s.size<=100000)(w:World):
  Calls prog 55 #[.string s] w fun e o=>e=.returned (.bool (signB s.data.toList&&decide (jm s.data.toList=5)))/\Below w.heap.size w o:=by
 have g:=joI (fun w=>vy s (by omega) w);have r:(((jm s.data.toList:Nat):Int)==5)=decide (jm s.data.toList=5):=by rw[jpI];simp;omega
 by_cases m:0<s.size
 ·have a:signB s.data.toList=(s[0]==37):=by
   have e:=jkf m;unfold signB Lib.hasPrefix;cases hl:s.data.toList with
   | nil=>rw[hl]at e;cases e
   | cons c l =>
   rw[hl]at e;have e:=joN e
   rw[<- e];have h:List.isPrefixOf [37] (c::l)=((37==c)&&true):=by simp[List.isPrefixOf]
   rw[h,Bool.and_true];by_cases b:c=37
   ·subst b;rfl
   have i:(c==37)=false:=by simpa using b
   have j:((37:UInt8)==c)=false:=by simpa using fun e=>b e.symm
   rw[i,j]
  have p:=Kt (c:=s[0]) 37 37 rfl;rw[a];generalize decide (jm s.data.toList=5)=d at *
  generalize jm s.data.toList=k at *
  generalize (s[0]==37)=q at *
  cases q with
  | false =>
   go_enter func55,ntmps55;go_wp2_with fail;go_ret;exact⟨rfl,joL _ _⟩
  | true =>
  go_enter func55,ntmps55;go_wp2_with fail;refine(g.out _).mono ?_;rintro e v ⟨rfl,n⟩;go_wp2_with fail;go_ret;exact⟨by simp,n⟩
 have f:s.data.toList=[]:=jpP (by rw[<- jo2];omega);have u:¬(0:Int)<s.size:=by omega
 have a:signB s.data.toList=false:=by rw[f];rfl
 rw[a];clear f;go_enter func55,ntmps55;go_wp2_with fail;go_ret;exact⟨rfl,joL _ _⟩
end Fr
namespace Bk
attribute [local go_sem] joY
def jof(w:World)(s:ByteArray)(pre:List Ln)(W:World):Prop:=Boxed W w.heap.size 9 (.string s)/\Boxed W (w.heap.size+1) 9 (.string ⟨#[]⟩)/\Below w.heap.size w W/\∀y∈pre,Vi y.text=false
def joD(w:World)(s:ByteArray)(c:Code)(pre:List Ln)(W:World):Prop:=Below w.heap.size w W/\c=.ret/\∃x,pre.find? (fun y=>Vi y.text)=some x/\Boxed W (w.heap.size+1) 9 (.string (s.extract 0 x.at_))
theorem jh5(w W:World)(u:ByteArray)(tmps:Array Value)(h:Boxed W (w.heap.size+1) 9 (.string u))(a:W.heap[w.heap.size+3]?=some (.deferred (some [])))(b:Below w.heap.size w W)(f:tmps[2]?=some (.pointer (some ⟨w.heap.size+1,0,none⟩))):
  bodyPostM Fence.wide 9 prog Tryz.f48 (fun e g=>e=.returned (.string u)/\Below w.heap.size w g) .ret {tmps:=tmps,defers:=[{target:=.collected (w.heap.size+3),args:=#[]}]} W:=by
 have d:=grownBy_putObj' W (w.heap.size+3) (.deferred none);have i:w.heap.size+3<W.heap.size:=(Array.getElem?_eq_some_iff.1 a).1
 have r:Boxed (W.putObj (w.heap.size+3) (.deferred none)) (w.heap.size+1) 9 (.string u):=(d.block _ (by omega) (fun e=>by have:=joN e;omega)).trans h;have c:=r.cell
 refine⟨by simp,.inl ⟨_,_,rfl,run_takeDeferred a,?_⟩⟩;exact⟨.string u,by simp[results,Tryz.f48,go_sem,f,c],rfl,b.trans (belowK_b (w:=w) (joJ _) W _ _ _ (by omega) a rfl rfl)⟩
theorem jkc(s:ByteArray)(C:s.size<=100000)(w:World):
  Calls prog 48 #[.string s] w fun e w'=>e=.returned (.string (s.extract 0 (ya (jf s.data.toList) s.size)))/\Below w.heap.size w w':=by
 obtain⟨A,j⟩:∃A,jf s.data.toList=A:=⟨_,rfl⟩
 have a7:=joI j;have U:=fun w b=>vv s b w
 rw[j]at U ⊢;have E:Hid (s.extract 0 s.size=s):=by show s.extract 0 s.size=s;apply jp5;simp
 have L:Hid (∀d x f,A=d++x::f->x.text.length<=s.size/\x.at_<=s.size):=fun d x f h=>by
  have hj:=jL s.data.toList;have ha:=(qX s.data.toList d x f (j.trans h)).2
  rw[j,h,jpo,jo5]at hj;have:=congrArg List.length hj
  simp only[joK]at this;rw[<- jo2]at this;have hb:x.text.length<=x.bytes.length:=by unfold Ln.bytes;rw[joK];omega
  omega
 clear j;refine callsIn_wide (n:=9).1 ?_;refine callsIn_of_wp_marks func48 rfl trivial ?_ rfl;simp only[ntmps48,jpN,joR,jpm,Nat.reduceAdd,Nat.reduceSub,jpK,jpL,jpU,jpQ,jpC,jo6];gi_wp2_with fail;refine⟨trivial,(callsIn_wide.2 (yL s _)).mono ?_⟩;rintro e w3 ⟨rfl,rfl⟩;gi_wp2_with fail;have k1:=((jqe w 9 (.string s)).alloc (.cells #[.string ⟨#[]⟩] 9)).alloc (.cells #[.string s] 9)
 have k2:=(xI w (.cells #[.string s] 9) 9 (.string ⟨#[]⟩)).alloc (.cells #[.string s] 9);have k3:=Vg w (.cells #[.string s] 9) (.cells #[.string ⟨#[]⟩] 9) 9 (.string s)
 have kb:Below w.heap.size w (((w.alloc (.cells #[.string s] 9)).alloc (.cells #[.string ⟨#[]⟩] 9)).alloc (.cells #[.string s] 9)):=(((joL _ w).alloc (joJ _) _).alloc (by simp) _).alloc (by simp;omega) _;have v:(((w.alloc (.cells #[.string s] 9)).alloc (.cells #[.string ⟨#[]⟩] 9)).alloc (.cells #[.string s] 9)).heap.size=w.heap.size+3:=by simp
 generalize ((w.alloc (.cells #[.string s] 9)).alloc (.cells #[.string ⟨#[]⟩] 9)).alloc (.cells #[.string s] 9)=w1 at *
 have X:∀k,k<=5->zU (w.heap.size+3) k (jof w s):=fun k hk d W N h t =>
  ⟨t.box h.1 (.inl (by omega)),t.box h.2.1 (.inl (by omega)),h.2.2.1.trans (t.below (by omega) h.2.2.1.size),h.2.2.2⟩
 refine yd (gf:=139) (lb:=#[.pointer (some ⟨w.heap.size+2,0,none⟩)]) rfl (enters_of func139 (by kernel_rfl) rfl) (U w1 _ k3 (by omega)) (fun _=>rfl)
  (jof w s) (joD w s) (by rw[v];exact X _ (by omega)) (fun c d W N h t=>by
   obtain⟨g,o,x,i,q⟩:=h;exact⟨g.trans (t.below (by rw[v];omega) g.size),o,x,i,t.box q (.inl (by rw[v];omega))⟩) ⟨k1,k2,kb,fun y h=>by cases h⟩
  (fun a d x O W=>∃m,w.heap.size+3+5<=m/\O={tmps:=(a.tmps.setIfInBounds 6 (.agg (qi x))).setIfInBounds 3 (.pointer (some ⟨m,0,none⟩)),defers:=[]}/\ja W m 157 (qi x)/\jof w s d W)
  ?hM ?assign ?body ?done ?stop
 case hM =>
  rw[v];rintro a d x O _ W N ⟨m,g,o,i,q⟩ t;exact⟨m,g,o,(t.same m i.lt (.inr (by omega))).trans i,X 2 (by omega) d W N q t⟩
 case assign =>
  rw[v];intro l d x f W hx C H;clear hx;dsimp only[qi];gi_wp2;exact⟨(vO.refl _ _ W).alloc C _,W.heap.size,by omega,rfl,ja.new _ _ _,H.1.alloc _,H.2.1.alloc _,H.2.2.1.alloc H.2.2.1.size _,H.2.2.2⟩
 case body =>
  rw[v];rintro l d x f O W hx C ⟨m,hB,rfl,K,g,o,i,q⟩;obtain⟨a8,aa⟩:=L.out d x f hx;clear hx;simp only[jo3,jpF,jpG,qi]at K ⊢;have p2:W.cell? ⟨m,2,none⟩=some (.string ⟨x.text.toArray⟩):=K.cell 2
  have R:=Fr.beginsF_any ⟨x.text.toArray⟩ (by show x.text.toArray.size<=_;simp;omega) W;have eb:(Fr.signB (⟨x.text.toArray⟩:ByteArray).data.toList&&decide (jm (⟨x.text.toArray⟩:ByteArray).data.toList=5))=Vi x.text:=rfl
  rw[eb]at R;gi_wp2_with fail;refine⟨trivial,((callsIn_wide.2 R).inRound l).mono ?_⟩;rintro e V ⟨rfl,D⟩;have st:vO (w.heap.size+3) (3+2) W V:=⟨D.size,fun r a b=>D.block r (by omega)⟩
  have Y:Boxed V w.heap.size 9 (.string s):=(D.block _ g.lt).trans g;have J:Boxed V (w.heap.size+1) 9 (.string ⟨#[]⟩):=(D.block _ o.lt).trans o
  have Z:Below w.heap.size w V:=i.trans (D.mono i.size);cases G:Vi x.text with
  | false =>
   gi_wp2;refine⟨st,Y,J,Z,fun y u => ?_⟩;rcases List.mem_append.1 u with u|u
   ·exact q y u
   rw[List.mem_singleton.1 u];exact G
  | true =>
  have Q:ja V m 157 _:=(D.block _ K.lt).trans K;have af:V.cell? ⟨m,1,none⟩=some (.int .i64 x.at_):=by rw[Q.cell];rfl
  have c1:=Y.cell;have c2:=J.cell
  have f2:=J.frozen;have P:(d++[x]).find? (fun y=>Vi y.text)=some x:=by rw[jrf,List.find?_eq_none.2 (fun y u=>by rw[q y u];simp),Option.none_or,jq8];simp[G]
  have ae:(x.at_:Int)<=s.size:=by omega
  gi_wp2;exact⟨st.setCell (p:=⟨w.heap.size+1,0,none⟩) (.inl (by show w.heap.size+1<_;omega)) _,Z.setCell (p:=⟨w.heap.size+1,0,none⟩) (by show w.heap.size<=w.heap.size+1;omega) _,rfl,x,P,jpV _ J⟩
 case done =>
  rw[v];rintro W ⟨g,o,i,q⟩ hmark;have c1:=g.cell
  have c2:=o.cell;have f2:=o.frozen
  have e:ya A s.size=s.size:=by unfold ya;rw[List.find?_eq_none.2 (fun y u=>by rw[q y u];simp)]
  have eu:s.extract 0 (ya A s.size)=s:=by rw[e];exact E.out
  gi_wp2;exact jh5 w _ (s.extract 0 (ya A s.size)) _ (by rw[eu];exact jpV _ o) ((jpw _ _ _ _ (by show w.heap.size+3≠w.heap.size+1;omega)).trans hmark) (i.setCell (p:=⟨w.heap.size+1,0,none⟩) (by show w.heap.size<=w.heap.size+1;omega) _) rfl
 case stop =>
 rw[v];rintro c d W I ⟨g,rfl,x,i,q⟩ hmark;have e:ya A s.size=x.at_:=by unfold ya;obtain⟨z,rfl⟩:=I;rw[jrf,i];rfl
 gi_wp2;exact jh5 w W (s.extract 0 (ya A s.size)) _ (by rw[e];exact q) hmark g rfl
theorem jkd(t:List UInt8)(a:t.length<=100000)(w:World):
  Calls prog 48 #[.string (B t)] w fun e b=>e=.returned (.string (B (vo t)))/\Below w.heap.size w b:=by
 have h:=jkc (B t) (by rw[jg];exact a) w;rw[jj,jg,Fr.ext_take]at h;exact h
end Bk
namespace Hd
attribute [local go_sem] joY
def MaxL(w:World):Prop:=∃m:Int,w.cell? ⟨0,0,none⟩=some (.int .i64 m)
theorem MaxL.below{w w':World}{N:Nat}(h:MaxL w)(b:Below N w w')(d:w.heap.size<=N):MaxL w':=by
 obtain⟨m,a⟩:=h;have c:0<w.heap.size:=by
  rcases jpc 0 w.heap.size with h|h
  ·exact h
  have:w.heap[0]?=none:=jpv h;simp[World.cell?,this]at a
 exact⟨m,(b.cell (p:=⟨0,0,none⟩) (by show 0<N;omega)).trans a⟩
structure Tab(w:World):Prop where
 nums:Fr.TabsN w
 max:MaxL w
theorem Tab.below{w w':World}{N:Nat}(h:Tab w)(b:Below N w w')(a:w.heap.size<=N):Tab w':=⟨h.nums.below b a,h.max.below b a⟩
theorem yU{w:World}(n:Nat)(os:Array Obj):Below w.heap.size w (Go.Sort.grow (w.drewN n) os) :=
 ⟨rfl,rfl,rfl,by rw[Go.Sort.size_grow];exact Nat.le_add_right _ _,fun k a=>jrm _ _ a⟩
theorem Yq(n:Nat)(g:n<=9223372036854775807)(w:World)(c:Tab w):Calls prog 167 #[.int .i64 (n:Int)] w fun e a=>e=.returned (.string (B (Lib.decDigits n)))/\Below w.heap.size w a :=
 (Tryz.strconv_Itoa n (by omega) (by omega) w c.nums.pow).mono fun e a ⟨b,k,f,d⟩=>⟨by rw[b,jpZ];rfl,by rw[d];exact yU k f⟩
theorem jdz(g:Nat)(i:1<=g)(c:g<=2147483648)(w:World)(a:Tab w):
  Calls prog 138 #[.int .i64 (g:Int)] w fun e h=>e=.returned (.tuple #[.string (B (zE g)),.nilIface])/\Below w.heap.size w h:=by
 have b:=joI (Yq g (by omega) w a);have E:Hid ((⟨#[35,37,103,101,110,32]⟩:ByteArray)++B (Lib.decDigits g) ++ ⟨#[10,10]⟩=B (zE g)):=by show _=_;rw[show(⟨#[35,37,103,101,110,32]⟩:ByteArray)=B Qp from rfl,show(⟨#[10,10]⟩:ByteArray)=B [10,10] from rfl,jn,jn];unfold zE;simp
 have j:(B (Lib.decDigits g)).size<=20:=by rw[jg];exact(jhN g c).2
 have k:¬(g:Int)<1:=by omega
 have l:¬(2147483648:Int)<g:=by omega
 generalize B (Lib.decDigits g)=d at *
 have m:((⟨#[35,37,103,101,110,32]⟩:ByteArray)++d).size<=26:=by rw[jpB];show 6+_<=_;omega
 clear a;go_enter func138,ntmps138;go_wp2_with fail;refine b.out.mono ?_;rintro e n ⟨rfl,f⟩;go_wp2_with fail;go_ret2;exact⟨by rw[<- E.out];rfl,f⟩
theorem jdy(g:Int)(h:g<1\/2147483648<g)(w:World):
  Calls prog 138 #[.int .i64 g] w fun e a=>e=.returned (.tuple #[.string (B []),Zc 1])/\a=w:=by
 by_cases b:g<1
 ·go_enter func138,ntmps138;go_wp2_with fail;go_ret2;exact⟨rfl,rfl⟩
 have c:(2147483648:Int)<g:=by omega
 go_enter func138,ntmps138;go_wp2_with fail;go_ret2;exact⟨rfl,rfl⟩
theorem Gf(g:Nat)(c:1<=g)(f:g<=2147483648)(w:World)(b:Tab w):
  Calls prog 80 #[.int .i64 (g:Int)] w fun e i=>e=.returned (.int .i64 (zE g).length)/\Below w.heap.size w i:=by
 have L:=joI (jdz g c f w b);have a:=jg (zE g)
 generalize B (zE g)=d at *
 rw[<- a];clear b a;go_enter func80,ntmps80;go_wp2_with fail;refine L.out.mono ?_;rintro e j ⟨rfl,h⟩;go_wp2_with fail;go_ret;exact⟨rfl,h⟩
theorem jlE(g:Int)(h:g<1\/2147483648<g)(w:World):
  Calls prog 80 #[.int .i64 g] w fun e a=>e=.returned (.int .i64 0)/\a=w:=by
 have L:=joI (jdy g h w);have b:(B []).size=0:=rfl
 go_enter func80,ntmps80;go_wp2_with fail;refine L.out.mono ?_;rintro e c ⟨rfl,rfl⟩;go_wp2_with fail;go_ret;exact⟨rfl,rfl⟩
def genP(t:List UInt8):Nat:=if 1<=qt (figs t)/\qt (figs t)<=2147483648/\Lib.hasPrefix t (zE (qt (figs t)).toNat)=true then (qt (figs t)).toNat else 0
theorem genP_is(t:List UInt8):xi t (genP t):=jjA t
theorem jfS(t:List UInt8)(w:World):Calls prog 136 #[.string (B t),.string ⟨#[35,37,103,101,110,32]⟩] w fun e a=>e=.returned (.string (B (Lib.trimPrefix t Qp)))/\a=w :=
 (Tryz.strings_TrimPrefix (B t) ⟨#[35,37,103,101,110,32]⟩ w).mono fun e a ⟨b,c⟩=>⟨by rw[b,jj];rfl,c⟩
theorem jj0(t:List UInt8)(f:t.length<=1000000)(w:World)(a:MaxL w):Calls prog 86 #[.string (B t),.string ⟨#[10,10]⟩] w fun e d=>(∃b c,e=.returned (.tuple #[.string (B (Lib.cut t [10,10]).1),.string b,.bool c]))/\Below w.heap.size w d:=by obtain⟨m,a⟩:=a;refine(Tryz.strings_Cut (B t) ⟨#[10,10]⟩ m w (by rw[jg];omega) a).mono ?_;rintro e d ⟨rfl,n,rfl⟩;rw[jj];exact⟨⟨_,_,rfl⟩,yp (joL _ _) n⟩
theorem jiU(a b:List UInt8)(w:World):Calls prog 91 #[.string (B a),.string (B b)] w fun e c=>e=.returned (.bool (Lib.hasPrefix a b))/\c=w :=
 (Tryz.strings_HasPrefix (B a) (B b) w).mono fun e c ⟨d,f⟩=>⟨by rw[d,jj,jj],f⟩
theorem jit(t p:List UInt8):(Lib.trimPrefix t p).length<=t.length:=by
 unfold Lib.trimPrefix;split
 ·rw[joX];omega
 omega
theorem jlX(t:List UInt8)(hl:t.length<=100000)(w:World)(l:Tab w):
  Calls prog 79 #[.string (B t)] w fun e L=>e=.returned (.int .i64 (genP t:Nat))/\Below w.heap.size w L:=by
 have u:=joI (jfS t);have J:=jjJ t
 have K:=jit t Qp;have n:=joI (fun W (m:Below w.heap.size w W)=>jj0 (Lib.trimPrefix t Qp) (by omega) W (l.max.below m (joJ _)))
 have s:=joI (fun W (m:Below w.heap.size w W)=>Fr.atoi_any (figs t) (by omega) W (l.nums.below m (joJ _)));have i:=joI (fun g W=>jiU t (zE g) W)
 unfold genP;rw[show(Lib.cut (Lib.trimPrefix t Qp) [10,10]).1=figs t from rfl]at n;generalize figs t=p at *
 generalize Lib.trimPrefix t Qp=y at *
 generalize qt p=v at *
 by_cases x:1<=v/\v<=2147483648
 ·obtain⟨g,rfl⟩:∃g:Nat,v=g:=⟨v.toNat,by omega⟩
  have o:=joI (fun W (m:Below w.heap.size w W)=>jdz g (by omega) (by omega) W (l.below m (joJ _)));have i:=joI (fun W=>i.out g W)
  rw[jqs];cases r:Lib.hasPrefix t (zE g) with
  | true =>
   rw[if_pos ⟨x.1,x.2,rfl⟩];rw[r]at i;clear l r;generalize B t=C at *
   generalize B (zE g)=I at *
   generalize B p=z at *
   generalize B y=A at *
   go_enter func79,ntmps79;go_wp2_with fail;refine(u.out _).mono ?_;rintro e D ⟨rfl,rfl⟩;go_wp2_with fail;refine(n.out _ (joL _ _)).mono ?_;rintro e E ⟨⟨b,c,rfl⟩,a⟩;go_wp2_with fail;refine(s.out _ a).mono ?_;rintro e G ⟨⟨T,q,rfl|rfl⟩,f⟩
   all_goals
    have d:=a.trans (f.mono a.size);go_wp2_with fail;refine(o.out _ d).mono ?_;rintro e H ⟨rfl,j⟩;have k:=d.trans (j.mono d.size)
    go_wp2_with fail;refine(i.out _).mono ?_;rintro e N ⟨rfl,rfl⟩;go_wp2_with fail;go_ret;exact⟨rfl,k⟩
  | false =>
  rw[if_neg (fun h=>Bool.noConfusion h.2.2)];rw[r]at i;clear l r;generalize B t=C at *
  generalize B (zE g)=I at *
  generalize B p=z at *
  generalize B y=A at *
  go_enter func79,ntmps79;go_wp2_with fail;refine(u.out _).mono ?_;rintro e D ⟨rfl,rfl⟩;go_wp2_with fail;refine(n.out _ (joL _ _)).mono ?_;rintro e E ⟨⟨b,c,rfl⟩,a⟩;go_wp2_with fail;refine(s.out _ a).mono ?_;rintro e G ⟨⟨T,q,rfl|rfl⟩,f⟩
  all_goals
   have d:=a.trans (f.mono a.size);go_wp2_with fail;refine(o.out _ d).mono ?_;rintro e H ⟨rfl,j⟩;have k:=d.trans (j.mono d.size)
   go_wp2_with fail;refine(i.out _).mono ?_;rintro e N ⟨rfl,rfl⟩;go_wp2_with fail;go_ret;exact⟨rfl,k⟩
 rw[if_neg (fun h=>x ⟨h.1,h.2.1⟩)];have o:=joI (fun W=>jdy v (by omega) W)
 clear l i;generalize B t=C at *
 generalize B p=z at *
 generalize B y=A at *
 go_enter func79,ntmps79;go_wp2_with fail;refine(u.out _).mono ?_;rintro e D ⟨rfl,rfl⟩;go_wp2_with fail;refine(n.out _ (joL _ _)).mono ?_;rintro e E ⟨⟨b,c,rfl⟩,a⟩;go_wp2_with fail;refine(s.out _ a).mono ?_;rintro e G ⟨⟨T,q,rfl|rfl⟩,f⟩
 all_goals
  have d:=a.trans (f.mono a.size);go_wp2_with fail;refine(o.out _).mono ?_;rintro e H ⟨rfl,rfl⟩;rw[zf 1 (by omega)];go_wp2_with fail;go_ret;exact⟨rfl,d⟩
def lenP(n:Nat):Nat:=if 1<=n/\n<=2147483648 then (zE n).length else 0
theorem lenP_call(n:Nat)(w:World)(b:Tab w):Calls prog 80 #[.int .i64 (n:Int)] w fun e a=>e=.returned (.int .i64 (lenP n:Nat))/\Below w.heap.size w a:=by
 unfold lenP;by_cases h:1<=n/\n<=2147483648
 ·rw[if_pos h];exact Gf n h.1 h.2 w b
 rw[if_neg h];refine(jlE n (by omega) w).mono ?_;rintro e a ⟨rfl,rfl⟩;exact⟨rfl,joL _ _⟩
theorem jlG{t:List UInt8}{n:Nat}(h:xi t n):lenP n<=t.length:=by
 unfold lenP;split
 ·rename_i a;obtain⟨r,rfl⟩:=jlW h a.1;simp
 omega
theorem jcm{w W a:World}(h:Below w.heap.size w W)(b:Below W.heap.size W a):Below w.heap.size w a:=h.trans (b.mono h.size)
theorem take_any(t:List UInt8)(hl:t.length<=100000)(w:World)(j:Tab w):
  Calls prog 47 #[.string (B t)] w fun e r=>e=.returned (.tuple #[.int .i64 (genP t:Nat),.string (B (t.drop (lenP (genP t))))])/\Below w.heap.size w r:=by
 have G:=joI (jlX t hl w j);have i:=jlG (genP_is t)
 have L:=joI (fun W (c:Below w.heap.size w W)=>lenP_call (genP t) W (j.below c (joJ _)));have p:Hid ((B t).extract (lenP (genP t)) (B t).size=B (t.drop (lenP (genP t)))):=by
  show _=_;have e:=jqB (B t) (lenP (genP t))
  rw[jj]at e;rw[<- jfB ((B t).extract _ _),e]
 have l:=jg t;rw[<- l]at i hl;generalize lenP (genP t)=k at *
 generalize genP t=g at *
 generalize B t=o at *
 clear l j;have q:(k:Int)<=(o.size:Int):=by omega
 have u:(0:Int)<=(k:Int):=by omega
 go_enter func47,ntmps47;go_wp2_with fail;refine G.out.mono ?_;rintro e a ⟨rfl,b⟩;have n:=joI (show ∀W,Below a.heap.size a W->Below a.heap.size a W from fun W h=>h)
 have m:=joI (fun W (c:Below a.heap.size a W)=>L.out W (b.trans (c.mono b.size)));go_wp2_with fail;go_region_held3 (fun W=>Below a.heap.size a W) ((refine n.out _ ?_;repeat (first | exact joL _ _ | assumption | (refine Below.drew ?_) | (refine jcm ?_ (by assumption))))) ((go_at_call 80;refine(m.out _ ?_).mono ?_;(focus (repeat (first | exact joL _ _ | assumption | (refine Below.drew ?_) | (refine jcm ?_ (by assumption)))));rintro e s ⟨rfl,d⟩))
 all_goals go_wp2_with fail
 all_goals
  go_ret2;have f:Below a.heap.size a s:=jcm (Below.drew (joL _ _)) d
  exact⟨by rw[<- p.out];rfl,b.trans (f.mono b.size)⟩
theorem Kt{c:UInt8}(d:UInt8)(n:Int)(a:(d.toNat:Int)=n):((c.toNat:Int)==n)=(c==d):=by
 by_cases h:c=d
 ·subst h;simp[a]
 have:(c.toNat:Int)≠n:=by intro e;apply h;apply UInt8.toNat_inj.1;omega
 rw[beq_eq_false_iff_ne.2 this];simp[h]
structure Stop(t:List UInt8)(i:Nat):Prop where
 sign:t.take 6=Qp
 ge:6<=i
 le:i<=t.length
 no:(10:UInt8)∉(t.take i).drop 6
def jfG(t:List UInt8)(i:Nat):List UInt8:=(t.take i).drop 6
theorem Stop.form{t:List UInt8}{i:Nat}(h:Stop t i):t=Qp++(jfG t i++t.drop i):=by
 have e:t.take i=Qp++jfG t i:=by
  have a:(t.take i).take 6=Qp:=by rw[jrd,jq5 h.ge];exact h.sign
  conv=>lhs;rw[<- jpb 6 (t.take i),a]
  rfl
 conv=>lhs;rw[<- jpb i t,e,jo0]
theorem Stop.end_{t:List UInt8}{i:Nat}(h:i=t.length\/t[i]?=some 10):t.drop i=[]\/∃q,t.drop i=10::q:=by
 rcases h with h|h
 ·left;rw[h];simp
 obtain⟨a,b⟩:=List.getElem?_eq_some_iff.1 h;right;exact⟨t.drop (i+1),by rw[jpp a,b]⟩
theorem jmf{g:Nat}(a:g<=2147483648):Fr.numL (Lib.decDigits g)=some (g:Int):=Fr.numL_some.2 ⟨by constructor<;>omega,by rw[jpZ]⟩
theorem Stop.no_num{t:List UInt8}{i:Nat}(h:Stop t i)(b:i=t.length\/t[i]?=some 10)(c:∀n,Fr.numL (jfG t i)=some n->n<1\/2147483648<n):xi t 0:=by
 rw[h.form];refine jg9 h.no (fun g d a=>.inl fun e => ?_) (Stop.end_ b);have:=c g (by rw[e];exact jmf a)
 omega
theorem Stop.one{t:List UInt8}{i:Nat}(h:Stop t i)(a:i=t.length\/t[i]?=some 10)(b:t[i+1]?≠some 10):xi t 0:=by
 rw[h.form];refine jg9 h.no (fun g c d=>.inr fun q e=>b ?_) (Stop.end_ a);have:(t.drop i)[1]?=some 10:=by rw[e];rfl
 rwa [jpq]at this
theorem Stop.yes{t:List UInt8}{i g:Nat}(h:Stop t i)(f:1<=g)(j:g<=2147483648)(n:t[i]?=some 10)(c:t[i+1]?=some 10)(o:Fr.numL (jfG t i)=some (g:Int)):xi t g/\lenP g=i+2:=by
 have k:jfG t i=Lib.decDigits g:=by have:=(Fr.numL_some.1 o).2;rw[jpZ]at this;exact this.symm
 obtain⟨d,m⟩:=List.getElem?_eq_some_iff.1 n;obtain⟨a,b⟩:=List.getElem?_eq_some_iff.1 c;have e:t.drop i=10::10::t.drop (i+2):=by rw[jpp d,m,jpp a,b]
 have l:=h.form;rw[e]at l;refine⟨by rw[l];exact jlV h.no f j k,?_⟩;unfold lenP;rw[if_pos ⟨f,j⟩];unfold zE;have hl:(jfG t i).length=i-6:=by unfold jfG;rw[joX,joS];have:=h.le;omega
 rw[<- k];simp only[joK,hl,joR,jpm];have:=h.ge
 show 6+_=_;omega
theorem YN(n:Int)(w:World):Calls prog 96 #[.int .i64 n] w fun e g=>e=.returned (.bool (decide (1<=n/\n<=2147483648)))/\g=w:=by
 have c:=joI (fun(h:1<=n/\n<=2147483648)=>congrArg (fun b=>Ending.returned (.bool b)) (decide_eq_true h).symm);have a:=joI (fun(h:¬(1<=n/\n<=2147483648))=>congrArg (fun b=>Ending.returned (.bool b)) (decide_eq_false h).symm)
 generalize decide (1<=n/\n<=2147483648)=q at *
 by_cases d:1<=n
 ·by_cases f:n<=2147483648
  ·go_enter func96,ntmps96;go_wp2_with fail;go_ret;exact⟨c.out ⟨d,f⟩,rfl⟩
  go_enter func96,ntmps96;go_wp2_with fail;go_ret;exact⟨a.out (fun h=>absurd h.2 (by omega)),rfl⟩
 go_enter func96,ntmps96;go_wp2_with fail;go_ret;exact⟨a.out (fun h=>absurd h.1 (by omega)),rfl⟩
theorem xM{s:ByteArray}{k:Nat}(h:k<s.size):s.data.toList[k]?=some s[k]:=by rw[joM (by rw[<- jo2];exact h)];rfl
theorem jlt{s:ByteArray}{k:Nat}(f:6<=k)(h:k<s.size)(d:(10:UInt8)∉(s.data.toList.take k).drop 6)(b:(s[k]==10)=false):(10:UInt8)∉(s.data.toList.take (k+1)).drop 6:=by
 have hl:k<s.data.toList.length:=by rw[<- jo2];exact h
 rw[jqo hl,jqv (by rw[joS];omega)];intro a;rcases List.mem_append.1 a with a|a
 ·exact d a
 have e:(10:UInt8)=s.data.toList[k]:=by simpa using a
 have c:s.data.toList[k]=s[k]:=rfl;rw[<- c,<- e]at b;simp at b
theorem jdP(s:ByteArray)(a b:Nat):s.extract a b=B ((s.data.toList.take b).drop a):=by rw[<- jfB (s.extract a b),jpS];congr 1;rw[List.drop_take]
theorem drop_zero(s:ByteArray):B (s.data.toList.drop (lenP 0))=s:=by rw[show lenP 0=0 from rfl,jp2,jfB]
theorem reftake_any(s:ByteArray)(hs:s.size<=100000)(n:Nat)(A:xi s.data.toList n)(w:World):
  Calls prog 53 #[.string s] w fun e w'=>e=.returned (.tuple #[.int .i64 (n:Int),.string (B (s.data.toList.drop (lenP n)))])/\Below w.heap.size w w':=by
 have y:=joI (jo2 s);have r:=joI (drop_zero s)
 by_cases h9:s.size<9
 ·obtain rfl:=gen_one A (gen_short (by rw[<- y.out];exact h9));rw[r.out];have q:decide ((s.size:Int)<9)=true:=by simp;omega
  go_enter func53,ntmps53;go_wp2_with fail;go_ret2;exact⟨rfl,joL _ _⟩
 have q:decide ((s.size:Int)<9)=false:=by simp;omega
 have x6:s.extract 0 6=B (s.data.toList.take 6):=by rw[jdP,jp2]
 have c6:(6:Int)<=(s.size:Int):=by omega
 have Y:((B (s.data.toList.take 6)).toList==[35,37,103,101,110,32])=decide (s.data.toList.take 6=Qp):=by rw[jpn,jj,jpI];unfold Qp;simp
 by_cases p:s.data.toList.take 6=Qp;rotate_left
 ·obtain rfl:=gen_one A (je3 p);rw[r.out];rw[decide_eq_false p]at Y;generalize B (s.data.toList.take 6)=V at *
  go_enter func53,ntmps53;go_wp2_with fail;go_ret2;exact⟨rfl,joL _ _⟩
 rw[decide_eq_true p]at Y;have Q:=joI (fun(l:List UInt8) (hl:l.length<=1000000) W=>Fr.number_any l hl W)
 have x:=joI A;have J:=joI p
 clear A p;generalize B (s.data.toList.take 6)=V at *
 go_enter func53,ntmps53;go_wp2_with fail;go_loop [4] (fun i=>∃k:Nat,k<=s.size/\6<=k/\i=.int .i64 k/\(10:UInt8)∉(s.data.toList.take k).drop 6) (fun i=>s.size-(intOf i).toNat)
 case atStart=>exact⟨6,by omega,joJ _,rfl,by rw[jpE (by rw[joS];omega)];simp⟩
 case round =>
 obtain⟨k,hk,X,rfl,o⟩:=hrel;have D:=joI (show Stop s.data.toList k from⟨J.out,X,by rw[<- y.out];exact hk,o⟩)
 have P:s.extract 6 k=B (jfG s.data.toList k):=jdP s 6 k;have m:(jfG s.data.toList k).length<=1000000:=by unfold jfG;rw[joX,joS];omega
 have a7:(6:Int)<=(k:Int):=by omega
 have a8:(k:Int)<=(s.size:Int):=by omega
 by_cases G:k<s.size
 ·have R:=Kt (c:=s[k]) 10 10 rfl;cases z:(s[k]==10) with
  | false =>
   rw[z]at R;have I:=joI (jlt X G o z)
   clear o z P m;go_wp2_with fail;go_round
   case rel=>exact⟨k+1,by omega,by omega,by go_num,I.out⟩
   case measure=>simp[intOf];omega
  | true =>
  rw[z]at R;have H:Hid (s.data.toList[k]?=some 10):=by show _=_;rw[xM G];congr 1;simpa using z
  have b:=joI (Q.out _ m);have K:=joI (D.out.no_num (.inr H.out))
  have t:=joI (D.out.one (.inr H.out));have L:=joI (fun g h1 h2 O A=>D.out.yes (g:=g) h1 h2 H.out O A)
  have C:=joI (fun(h:k+1<s.size)=>xM h);unfold Fr.numEnd at b;generalize jfG s.data.toList k=N at *
  clear o z m;cases a:Fr.numL N with
  | none =>
   obtain rfl:=gen_one x.out (K.out (fun n h=>by rw[a]at h;cases h));rw[a]at b;clear a;go_wp2_with fail;refine(b.out _).mono ?_;rintro e f ⟨rfl,rfl⟩;go_wp2_with fail;go_ret2;exact⟨by rw[r.out];rfl,joL _ _⟩
  | some v =>
  have j:=joI (fun W=>YN v W);by_cases u:1<=v/\v<=2147483648;rotate_left
  ·obtain rfl:=gen_one x.out (K.out (fun n h=>by rw[a]at h;cases h;omega));rw[a]at b;rw[decide_eq_false u]at j;clear a;go_wp2_with fail;refine(b.out _).mono ?_;rintro e f ⟨rfl,rfl⟩;go_wp2_with fail;refine(j.out _).mono ?_;rintro e f ⟨rfl,rfl⟩;go_wp2_with fail;go_ret2;exact⟨by rw[r.out];rfl,joL _ _⟩
  rw[decide_eq_true u]at j;obtain⟨g,rfl⟩:∃g:Nat,v=g:=⟨v.toNat,by omega⟩
  by_cases E:k+1<s.size;rotate_left
  ·obtain rfl:=gen_one x.out (t.out (by rw[jpe (by rw[<- y.out];omega)];simp));rw[a]at b;have q2:decide (((k:Int)+1) >= (s.size:Int))=true:=by simp;omega
   have q3:(s.size:Int)<=(k:Int)+1:=by omega
   clear a;go_wp2_with fail;refine(b.out _).mono ?_;rintro e f ⟨rfl,rfl⟩;go_wp2_with fail;refine(j.out _).mono ?_;rintro e f ⟨rfl,rfl⟩;go_wp2_with fail;go_ret2;exact⟨by rw[r.out];rfl,joL _ _⟩
  have q2:decide ((s.size:Int)<=(k:Int)+1)=false:=decide_eq_false (by omega);have U:=Kt (c:=s[k+1]) 10 10 rfl
  cases d:(s[k+1]==10) with
  | false =>
   obtain rfl:=gen_one x.out (t.out (by rw[C.out E];intro h;have h:=joN h;rw[h]at d;simp at d));rw[a]at b;rw[d]at U;clear a d;go_wp2_with fail;refine(b.out _).mono ?_;rintro e f ⟨rfl,rfl⟩;go_wp2_with fail;refine(j.out _).mono ?_;rintro e f ⟨rfl,rfl⟩;go_wp2_with fail;go_ret2;exact⟨by rw[r.out];rfl,joL _ _⟩
  | true =>
  obtain⟨Z,y2⟩:=L.out g (by omega) (by omega) (by rw[C.out E];congr 1;simpa using d) a;obtain rfl:=gen_one x.out Z;have Y2:=joI y2
  have E2:Hid (s.extract (k+2) s.size=B (s.data.toList.drop (k+2))):=by show _=_;rw[<- jfB (s.extract _ _),jqB]
  rw[a]at b;rw[d]at U;have k2:(k:Int)+2<=(s.size:Int):=by omega
  have k3:(0:Int)<=(k:Int)+2:=by omega
  clear a d Z y2;go_wp2_with fail;refine(b.out _).mono ?_;rintro e f ⟨rfl,rfl⟩;go_wp2_with fail;refine(j.out _).mono ?_;rintro e f ⟨rfl,rfl⟩;go_wp2_with fail;go_quiet (fail);go_wp2_with fail;go_ret2;exact⟨by rw[Y2.out,<- E2.out];rfl,yp (joL _ _) _⟩
 obtain rfl:k=s.size:=by omega
 have b:=joI (Q.out _ m);have K:=joI (D.out.no_num (.inl y.out))
 have t:=joI (D.out.one (.inl y.out));unfold Fr.numEnd at b;generalize jfG s.data.toList s.size=N at *
 clear o m;obtain rfl:=gen_one x.out (t.out (by rw[jpe (by rw[<- y.out];omega)];simp));cases a:Fr.numL N with
 | none =>
  rw[a]at b;clear a;go_wp2_with fail;refine(b.out _).mono ?_;rintro e f ⟨rfl,rfl⟩;go_wp2_with fail;go_ret2;exact⟨by rw[r.out];rfl,joL _ _⟩
 | some v =>
 have j:=joI (fun W=>YN v W);rw[a]at b;clear a;have q3:(s.size:Int)<=(s.size:Int)+1:=by omega
 cases u:decide (1<=v/\v<=2147483648) with
 | false =>
  rw[u]at j;clear u;go_wp2_with fail;refine(b.out _).mono ?_;rintro e f ⟨rfl,rfl⟩;go_wp2_with fail;refine(j.out _).mono ?_;rintro e f ⟨rfl,rfl⟩;go_wp2_with fail;go_ret2;exact⟨by rw[r.out];rfl,joL _ _⟩
 | true =>
 rw[u]at j;clear u;go_wp2_with fail;refine(b.out _).mono ?_;rintro e f ⟨rfl,rfl⟩;go_wp2_with fail;refine(j.out _).mono ?_;rintro e f ⟨rfl,rfl⟩;go_wp2_with fail;go_ret2;exact⟨by rw[r.out];rfl,joL _ _⟩
end Hd
end Go.Proofs.YtbapfpekklcicaaGreatDoor
