/- Texts put together:CD,DF,DG,DH,DI,DJ. -/
import Derived.Test.YtbapfpekklcicaaGreatDoorBtx25
set_option linter.unusedVariables false
set_option maxRecDepth 100000
set_option maxHeartbeats 16000000
namespace Go.Proofs.YtbapfpekklcicaaGreatDoor
open Go.RowKit Go.Shelf Tryz
abbrev jpB:=@ByteArray.size_append
abbrev jrm:=@Go.Sort.heap_grow_old
namespace Sm
theorem jlQ:∀c:Fin 256,Lib.indexByte DIG (UInt8.ofNat c.val)=ix c.val:=by decide +kernel
theorem idx(c:UInt8):Lib.indexByte DIG c=ix c.toNat:=by have:=jlQ ⟨c.toNat,c.toNat_lt⟩;simpa using this
def takeV(l:List UInt8):Value:=match takes l with
 | some n=>.tuple #[.int .u32 (n:Nat),.bool true]
 | none=>.tuple #[.int .u32 0,.bool false]
theorem jfZ{l:List UInt8}(h:l.length≠8):takeV l=.tuple #[.int .u32 0,.bool false]:=by unfold takeV takes;rw[if_neg h]
theorem jed{l:List UInt8}{n:Nat}(hl:l.length=8)(h:tk 0 l=some n):takeV l=.tuple #[.int .u32 (n:Nat),.bool true]:=by unfold takeV takes;rw[if_pos hl,h]
theorem jee{l:List UInt8}(hl:l.length=8)(h:tk 0 l=none):takeV l=.tuple #[.int .u32 0,.bool false]:=by unfold takeV takes;rw[if_pos hl,h]
theorem or4(x d:Nat)(hx:x<4294967296)(a:d<16):bits .or .u32 ((x:Int)*16 % 4294967296) (d:Int)=((x*16 % 4294967296+d:Nat):Int):=by
 have e:((x:Int)*16 % 4294967296)=((x*16 % 4294967296:Nat):Int):=by omega
 rw[e,u32_or_nat _ _ (jq2 _ (by decide)) (by omega),nat_join 4 _ _ (by omega) (by omega)]
theorem ja7(c:UInt8)(w:World):
  Calls prog 191 #[.string ⟨#[48,49,50,51,52,53,54,55,56,57,97,98,99,100,101,102]⟩,.int .u8 (c.toNat:Int)] w fun e d=>e=.returned (.int .i64 (ix c.toNat))/\w=d :=
 (Tryz.strings_IndexByte _ _ w).mono fun _ _ ⟨a,b⟩=>⟨by rw[a];exact jb3 (by rw[<- idx c];simp[DIG]),b.symm⟩
theorem jeU(c:UInt8)(h:val c.toNat=none)(w:World):
  Calls prog 191 #[.string ⟨#[48,49,50,51,52,53,54,55,56,57,97,98,99,100,101,102]⟩,.int .u8 (c.toNat:Int)] w fun e d=>e=.returned (.int .i64 (-1))/\w=d :=
 (ja7 c w).mono fun _ _ ⟨a,b⟩=>⟨by rw[a,ix,h],b⟩
theorem jeT(c:UInt8)(d:Nat)(h:val c.toNat=some d)(w:World):
  Calls prog 191 #[.string ⟨#[48,49,50,51,52,53,54,55,56,57,97,98,99,100,101,102]⟩,.int .u8 (c.toNat:Int)] w fun e f=>e=.returned (.int .i64 (d:Int))/\w=f :=
 (ja7 c w).mono fun _ _ ⟨a,b⟩=>⟨by rw[a,ix,h],b⟩
theorem take_any(s:ByteArray)(w:World)(p:s.size<=maxLen):
  Calls prog 149 #[.string s] w fun e q=>e=.returned (takeV s.data.toList)/\w=q:=by
 unfold maxLen at p;by_cases g:s.size=8
 ·have j:((s.size:Int) != 8)=false:=by simp[g]
  have m:=joI g;have o:s.size<=8:=by omega
  clear g;go_enter func149,ntmps149;go_wp2_with fail;go_loop [4,12] (fun r i=>∃k x:Nat,k<=s.size/\x<4294967296/\i=.int .i64 k/\r=.int .u32 (x:Nat)/\tk 0 s.data.toList=tk x (s.data.toList.drop k)) (fun _ i=>s.size-(intOf i).toNat)
  case atStart=>exact⟨0,0,by omega,by omega,rfl,rfl,rfl⟩
  case round =>
  obtain⟨k,x,v,hx,rfl,rfl,f⟩:=hrel;have h:=joI f
  clear f;by_cases l:k<s.size
  ·have a:s.data.toList.drop k=s[k]::s.data.toList.drop (k+1):=by rw[jpp (by simpa using l)];rfl
   cases b:val s[k].toNat with
   | none =>
    have c:Hid (tk 0 s.data.toList=none):=by show _=_;rw[h.out,a,tk,b]
    clear a;go_wp2_with fail;refine(jeU _ b _).mono ?_;clear b;rintro e t ⟨rfl,rfl⟩;go_wp2_with fail;go_ret2;exact⟨by rw[jee (by simpa using m.out) c.out];rfl,rfl⟩
   | some d =>
   have n:=jmD b;have c:Hid (tk 0 s.data.toList=tk (x*16 % 4294967296+d) (s.data.toList.drop (k+1))):=by show _=_;rw[h.out,a,tk,b]
   clear a;have y:=or4 x d hx n
   go_wp2_with fail;refine(jeT _ _ b _).mono ?_;clear b;rintro e t ⟨rfl,rfl⟩;go_wp2_with fail;go_round
   case rel=>exact⟨k+1,x*16 % 4294967296+d,by omega,by omega,by go_num,rfl,c.out⟩
   case measure=>simp[intOf];omega
  have c:Hid (tk 0 s.data.toList=some x):=by show _=_;rw[h.out,jpE (by simp;omega)];rfl
  go_wp2;go_ret2;exact⟨by rw[jed (by simpa using m.out) c.out];rfl,rfl⟩
 have u:(!((s.size:Int)==8))=true:=by simp;omega
 have j:((s.size:Int) != 8)=true:=by simp;omega
 go_enter func149,ntmps149;go_wp2_with fail;go_ret2;exact⟨by rw[jfZ (by simpa using g)];rfl,rfl⟩
theorem takeV_of{l:List UInt8}{n:Nat}(h:takes l=some n):takeV l=.tuple #[.int .u32 (n:Nat),.bool true]:=by unfold takeV;rw[h]
theorem takeV_not{l:List UInt8}(h:takes l=none):takeV l=.tuple #[.int .u32 0,.bool false]:=by unfold takeV;rw[h]
theorem jfX(s:ByteArray)(h:takes s.data.toList=none)(w:World)(b:s.size<=maxLen):
  Calls prog 149 #[.string s] w fun e d=>e=.returned (.tuple #[.int .u32 0,.bool false])/\w=d :=
 (take_any s w b).mono fun _ _ ⟨a,c⟩=>⟨by rw[a,takeV_not h],c⟩
end Sm
namespace Fr
attribute [local go_sem] joY
theorem mkB(l:List UInt8):(⟨l.toArray⟩:ByteArray)=B l:=rfl
theorem fits_any(n:Int)(w:World):Calls prog 150 #[.int .i64 n] w fun e c=>e=.returned (.bool (decide (2<=n/\n<=50000)))/\c=w:=by
 by_cases a:2<=n
 ·by_cases b:n<=50000
  ·have e:decide (2<=n/\n<=50000)=true:=by simp[a,b]
   rw[e];go_enter func150,ntmps150;go_wp2_with fail;go_ret;exact⟨rfl,rfl⟩
  have e:decide (2<=n/\n<=50000)=false:=by simp[b]
  rw[e];go_enter func150,ntmps150;go_wp2_with fail;go_ret;exact⟨rfl,rfl⟩
 have e:decide (2<=n/\n<=50000)=false:=by simp[a]
 rw[e];go_enter func150,ntmps150;go_wp2_with fail;go_ret;exact⟨rfl,rfl⟩
theorem QR(w:World):Calls prog 87 #[.bool true] w fun e a=>e=.returned (.tuple #[.int .i64 2,.string (B []),.int .i64 0])/\a=w:=by go_enter func87,ntmps87;go_wp2_with fail;go_ret3;exact⟨rfl,rfl⟩
theorem ZN(w:World):Calls prog 87 #[.bool false] w fun e a=>e=.returned (.tuple #[.int .i64 3,.string (B []),.int .i64 0])/\a=w:=by go_enter func87,ntmps87;go_wp2_with fail;go_ret3;exact⟨rfl,rfl⟩
theorem yU{w:World}(n:Nat)(os:Array Obj):Below w.heap.size w (Go.Sort.grow (w.drewN n) os) :=
 ⟨rfl,rfl,rfl,by rw[Go.Sort.size_grow];exact Nat.le_add_right _ _,fun k a=>jrm _ _ a⟩
theorem Yq(n:Nat)(g:n<=9223372036854775807)(w:World)(c:TabsN w):Calls prog 167 #[.int .i64 (n:Int)] w fun e a=>e=.returned (.string (B (Lib.decDigits n)))/\Below w.heap.size w a :=
 (Tryz.strconv_Itoa n (by omega) (by omega) w c.pow).mono fun e a ⟨b,k,f,d⟩=>⟨by rw[b,jpZ];rfl,by rw[d];exact yU k f⟩
theorem GG(n:Nat)(a:n<=9223372036854775807):(B (Lib.decDigits n)).size<=20:=by rw[jg,jpY];exact jqA n (by omega)
theorem Gk(n:Nat)(a:n<=9223372036854775807)(f:List UInt8)(i:f.length<=1000000)(w:World)(b:TabsN w):
  Calls prog 124 #[.int .i64 (n:Int),.string (B f)] w fun e k=>e=.returned (.string (B (jP n f)))/\Below w.heap.size w k:=by
 have c:=joI (Yq n a w b);have E:Hid ((⟨#[37,97,109,101,110,100,32]⟩:ByteArray)++B (Lib.decDigits n) ++ ⟨#[32]⟩++B f=B (jP n f)):=by show _=_;rw[show(⟨#[37,97,109,101,110,100,32]⟩:ByteArray)=B AMD from rfl,show(⟨#[32]⟩:ByteArray)=B [32] from rfl,jn,jn,jn];unfold jP;simp
 have l:=GG n a;have j:(B f).size<=1000000:=by rw[jg];exact i
 generalize B (Lib.decDigits n)=d at *
 generalize B f=g at *
 have m:((⟨#[37,97,109,101,110,100,32]⟩:ByteArray)++d).size<=27:=by rw[jpB];show 7+_<=_;omega
 have o:((⟨#[37,97,109,101,110,100,32]⟩:ByteArray)++d ++ ⟨#[32]⟩).size<=28:=by rw[jpB];show _+1<=_;omega
 clear b;go_enter func124,ntmps124;go_wp2_with fail;refine c.out.mono ?_;rintro e p ⟨rfl,h⟩;go_wp2_with fail;go_ret;exact⟨by rw[<- E.out];rfl,h⟩
theorem jdK(n:Nat)(a:n<=9223372036854775807)(w:World)(b:TabsN w):
  Calls prog 127 #[.int .i64 (n:Int)] w fun e g=>e=.returned (.string (B (zj n)))/\Below w.heap.size w g:=by
 have c:=joI (Yq n a w b);have E:Hid ((⟨#[37,101,110,100,32]⟩:ByteArray)++B (Lib.decDigits n) ++ ⟨#[10]⟩=B (zj n)):=by show _=_;rw[show(⟨#[37,101,110,100,32]⟩:ByteArray)=B END from rfl,show(⟨#[10]⟩:ByteArray)=B [10] from rfl,jn,jn];unfold zj;simp
 have h:=GG n a;generalize B (Lib.decDigits n)=d at *
 have i:((⟨#[37,101,110,100,32]⟩:ByteArray)++d).size<=25:=by rw[jpB];show 5+_<=_;omega
 clear b;go_enter func127,ntmps127;go_wp2_with fail;refine c.out.mono ?_;rintro e j ⟨rfl,f⟩;go_wp2_with fail;go_ret;exact⟨by rw[<- E.out];rfl,f⟩
end Fr
namespace Fr
open Go.Lib
def ZW(x:Ln):Bool:=x.ended&&hasPrefix x.text [32]
theorem jda:∀(h:List UInt8),(10:UInt8)∉h->sp false h=true/\fresh false h=false
 | [],_=>⟨rfl,rfl⟩
 | c::h,b=>by
  have a:c≠10:=fun e=>b (e▸joV);have f:=jda h (fun q=>b (joU _ q))
  have e:(c==10)=false:=by simpa using a
  refine⟨by simp[sp,e,f.1],?_⟩;have:=f.2
  unfold fresh at *
  rw[List.getLast?_cons];cases hl:h.getLast? with
  | none=>simpa using a
  | some d=>rw[hl]at this;simpa using this
theorem jf8(h:List UInt8)(f:(10:UInt8)∉h):sp true (h++[10])=hasPrefix h [32]:=by
 cases h with
 | nil=>rfl
 | cons c h =>
 have b:c≠10:=fun e=>f (e▸joV);have d:=jda h (fun q=>f (joU _ q))
 have e:(c==10)=false:=by simpa using b
 rw[jo6];unfold sp;rw[e,qo,d.1,d.2];by_cases a:c=32
 ·subst a;rfl
 have g:(c==32)=false:=by simpa using a
 have i:hasPrefix (c::h) [32]=((32==c)&&true):=by simp[hasPrefix,List.isPrefixOf]
 have j:((32:UInt8)==c)=false:=by simpa using fun e=>a e.symm
 rw[g,i,j];rfl
theorem Ja:∀{l:List UInt8},(10:UInt8)∈head l->False
 | [],h=>by simp[head]at h
 | c::l,h=>by
  unfold head at h;rw[jpy]at h;by_cases a:c=10
  ·subst a;simp at h
  have e:(c != 10)=true:=by simpa using a
  rw[if_pos e]at h;rcases List.mem_cons.1 h with h|h
  ·exact a h.symm
  exact Ja h
theorem Ww:∀(n f a:Nat) (l:List UInt8),l.length<=n->((jR f a l).all ZW=true↔(sp true l=true/\(l=[]\/vH l=true)))
 | n,f,a,l,i=>by
  by_cases d:l=[]
  ·subst d;simp[jr,sp]
  rw[jC f a l d,jqG];have m:=zu l
  have w:=qP l d;have k:=Ua l
  have q:(10:UInt8)∉head l:=by intro t;exact Ja t
  cases b:nl l with
  | false =>
   have g:(10:UInt8)∉l:=by unfold nl at b;simpa using b
   have:vH l=false:=by
    unfold vH;cases s:l.getLast? with
    | none=>rfl
    | some c =>
    have:=List.mem_of_getLast? s;have:c≠10:=fun e=>g (e▸this)
    simpa using this
   simp[ZW,this,d]
  | true =>
  match n,i with
  | 0,i=>exact absurd (jpP (by omega)) d
  | n+1,i =>
  have u:=Ww n (f+1) (a+qK l) (l.drop (qK l)) (by rw[joX];omega);rw[b,if_pos rfl]at m;rw[jpk,u];generalize l.drop (qK l)=r at *
  generalize v:head l=h at *
  subst m;rw[qo,jf8 h q,VM h [10] true (by simp)];have o:fresh true ([10]:List UInt8)=true:=rfl
  rw[o];have p:vH (h++[10]++r)=true↔(r=[]\/vH r=true):=by
   unfold vH;rw[List.getLast?_append];cases j:r.getLast? with
   | none=>rw[List.getLast?_eq_none_iff.1 j];simp
   | some c =>
   have:r≠[]:=fun e=>by rw[e]at j;cases j
   simp[this]
  rw[p];simp[ZW,and_assoc]
theorem jlU(l:List UInt8):goodR l=(decide (2<=(l.length:Int)/\(l.length:Int)<=50000)&&(jf l).all ZW):=by
 rw[jpI,good_iff,jpk];unfold jf;rw[Ww l.length 0 0 l (joJ _)];constructor
 ·rintro⟨a,b,c,d⟩;exact⟨by simp;omega,d,.inr c⟩
 rintro⟨a,d,c⟩;simp at a;have:l≠[]:=by rintro rfl;simp at a
 exact⟨by omega,by omega,c.resolve_left this,d⟩
attribute [local go_sem] joY
def jog(w:World)(pre:List Ln)(W:World):Prop:=Boxed W w.heap.size 4 (.bool false)/\Below w.heap.size w W/\pre.all ZW=true
def joE(w:World)(c:Code)(pre:List Ln)(W:World):Prop:=Boxed W w.heap.size 4 (.bool false)/\Below w.heap.size w W/\c=.ret/\pre.all ZW=false
theorem jg8(w W:World)(b:Bool)(tmps:Array Value)(h:Boxed W w.heap.size 4 (.bool b))(a:W.heap[w.heap.size+2]?=some (.deferred (some [])))(d:Below w.heap.size w W)(g:tmps[2]?=some (.pointer (some ⟨w.heap.size,0,none⟩))):
  bodyPostM Fence.wide 9 prog Tryz.f92 (fun e i=>e=.returned (.bool b)/\Below w.heap.size w i) .ret {tmps:=tmps,defers:=[{target:=.collected (w.heap.size+2),args:=#[]}]} W:=by
 have f:=grownBy_putObj' W (w.heap.size+2) (.deferred none);have j:w.heap.size+2<W.heap.size:=(Array.getElem?_eq_some_iff.1 a).1
 have r:Boxed (W.putObj (w.heap.size+2) (.deferred none)) w.heap.size 4 (.bool b):=(f.block _ (by omega) (fun e=>by have:=joN e;omega)).trans h;have c:=r.cell
 refine⟨by simp,.inl ⟨_,_,rfl,run_takeDeferred a,?_⟩⟩;exact⟨.bool b,by simp[results,Tryz.f92,go_sem,g,c],rfl,d.trans (belowK_b (w:=w) (joJ _) W _ _ _ (by omega) a rfl rfl)⟩
theorem jjv(s:ByteArray)(v:s.size<=1000000)(w:World):
  Calls prog 92 #[.string s] w fun e w'=>e=.returned (.bool (goodR s.data.toList))/\Below w.heap.size w w':=by
 have i:=jlU s.data.toList;rw[<- jo2]at i;have y:=joI (fits_any (s.size:Int))
 generalize goodR s.data.toList=g at *
 obtain⟨Y,q⟩:∃Y,jf s.data.toList=Y:=⟨_,rfl⟩
 rw[q]at i;have Z:=joI q
 have I:=fun w b=>vv s b w;rw[q]at I;clear q;refine callsIn_wide (n:=9).1 ?_;refine callsIn_of_wp_marks func92 rfl trivial ?_ rfl;simp only[ntmps92,jpN,joR,jpm,Nat.reduceAdd,Nat.reduceSub,jpK,jpL,jpU,jpQ,jpC,jo6];have P:=jqe w 4 (.bool false)
 have H:Below w.heap.size w (w.alloc (.cells #[.bool false] 4)):=(joL _ w).alloc (joJ _) _;cases E:decide (2<=(s.size:Int)/\(s.size:Int)<=50000) with
 | false =>
  rw[E]at i y;simp only[Bool.false_and]at i;subst i;clear E I;gi_wp2_with fail;refine⟨trivial,(callsIn_wide.2 (y.out _)).mono ?_⟩;rintro e X ⟨rfl,rfl⟩;gi_wp2;have c:=P.cell
  exact⟨.bool false,by simp[results,Tryz.f92,go_sem,c],rfl,H⟩
 | true =>
 rw[E]at i y;simp only[jqH]at i;clear E;gi_wp2_with fail;refine⟨trivial,(callsIn_wide.2 (y.out _)).mono ?_⟩;rintro e X ⟨rfl,rfl⟩;gi_wp2_with fail;refine⟨trivial,(callsIn_wide.2 (yL s _)).mono ?_⟩;rintro e X ⟨rfl,rfl⟩;gi_wp2_with fail;have k2:=xI w (.cells #[.bool false] 4) 9 (.string s)
 have R:=H.alloc (o:=.cells #[.string s] 9) H.size;have Q:=P.alloc (.cells #[.string s] 9)
 have u:((w.alloc (.cells #[.bool false] 4)).alloc (.cells #[.string s] 9)).heap.size=w.heap.size+2:=by simp
 generalize (w.alloc (.cells #[.bool false] 4)).alloc (.cells #[.string s] 9)=w1 at *
 clear P H y;have U:∀k,k<=5->zU (w.heap.size+2) k (jog w):=fun k hk d W J h t =>
  ⟨t.box h.1 (.inl (by omega)),h.2.1.trans (t.below (by omega) h.2.1.size),h.2.2⟩
 refine yd (gf:=139) (lb:=#[.pointer (some ⟨w.heap.size+1,0,none⟩)]) rfl (enters_of func139 (by kernel_rfl) rfl) (I w1 _ k2 (by omega)) (fun _=>rfl)
  (jog w) (joE w) (by rw[u];exact U _ (by omega)) (fun c d W J h t=>⟨t.box h.1 (.inl (by rw[u];omega)),h.2.1.trans (t.below (by rw[u];omega) h.2.1.size),h.2.2⟩) ⟨Q,R,rfl⟩
  (fun a d x K W=>∃j,w.heap.size+2+5<=j/\K={tmps:=(a.tmps.setIfInBounds 10 (.agg (qi x))).setIfInBounds 3 (.pointer (some ⟨j,0,none⟩)),defers:=[]}/\ja W j 157 (qi x)/\jog w d W)
  ?hM ?assign ?body ?done ?stop
 case hM =>
  rw[u];rintro a d x K _ W J ⟨j,f,m,r,h4⟩ t;exact⟨j,f,m,(t.same j r.lt (.inr (by omega))).trans r,U 2 (by omega) d W J h4 t⟩
 case assign =>
  rw[u];intro l d x C W hx v G;clear hx;dsimp only[qi];gi_wp2;exact⟨(vO.refl _ _ W).alloc v _,W.heap.size,by omega,rfl,ja.new _ _ _,G.1.alloc _,G.2.1.alloc G.2.1.size _,G.2.2⟩
 case body =>
  rw[u];rintro l d x C K W hx v ⟨j,hB,rfl,N,f,m,r⟩;clear hx;simp only[jo3,jpF,jpG,qi]at N ⊢;have D:ZW x=(x.ended&&Lib.hasPrefix x.text [32]):=rfl
  have L:(d++[x]).all ZW=ZW x:=by rw[jqi,r];simp
  have c3:=f.cell;have f3:=f.frozen
  have p2:W.cell? ⟨j,2,none⟩=some (.string ⟨x.text.toArray⟩):=N.cell 2;have p3:W.cell? ⟨j,3,none⟩=some (.bool x.ended):=N.cell 3
  generalize x.ended=en at *
  cases en with
  | false =>
   gi_wp2_with fail;refine⟨trivial,?_⟩;gi_wp2;exact⟨(vO.refl _ _ _).setCell (.inl (by show w.heap.size<_;omega)) _,jpV _ f,m.setCell (p:=⟨w.heap.size,0,none⟩) (joJ _) _,rfl,by rw[L,D];rfl⟩
  | true =>
  gi_wp2_with fail;refine⟨trivial,((callsIn_wide.2 (Tryz.strings_HasPrefix ⟨x.text.toArray⟩ ⟨#[32]⟩ W)).inRound l).mono ?_⟩;rintro e V ⟨rfl,rfl⟩;have eh:Lib.hasPrefix (⟨x.text.toArray⟩:ByteArray).data.toList (⟨#[32]⟩:ByteArray).data.toList=Lib.hasPrefix x.text [32]:=rfl
  rw[eh];rw[jqH]at D;generalize Lib.hasPrefix x.text [32]=hp at *
  cases hp with
  | false =>
   gi_wp2;exact⟨(vO.refl _ _ _).setCell (.inl (by show w.heap.size<_;omega)) _,jpV _ f,m.setCell (p:=⟨w.heap.size,0,none⟩) (joJ _) _,rfl,by rw[L,D]⟩
  | true =>
  gi_wp2;exact⟨vO.refl _ _ _,f,m,by rw[L,D]⟩
 case done =>
  rw[u];rintro W ⟨f,m,r⟩ hmark;have zW:w.heap.size+2<W.heap.size:=(Array.getElem?_eq_some_iff.1 hmark).1
  have c3:=f.cell;have f3:=f.frozen
  rw[r]at i;subst i;gi_wp2;exact jg8 w _ true _ (jpV _ f) ((jpw _ _ _ _ (by show w.heap.size+2≠w.heap.size;omega)).trans hmark) (m.setCell (p:=⟨w.heap.size,0,none⟩) (joJ _) _) rfl
 case stop =>
 rw[u];rintro c d W A ⟨f,m,rfl,r⟩ hmark;have O:g=false:=by rw[i];obtain⟨z,rfl⟩:=A;rw[jqi,r];rfl
 subst O;gi_wp2;exact jg8 w W false _ f hmark m rfl
theorem Yr(l:List UInt8)(hl:l.length<=1000000)(w:World):
  Calls prog 92 #[.string (B l)] w fun e a=>e=.returned (.bool (goodR l))/\Below w.heap.size w a:=by
 have:=jjv (B l) (by rw[jg];exact hl) w;rwa [jj]at this
end Fr
namespace Fr
attribute [local go_sem] joY
theorem jkH(X:List UInt8)(i j:Nat):(B X).extract i j=B ((X.drop i).take (j-i)):=by apply jp5;apply Array.toList_inj.1;rw[jpS,jj,jj]
theorem ext_drop(X:List UInt8)(i:Nat):(B X).extract i (B X).size=B (X.drop i):=by rw[jkH,jg,jpi (by simp)]
theorem ext_take(X:List UInt8)(j:Nat):(B X).extract 0 j=B (X.take j):=by rw[jkH];simp
theorem jgy{l:List UInt8}{c:UInt8}(h:c∉l):∀x∈l,(x != c)=true:=fun x hx=>by have:x≠c:=fun e=>h (by rw[<- e];exact hx);simpa using this
theorem jdV(l:List UInt8)(c:UInt8)(hl:l.length<=1000000)(w:World):
  Calls prog 86 #[.string (B l),.string ⟨#[c]⟩] w fun e b =>
   e=.returned (.tuple #[.string (B (l.takeWhile (· != c))),.string (B (l.drop ((l.takeWhile (· != c)).length+1))),.bool (l.contains c)])/\Below w.heap.size w b:=by
 by_cases h:c∈l
 ·refine(GV (B l) c w (by rw[jg];unfold maxLen;omega) (by rw[jj];exact h)).mono ?_;rintro e b ⟨rfl,n,rfl⟩;refine⟨?_,⟨rfl,rfl,rfl,joJ _,fun _ _=>rfl⟩⟩;have a:l.take (l.takeWhile (· != c)).length=l.takeWhile (· != c):=(List.prefix_iff_eq_take.1 (jqa _)).symm
  rw[jj,ext_drop,ext_take,a];simp[h]
 refine(jdS (B l) c w (by rw[jj];exact h)).mono ?_;rintro e b ⟨rfl,n,rfl⟩;refine⟨?_,⟨rfl,rfl,rfl,joJ _,fun _ _=>rfl⟩⟩;have a:l.takeWhile (· != c)=l:=vR (jgy h)
 rw[a,jpE (by omega)];simp[h];rfl
def ji5(l:List UInt8):List UInt8:=(Lib.trimPrefix l AMD).takeWhile (· != 32)
def jfb(l:List UInt8):List UInt8:=(Lib.trimPrefix l AMD).drop ((ji5 l).length+1)
def jd4(l:List UInt8):Int:=qt (ji5 l)
def jfH(l:List UInt8):Bool:=(Sm.takes (jfb l)).isSome&&decide (2<=jd4 l/\jd4 l<=50000)&&decide (jP (jd4 l).toNat (jfb l)=l)
theorem jid{l:List UInt8}{n:Nat}{f:List UInt8}(h:jbM l n f):jfH l=true/\jd4 l=n:=by
 have a:Lib.trimPrefix l AMD=Lib.decDigits n++32::f:=by
  rw[h.eq];unfold jP Lib.trimPrefix;have:Lib.hasPrefix (AMD++(Lib.decDigits n++32::f)) AMD=true:=by unfold Lib.hasPrefix;rw[jpW];exact List.prefix_append _ _
  rw[if_pos this,jp8]
 have b:ji5 l=Lib.decDigits n:=by unfold ji5;rw[a,jqy (jgy (GS n))];simp
 have d:jfb l=f:=by unfold jfb;rw[b,a,<- jp7,jp8];rfl
 have e:I64 (n:Int):=by have:=h.hi;unfold I64;omega
 have c:jd4 l=n:=by unfold jd4;rw[b,<- jpZ,vB e]
 have g:=h.lo;have i:=h.hi
 obtain⟨x,hx⟩:=h.fig;refine⟨?_,c⟩;unfold jfH;rw[c,d,hx,h.eq];simp;omega
theorem XZ{l:List UInt8}(h:jfH l=true):∃n f,jbM l n f:=by unfold jfH at h;simp only[jpk,decide_eq_true_eq]at h;obtain⟨⟨a,c,d⟩,b⟩:=h;obtain⟨x,hx⟩:=Option.isSome_iff_exists.1 a;exact⟨(jd4 l).toNat,jfb l,by omega,by omega,⟨x,hx⟩,b.symm⟩
theorem jd5{l:List UInt8}:jfH l=true↔∃n f,jbM l n f:=⟨XZ,fun⟨_,_,h⟩=>(jid h).1⟩
theorem jiB(s:List UInt8):Sm.takeV s=.tuple #[.int .u32 ((Sm.takes s).getD 0:Nat),.bool (Sm.takes s).isSome]:=by
 cases h:Sm.takes s with
 | none=>rw[Sm.takeV_not h];rfl
 | some n=>rw[Sm.takeV_of h];rfl
theorem Qn(l:List UInt8)(hl:l.length<=900000)(w:World)(d:TabsN w):
  Calls prog 89 #[.string (B l)] w fun e K=>e=.returned (.tuple #[.int .i64 (jd4 l),.bool (jfH l)])/\Below w.heap.size w K:=by
 have j:=joI (Tryz.strings_TrimPrefix (B l) (B AMD) w);have A:(Lib.trimPrefix l AMD).length<=900000:=jpg (Lib.trimPrefix_le l AMD) hl
 have s:=joI (fun w=>jdV (Lib.trimPrefix l AMD) 32 (by omega) w);have u:(Lib.trimPrefix l AMD).takeWhile (· != 32)=ji5 l:=rfl
 have k:(Lib.trimPrefix l AMD).drop ((ji5 l).length+1)=jfb l:=rfl;have J:(ji5 l).length<=900000:=jpg (jp1 _).length_le A
 have i:(jfb l).length<=900000:=by rw[<- k,joX];omega
 have t:=joI (fun w=>Sm.take_any (B (jfb l)) w (by rw[jg];unfold maxLen;omega));have r:=joI (fun w d=>atoi_any (ji5 l) (by omega) w d)
 have g:=joI (fits_any (jd4 l));have z:qt (ji5 l)=jd4 l:=rfl
 rw[z]at r;rw[u,k]at s;simp only[jiB,jj]at t;simp only[jj]at j;have y:(⟨(Lib.trimPrefix l AMD).toArray⟩:ByteArray)=B (Lib.trimPrefix l AMD):=rfl
 rw[y]at j;have c:jfH l=((Sm.takes (jfb l)).isSome&&decide (2<=jd4 l/\jd4 l<=50000)&&decide (jP (jd4 l).toNat (jfb l)=l)):=rfl
 have E:=joI (fun(n:Nat) (h:n<=50000) w d=>Gk n (by omega) (jfb l) (by omega) w d);have G:(⟨#[37,97,109,101,110,100,32]⟩:ByteArray)=B AMD:=rfl
 have C:∀x:List UInt8,((B x).toList==(B l).toList)=decide (x=l):=fun x=>by rw[jpn,jpn,jj,jj,jpI];simp
 generalize (Sm.takes (jfb l)).getD 0=N at *
 generalize (Sm.takes (jfb l)).isSome=tb at *
 generalize jd4 l=m at *
 generalize jfH l=q at *
 clear u k z J A y;go_enter func89,ntmps89;rw[G];go_wp2_with fail;refine j.out.mono ?_;rintro e L ⟨rfl,rfl⟩;go_wp2_with fail;refine(s.out _).mono ?_;rintro e L ⟨rfl,b⟩;go_wp2_with fail;refine(t.out _).mono ?_;rintro e O ⟨rfl,rfl⟩;go_wp2_with fail;refine(r.out _ (d.below b (joJ _))).mono ?_;rintro e P ⟨⟨T,v,H⟩,f⟩;have p:=(d.below b (joJ _)).below f (joJ _)
 have a:=b.trans (f.mono b.size);rcases H with rfl|rfl
 all_goals
  cases tb with
  | false =>
   simp only[Bool.false_and]at c;subst c;go_wp2_with fail;go_ret2;exact⟨rfl,a⟩
  | true =>
  cases i:decide (2<=m/\m<=50000) with
  | false =>
   rw[i]at c g;simp only[jqH,Bool.false_and]at c;subst c;go_wp2_with fail;refine(g.out _).mono ?_;rintro e D ⟨rfl,rfl⟩;go_wp2_with fail;go_ret2;exact⟨rfl,a⟩
  | true =>
  rw[i]at c g;have I:=of_decide_eq_true i
  obtain⟨n,rfl⟩:∃n:Nat,m=n:=⟨m.toNat,by omega⟩
  simp only[jqH,jqs]at c;go_wp2_with fail;refine(g.out _).mono ?_;rintro e D ⟨rfl,rfl⟩;go_wp2_with fail;refine(E.out n (by omega) _ p).mono ?_;rintro e D ⟨rfl,o⟩;go_wp2_with fail;go_ret2;exact⟨by rw[c];rfl,a.trans (o.mono a.size)⟩
theorem jn0:B qq=B (jP 50000 qH):=by rw[Wj]
theorem Kv(l:List UInt8)(hl:l.length<=800000)(w:World)(o:TabsN w):
  Calls prog 88 #[.string (B l)] w fun e I=>∃q:Bool,(q=true↔yc l)/\e=.returned (.bool q)/\Below w.heap.size w I:=by
 have p:=joI (Gk 50000 (by omega) qH (by decide) w o);rw[<- jn0]at p;have x:(⟨#[48,48,48,48,48,48,48,48]⟩:ByteArray)=B qH:=rfl
 have G:(B qq).size=21:=rfl;have r:=jg l
 by_cases C:21<l.length
 ·have t:¬yc l:=fun h=>by have:=jiW h;omega
  have H:(21:Int)<((B l).size:Int):=by rw[r];omega
  go_enter func88,ntmps88;rw[x];go_wp2_with fail;refine p.out.mono ?_;rintro e J ⟨rfl,a⟩;go_wp2_with fail;go_ret;exact⟨false,by simp[t],rfl,a⟩
 have H:¬(21:Int)<((B l).size:Int):=by rw[r];omega
 have K:(B l).size<=21:=by rw[r];omega
 have v:=jeZ (l:=l);have y:=joI (fun k w o=>Qn (l++qq.drop k) (by rw[joK,joX];have:qq.length=21:=rfl;omega) w o)
 have z:Hid (∀k,B l++(B qq).extract k 21=B (l++qq.drop k)):=fun k=>by have:=ext_drop qq k;rw[G]at this;rw[this,jn]
 generalize N:B qq=L at *
 go_enter func88,ntmps88;rw[x];go_wp2_with fail;refine p.out.mono ?_;rintro e J ⟨rfl,a⟩;go_wp2_with fail;go_loopw [16] (fun i wr=>∃k:Nat,k<=22/\i=.int .i64 k/\Below w.heap.size w wr/\∀j,j<k->jfH (l++qq.drop j)=false) (fun i _=>22-(intOf i).toNat)
 case atStart=>exact⟨0,by omega,rfl,a,fun j c=>by omega⟩
 case round =>
 obtain⟨k,O,rfl,g,c⟩:=hrel;have u:=joI c
 clear c;by_cases E:k<22
 ·have D:(k:Int)<=21:=by omega
  go_wp2_with fail;rw[z.out k];refine(y.out k _ (o.below g (joJ _))).mono ?_;rintro e P ⟨rfl,s⟩;have b:=g.trans (s.mono g.size)
  cases m:jfH (l++qq.drop k) with
  | true =>
   have d:yc l:=v.2 ⟨k,by omega,XZ m⟩;clear m;go_wp2_with fail;go_ret;exact⟨true,by simp[d],rfl,b⟩
  | false =>
  have A:Hid (∀j,j<k+1->jfH (l++qq.drop j)=false):=by
   intro j c;by_cases e:j=k
   ·rw[e];exact m
   exact u.out j (by omega)
  clear m;go_wp2_with fail;go_roundw
  case rel=>exact⟨k+1,by omega,by go_num,b,A.out⟩
  case measure=>simp[intOf];omega
 obtain rfl:k=22:=by omega
 go_wp2_with fail;go_ret;refine⟨false,?_,rfl,g⟩;rw[v];constructor
 ·intro h;cases h
 rintro⟨j,c,n,f,h⟩;have:=jd5.2 ⟨n,f,h⟩
 rw[u.out j (by omega)]at this;cases this
theorem Un(k:Nat):Lib.repeatL [32] k=List.replicate k 32:=by
 induction k with
 | zero=>rfl
 | succ k a=>rw[List.replicate_succ,<- a];rfl
theorem Kx(t:List UInt8)(n:Nat)(k:2<=n)(l:n<=50000)(hl:t.length<n)(w:World):
  Calls prog 90 #[.string (B t),.int .i64 (n:Int)] w fun e o=>e=.returned (.bool (yb t n))/\Below w.heap.size w o:=by
 have h:=jg t;have c:(B [32]).size=1:=rfl
 have f:(B [32]).size*(n-t.length-1)<=140737488355328:=by simp only[c];omega
 have b:=joI (Tryz.strings_Repeat (B [32]) (n-t.length-1) w (by omega) f);have g:=joI (fun w=>Yr (t++(List.replicate (n-t.length-1) 32++[10])) (by simp;omega) w)
 have i:((n-t.length-1:Nat):Int)=(n:Int)-(t.length:Int)-1:=by omega
 rw[i,jj,Un,show(⟨(List.replicate (n-t.length-1) (32:UInt8)).toArray⟩:ByteArray)=B (List.replicate (n-t.length-1) 32) from rfl]at b;have j:Hid (B t++B (List.replicate (n-t.length-1) 32) ++ ⟨#[10]⟩=B (t++(List.replicate (n-t.length-1) 32++[10]))):=by show _=_;rw[show(⟨#[10]⟩:ByteArray)=B [10] from rfl,jn,jn,jo0]
 have v:(B (List.replicate (n-t.length-1) 32)).size<=50000:=by rw[jg];simp;omega
 have x:(B t++B (List.replicate (n-t.length-1) 32)).size<=100000:=by rw[jpB];omega
 have u:(B t).size<=50000:=by omega
 simp only[jhY k l hl]at g;have s:(⟨#[32]⟩:ByteArray)=B [32]:=rfl
 have p:IntKind.i64.wrap ((n:Int)-(t.length:Int))=(n:Int)-(t.length:Int):=jph _ (by omega);have r:IntKind.i64.wrap ((n:Int)-(t.length:Int)-1)=(n:Int)-(t.length:Int)-1:=jph _ (by omega)
 generalize B (List.replicate (n-t.length-1) 32)=R at *
 generalize yb t n=q at *
 clear i;rw[<- h]at p r b;generalize m:B t=X at *
 clear h m;go_enter func90,ntmps90;rw[s];go_wp2_with fail;refine b.out.mono ?_;rintro e y ⟨rfl,a⟩;go_wp2_with fail;rw[j.out];refine(g.out _).mono ?_;rintro e z ⟨rfl,d⟩;go_wp2_with fail;go_ret;exact⟨rfl,a.trans (d.mono a.size)⟩
def Gs(t:List UInt8)(n:Nat):Bool := !(decide (t=zj n))&&Lib.hasPrefix (zj n) t
theorem jhf{t:List UInt8}{n:Nat}:Gs t n=true↔∃z,t++z=zj n/\z≠[]:=by
 unfold Gs Lib.hasPrefix;simp only[jpk,jre,decide_eq_false_iff_not,jpW];constructor
 ·rintro⟨b,z,a⟩;exact⟨z,a,fun e=>b (by rw[<- a,e];simp)⟩
 rintro⟨z,a,c⟩;refine⟨fun e => ?_,z,a⟩;rw[e]at a;exact c (by simpa using a)
theorem Kw(t:List UInt8)(n:Nat)(l:n<=50000)(w:World)(i:TabsN w):
  Calls prog 93 #[.string (B t),.int .i64 (n:Int)] w fun e j=>e=.returned (.bool (Gs t n))/\Below w.heap.size w j:=by
 have b:=joI (jdK n (by omega) w i);have c:=joI (fun w=>Tryz.strings_HasPrefix (B (zj n)) (B t) w)
 simp only[jj]at c;have h:((B t).toList==(B (zj n)).toList)=decide (t=zj n):=by rw[jpn,jpn,jj,jj,jpI];simp
 have g:Gs t n=(!(decide (t=zj n))&&Lib.hasPrefix (zj n) t):=rfl;generalize Gs t n=q at *
 generalize Lib.hasPrefix (zj n) t=p at *
 generalize decide (t=zj n)=d at *
 generalize B (zj n)=f at *
 generalize B t=X at *
 cases d with
 | true =>
  go_enter func93,ntmps93;go_wp2_with fail;refine b.out.mono ?_;rintro e k ⟨rfl,a⟩;go_wp2_with fail;go_ret;exact⟨by rw[g];rfl,a⟩
 | false =>
 go_enter func93,ntmps93;go_wp2_with fail;refine b.out.mono ?_;rintro e k ⟨rfl,a⟩;go_wp2_with fail;refine(c.out _).mono ?_;rintro e m ⟨rfl,rfl⟩;go_wp2_with fail;go_ret;exact⟨by rw[g];rfl,a⟩
theorem jnW(a:ByteArray)(w:World):Sm.Strs (w.alloc (.cells #[.string a] 9)) (.slice (some ⟨w.heap.size,0,none⟩) 1 1) [a]:=by
 refine⟨_,1,rfl,?_⟩;intro i s h;refine⟨w.heap.size,0,rfl,by simp,?_⟩;rw[jqg _ _ _ _ rfl]
 match i,h with
 | 0,h=>simp at h;subst h;rfl
 | n+1,h=>simp at h
theorem jiC(a:ByteArray)(c:a.size<=maxLen)(w:World):
  Calls prog 126 #[.slice (some ⟨w.heap.size,0,none⟩) 1 1] (w.alloc (.cells #[.string a] 9)) fun e b=>e=.returned (.int .u32 (Sm.M.crc a.data.toList:Nat))/\Below w.heap.size w b :=
 (Sm.sum_any _ [a] _ (jnW a w) (by simp[maxLen]) (fun i s h=>by
  match i,h with
  | 0,h=>simp at h;subst h;exact c
  | n+1,h=>simp at h)).mono fun e b ⟨f,d⟩=>⟨by rw[f];simp[Sm.cat,Sm.M.crc],((joL _ _).alloc (joJ _) _).trans (d.mono (by simp))⟩
theorem jhb{b:List UInt8}(a:goodR b=true):(fullR b).length=b.length+27+2*(Lib.decDigits b.length).length-4:=by have:=xC (qR b);unfold fullR recR jP zj AMD END;simp;omega
theorem full_le{b:List UInt8}(a:goodR b=true):(fullR b).length<=50100:=by
 obtain⟨c,d,_,_⟩:=good_iff.1 a;have:=xG (show b.length<=99999 by omega)
 have:=jhb a;omega
theorem record_yes(l:List UInt8)(n:goodR l=true)(w:World)(d:TabsN w):
  Calls prog 64 #[.string (B l)] w fun e y=>e=.returned (.tuple #[.string (B (fullR l)),.nilIface])/\Below w.heap.size w y:=by
 obtain⟨z,A,_,_⟩:=good_iff.1 n;have h:=jg l
 have p:=joI (Yr l (by omega) w);rw[n]at p;have r:=joI (fun w=>jiC (B l) (by rw[h];unfold maxLen;omega) w)
 simp only[jj]at r;have o:=joI (fun w=>Sm.figures_any (Sm.M.crc l) (Sm.M.crc_lt l) w)
 have v:Sm.figs (Sm.M.crc l)=B (vt l):=(jfB _).symm;simp only[v]at o;have q:=joI (fun w d=>Gk l.length (by omega) (vt l) (by rw[xC (qR l)];omega) w d)
 have s:=joI (fun w d=>jdK l.length (by omega) w d);have t:(jP l.length (vt l)).length<=30:=by
  have:=xC (qR l);have:=xG (show l.length<=99999 by omega)
  unfold jP AMD;simp;omega
 have u:Hid (B (jP l.length (vt l)) ++ ⟨#[10]⟩++B l++B (zj l.length)=B (fullR l)):=by show _=_;rw[show(⟨#[10]⟩:ByteArray)=B [10] from rfl,jn,jn,jn];congr 1;unfold fullR;rw[qV];simp
 have D:(B (jP l.length (vt l))).size<=30:=by rw[jg];exact t
 have E:(B (jP l.length (vt l)) ++ ⟨#[10]⟩).size<=31:=by rw[jpB];show _+1<=_;omega
 have G:(B (jP l.length (vt l)) ++ ⟨#[10]⟩++B l).size<=60000:=by rw[jpB];omega
 have H:(B (zj l.length)).size<=30:=by have:=xG (show l.length<=99999 by omega);rw[jg];unfold zj END;simp;omega
 have C:(B l).size<=50000:=by omega
 generalize B (jP l.length (vt l))=X at *
 generalize B (zj l.length)=Y at *
 generalize B (vt l)=Z at *
 rw[<- h]at q s;generalize x:B l=L at *
 clear x h n t;go_enter func64,ntmps64;go_wp2_with fail;refine p.out.mono ?_;rintro e I ⟨rfl,f⟩;go_wp2_with fail;refine(r.out _).mono ?_;rintro e J ⟨rfl,i⟩;have c:=f.trans (i.mono f.size)
 go_wp2_with fail;refine(o.out _).mono ?_;rintro e K ⟨rfl,j⟩;have a:=c.trans (j.mono c.size)
 go_wp2_with fail;refine(q.out _ (d.below a (joJ _))).mono ?_;rintro e N ⟨rfl,k⟩;have b:=a.trans (k.mono a.size)
 go_wp2_with fail;refine(s.out _ (d.below b (joJ _))).mono ?_;rintro e O ⟨rfl,m⟩;have g:=b.trans (m.mono b.size)
 go_wp2_with fail;go_ret2;exact⟨by rw[<- u.out];rfl,g⟩
theorem jgk(l:List UInt8)(hl:l.length<=1000000)(c:goodR l=false)(w:World):
  Calls prog 64 #[.string (B l)] w fun e d=>e=.returned (.tuple #[.string (B []),Zc 2])/\Below w.heap.size w d:=by
 have b:=joI (Yr l hl w);rw[c]at b;go_enter func64,ntmps64;go_wp2_with fail;refine b.out.mono ?_;rintro e f ⟨rfl,a⟩;go_wp2_with fail;go_ret2;exact⟨rfl,a⟩
def yS(n:Int):Int:=if 2<=n/\n<=50000 then ((jP n.toNat qH).length:Int)+1+n+((zj n.toNat).length:Int) else 0
theorem yO{t:List UInt8}(h:xO t):jT t 2 [] 0:=.inr (.inl ⟨h,rfl,rfl,rfl⟩)
theorem vD{t:List UInt8}(h:¬xO t)(a:¬∃b,vK t b):jT t 3 [] 0:=.inr (.inr ⟨h,a,rfl,rfl,rfl⟩)
theorem jeM{l:List UInt8}(h:(10:UInt8)∈l):l=head l++10::l.drop ((head l).length+1):=by
 have:=zu l;have a:nl l=true:=by unfold nl;simpa using h
 unfold qK at this;rw[a,if_pos rfl,if_pos rfl]at this;simpa using this
def readV(k:Nat)(b:List UInt8)(n:Nat):Ending:=.returned (.tuple #[.int .i64 (k:Int),.string (B b),.int .i64 (n:Int)])
theorem read_any(l:List UInt8)(hl:l.length<=700000)(w:World)(o:TabsN w):
  Calls prog 51 #[.string (B l)] w fun e w'=>∃k b n,jT l k b n/\e=readV k b n/\Below w.heap.size w w':=by
 have L:=joI (jdV l 10 (by omega) w);by_cases x:(10:UInt8)∈l
 ·have hc:l.contains 10=true:=by simpa using x
  have C:(10:UInt8)∉head l:=Ja;have X:=jeM x
  have eh:l.takeWhile (· != 10)=head l:=rfl;rw[hc,eh]at L;have hh:(head l).length<=700000:=by have:=jlT l;omega
  have N:=joI (fun w o=>Qn (head l) (by omega) w o);generalize head l=Y at *
  generalize l.drop (Y.length+1)=r at *
  clear hc eh;have hr:r.length<=700000:=by have:=congrArg List.length X;simp at this;omega
  cases U:jfH Y with
  | false =>
   have p:Hid (jT l 3 [] 0):=by have h:=ji4 (r:=r) C (fun h=>by have:=jd5.2 h;rw[U]at this;cases this);rw[<- X]at h;exact vD h.1 h.2
   rw[U]at N;clear U X C hr;go_enter func51,ntmps51;go_wp2_with fail;refine L.out.mono ?_;rintro e w1 ⟨rfl,c⟩;go_wp2_with fail;refine(N.out _ (o.below c (joJ _))).mono ?_;rintro e A ⟨rfl,g⟩;go_wp2_with fail;go_ret3;exact⟨3,[],0,p.out,rfl,c.trans (g.mono c.size)⟩
  | true =>
  obtain⟨n,f,P⟩:=XZ U;obtain⟨_,hM⟩:=jid P;rw[U,hM]at N;have h2:=P.lo
  have h5:=P.hi;have m:=P.fig
  have K:=P.eq;clear U hM;by_cases Q:r.length<n
  ·have aj:((B r).size:Int)<n:=by rw[jg];omega
   have HS:=joI (KK (f:=f) h2 h5 m Q);rw[<- K,<- X]at HS;have BB:=joI (fun w=>Kx r n h2 h5 Q w)
   generalize yb r n=q at *
   clear X K P C m Q hr;generalize B r=R at *
   cases q with
   | true =>
    have p:Hid (jT l 2 [] 0):=yO (HS.out.1.2 rfl);go_enter func51,ntmps51;go_wp2_with fail;refine L.out.mono ?_;rintro e w1 ⟨rfl,c⟩;go_wp2_with fail;refine(N.out _ (o.below c (joJ _))).mono ?_;rintro e A ⟨rfl,g⟩;have a:=c.trans (g.mono c.size)
    go_wp2_with fail;refine(BB.out _).mono ?_;rintro e w3 ⟨rfl,a8⟩;have H:=a.trans (a8.mono a.size)
    go_wp2_with fail;refine(QR _).mono ?_;rintro e w4 ⟨rfl,rfl⟩;go_wp2_with fail;go_ret3;exact⟨2,[],0,p.out,rfl,H⟩
   | false =>
   have p:Hid (jT l 3 [] 0):=vD (fun h=>by cases HS.out.1.1 h) HS.out.2;go_enter func51,ntmps51;go_wp2_with fail;refine L.out.mono ?_;rintro e w1 ⟨rfl,c⟩;go_wp2_with fail;refine(N.out _ (o.below c (joJ _))).mono ?_;rintro e A ⟨rfl,g⟩;have a:=c.trans (g.mono c.size)
   go_wp2_with fail;refine(BB.out _).mono ?_;rintro e w3 ⟨rfl,a8⟩;have H:=a.trans (a8.mono a.size)
   go_wp2_with fail;refine(ZN _).mono ?_;rintro e w4 ⟨rfl,rfl⟩;go_wp2_with fail;go_ret3;exact⟨3,[],0,p.out,rfl,H⟩
  have br:=jg r;have aj:¬((B r).size:Int)<n:=by rw[br];omega
  have aw:(n:Int)<=(B r).size:=by rw[br];omega
  have x1:(B r).extract 0 n=B (r.take n):=ext_take r n;have x2:(B r).extract n (B r).size=B (r.drop n):=ext_drop r n
  have aq:(r.take n).length=n:=by simp;omega
  have ah:r.take n++r.drop n=r:=jpb n r;have V:=joI (yR (f:=f) (b:=r.take n) (r:=r.drop n) h2 h5 m aq)
  rw[ah,<- K,<- X]at V;generalize ar:r.take n=s at *
  generalize au:r.drop n=Z at *
  have HF:=joI (fun w o=>Kw Z n h5 w o);have O:=joI (jhf (t:=Z) (n:=n))
  have P1:=joI (fun w=>Tryz.strings_HasPrefix (B l) (B (fullR s)) w);have RN:=joI (jgk s (by omega))
  have RY:=joI (record_yes s);have GD:=joI (fun w=>Yr s (by omega) w)
  have ae:l=jP n f++10::(s++Z):=by rw[ah,<- K];exact X
  clear ar au ah X Q hr K;have av:(B s).size<=50000:=by rw[jg];omega
  have HX:=joI x1;have HY:=joI x2
  clear x1 x2 br;generalize B r=R at *
  generalize am:B s=BD at *
  generalize B Z=RS at *
  have af:l.length<=700000:=hl;cases E:goodR s with
  | false =>
   have ak:=joI (RN.out E);have u:=GD.out
   rw[E]at u;have G:=joI u
   have p:Hid (jT l 3 [] 0):=vD (fun h=>by have:=(V.out.1.1 h).1;rw[E]at this;cases this) (fun⟨b',h⟩=>by have:=((V.out.2 b').1 h).2.1;rw[E]at this;cases this);clear u GD RY RN E P C m ae hl af P1 V HF O;go_enter func51,ntmps51;go_wp2_with fail;refine L.out.mono ?_;rintro e w1 ⟨rfl,c⟩;go_wp2_with fail;refine(N.out _ (o.below c (joJ _))).mono ?_;rintro e A ⟨rfl,g⟩;have a:=c.trans (g.mono c.size)
   go_wp2_with fail;go_quiet (fail);go_wp2_with fail;rw[HX.out,HY.out];have i:Below w.heap.size w (A.drewN nq):=⟨a.os,a.tape,a.output,a.size,a.block⟩
   have D:=o.below i (joJ _);generalize A.drewN nq=w3 at *
   refine(ak.out _).mono ?_;rintro e w4 ⟨rfl,y⟩;have d:=i.trans (y.mono i.size)
   rw[jbj];go_wp2_with fail;refine(G.out _).mono ?_;rintro e w5 ⟨rfl,J⟩;have j:=d.trans (J.mono d.size)
   go_wp2_with fail;refine(ZN _).mono ?_;rintro e w7 ⟨rfl,rfl⟩;go_wp2_with fail;go_ret3;exact⟨3,[],0,p.out,rfl,j⟩
  | true =>
  have a7:=joI (RY.out E);have u:=GD.out
  rw[E]at u;have G:=joI u
  clear u GD RY RN;have fl:=full_le E
  have e1:Lib.hasPrefix (B l).data.toList (B (fullR s)).data.toList=Lib.hasPrefix l (fullR s):=by rw[jj,jj]
  have fs:=jg (fullR s);generalize ai:B (fullR s)=FB at *
  cases hp:Lib.hasPrefix l (fullR s) with
  | true =>
   have p:Hid (jT l 1 s (fullR s).length):=by refine .inl ⟨⟨E,?_⟩,rfl,rfl⟩;unfold Lib.hasPrefix at hp;obtain⟨z,hz⟩:=List.isPrefixOf_iff_prefix.1 hp;exact⟨z,hz.symm⟩
   have P2:=P1.out;rw[e1,hp]at P2;have P3:=joI P2
   clear hp E e1 P C m ae hl af P1 P2 V HF O G;rw[<- fs]at p;clear fs ai;go_enter func51,ntmps51;go_wp2_with fail;refine L.out.mono ?_;rintro e w1 ⟨rfl,c⟩;go_wp2_with fail;refine(N.out _ (o.below c (joJ _))).mono ?_;rintro e A ⟨rfl,g⟩;have a:=c.trans (g.mono c.size)
   go_wp2_with fail;go_quiet (fail);go_wp2_with fail;rw[HX.out,HY.out];have i:Below w.heap.size w (A.drewN nq):=⟨a.os,a.tape,a.output,a.size,a.block⟩
   have D:=o.below i (joJ _);generalize A.drewN nq=w3 at *
   refine(a7.out _ D).mono ?_;rintro e w4 ⟨rfl,y⟩;have d:=i.trans (y.mono i.size)
   go_wp2_with fail;refine(P3.out _).mono ?_;rintro e w5 ⟨rfl,rfl⟩;go_wp2_with fail;go_ret3;exact⟨1,s,FB.size,p.out,by rw[<- am];rfl,d⟩
  | false =>
  have P2:=P1.out;rw[e1,hp]at P2;have P3:=joI P2
  have hw:¬∃b,vK l b:=by
   rintro⟨b',W⟩;obtain⟨rfl,_,_,_⟩:=(V.out.2 b').1 W;obtain⟨_,zJ,e⟩:=W;have:Lib.hasPrefix l (fullR b')=true:=by unfold Lib.hasPrefix;rw[jpW];exact⟨zJ,e.symm⟩
   rw[hp]at this;cases this
  have ag:xO l↔Gs Z n=true:=by rw[V.out.1,O.out];exact⟨fun h=>h.2,fun h=>⟨E,h⟩⟩
  have p:=joI (show(Gs Z n=true->jT l 2 [] 0)/\(Gs Z n=false->jT l 3 [] 0) from
   ⟨fun h=>yO (ag.2 h),fun h=>vD (fun W=>by rw[ag.1 W]at h;cases h) hw⟩)
  generalize Gs Z n=q at *
  clear hp E e1 P C m ae hl af P1 P2 V O hw ag fs ai;cases q with
  | true =>
   have v:=joI (p.out.1 rfl);go_enter func51,ntmps51;go_wp2_with fail;refine L.out.mono ?_;rintro e w1 ⟨rfl,c⟩;go_wp2_with fail;refine(N.out _ (o.below c (joJ _))).mono ?_;rintro e A ⟨rfl,g⟩;have a:=c.trans (g.mono c.size)
   go_wp2_with fail;go_quiet (fail);go_wp2_with fail;rw[HX.out,HY.out];have i:Below w.heap.size w (A.drewN nq):=⟨a.os,a.tape,a.output,a.size,a.block⟩
   have D:=o.below i (joJ _);generalize A.drewN nq=w3 at *
   refine(a7.out _ D).mono ?_;rintro e w4 ⟨rfl,y⟩;have d:=i.trans (y.mono i.size)
   go_wp2_with fail;refine(P3.out _).mono ?_;rintro e w5 ⟨rfl,rfl⟩;go_wp2_with fail;refine(G.out _).mono ?_;rintro e w5 ⟨rfl,J⟩;have j:=d.trans (J.mono d.size)
   go_wp2_with fail;refine(HF.out _ (o.below j (joJ _))).mono ?_;rintro e w6 ⟨rfl,aa⟩;have I:=j.trans (aa.mono j.size)
   go_wp2_with fail;refine(QR _).mono ?_;rintro e w7 ⟨rfl,rfl⟩;go_wp2_with fail;go_ret3;exact⟨2,[],0,v.out,rfl,I⟩
  | false =>
  have v:=joI (p.out.2 rfl);go_enter func51,ntmps51;go_wp2_with fail;refine L.out.mono ?_;rintro e w1 ⟨rfl,c⟩;go_wp2_with fail;refine(N.out _ (o.below c (joJ _))).mono ?_;rintro e A ⟨rfl,g⟩;have a:=c.trans (g.mono c.size)
  go_wp2_with fail;go_quiet (fail);go_wp2_with fail;rw[HX.out,HY.out];have i:Below w.heap.size w (A.drewN nq):=⟨a.os,a.tape,a.output,a.size,a.block⟩
  have D:=o.below i (joJ _);generalize A.drewN nq=w3 at *
  refine(a7.out _ D).mono ?_;rintro e w4 ⟨rfl,y⟩;have d:=i.trans (y.mono i.size)
  go_wp2_with fail;refine(P3.out _).mono ?_;rintro e w5 ⟨rfl,rfl⟩;go_wp2_with fail;refine(G.out _).mono ?_;rintro e w5 ⟨rfl,J⟩;have j:=d.trans (J.mono d.size)
  go_wp2_with fail;refine(HF.out _ (o.below j (joJ _))).mono ?_;rintro e w6 ⟨rfl,aa⟩;have I:=j.trans (aa.mono j.size)
  go_wp2_with fail;refine(ZN _).mono ?_;rintro e w7 ⟨rfl,rfl⟩;go_wp2_with fail;go_ret3;exact⟨3,[],0,v.out,rfl,I⟩
 have hc:l.contains 10=false:=by simpa using x
 have eh:l.takeWhile (· != 10)=l:=vR (jgy x);rw[hc,eh]at L;have BH:=joI (fun w o=>Kv l (by omega) w o)
 have p:=joI (show(yc l->jT l 2 [] 0)/\(¬yc l->jT l 3 [] 0) from
  ⟨UV,fun h=>vD (fun W=>h ((jaP x).1 W)) (fun⟨b,W⟩=>UZ x W)⟩)
 clear hc eh x;generalize B (l.drop (l.length+1))=R at *
 go_enter func51,ntmps51;go_wp2_with fail;refine L.out.mono ?_;rintro e w1 ⟨rfl,c⟩;go_wp2_with fail;refine(BH.out _ (o.below c (joJ _))).mono ?_;rintro e A ⟨q,U,rfl,g⟩;have a:=c.trans (g.mono c.size)
 have HQ:=joI U;clear U;go_wp2_with fail;cases q with
 | true =>
  have v:=joI (p.out.1 (HQ.out.1 rfl));refine(QR _).mono ?_;rintro e w7 ⟨rfl,rfl⟩;go_wp2_with fail;go_ret3;exact⟨2,[],0,v.out,rfl,a⟩
 | false =>
 have v:=joI (p.out.2 (fun h=>by cases HQ.out.2 h));refine(ZN _).mono ?_;rintro e w7 ⟨rfl,rfl⟩;go_wp2_with fail;go_ret3;exact⟨3,[],0,v.out,rfl,a⟩
end Fr
end Go.Proofs.YtbapfpekklcicaaGreatDoor
