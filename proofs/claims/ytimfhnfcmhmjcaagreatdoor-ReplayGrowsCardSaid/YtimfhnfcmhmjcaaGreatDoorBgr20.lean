/- Texts put together:AC,AE,WN,WO,AF,EJ,JB,EM. -/
import Derived.StillTail
import Derived.Test.YtimfhnfcmhmjcaaGreatDoorBgr19
set_option linter.unusedVariables false
set_option maxRecDepth 100000
set_option maxHeartbeats 16000000
namespace Go.Proofs.YtimfhnfcmhmjcaaGreatDoor
def zT(k:Int):List UInt8:=if k=1 then [114,101,112,108,97,99,101] else if k=2 then [100,101,108,101,116,101] else if k=3 then [105,110,115,101,114,116] else []
def zt(k id:Int):List UInt8:=if k=1\/k=2\/k=3 then 32::(zT k++32::Lib.itoa id) else []
def yW(l:List UInt8):List UInt8:=32::32::l
def jcp(ed:Ed):List (List UInt8):=zt ed.kind ed.id::(jp ed.fields).map yW
def edT(ed:Ed):List UInt8:=jk (jcp ed)
def zg(eds:List Ed):List (List UInt8):=eds.flatMap jcp
def ji(eds:List Ed):List UInt8:=jk (zg eds)
theorem KV{k:Int}{c:UInt8}(h:c.toNat<97):c∉zT k:=by
 unfold zT
 have key:∀l:List UInt8,(∀x∈l,97<=x.toNat)->c∉l:=fun l hl hc=>by have:=hl c hc;omega
 split
 ·exact key _ (by decide)
 split
 ·exact key _ (by decide)
 split
 ·exact key _ (by decide)
 simp
theorem ZC(k id:Int):(10:UInt8)∉zt k id:=by
 unfold zt
 split
 ·intro h
  rcases List.mem_cons.1 h with h|h
  ·exact absurd h (by decide)
  rcases List.mem_append.1 h with h|h
  ·exact KV (by decide) h
  rcases List.mem_cons.1 h with h|h
  ·exact absurd h (by decide)
  exact jfG (by decide) (.inl (by decide)) h
 simp
theorem jaa{l:List UInt8}(h:(10:UInt8)∉l):(10:UInt8)∉yW l:=by
 unfold yW
 intro hm
 rcases List.mem_cons.1 hm with hm|hm
 ·exact absurd hm (by decide)
 rcases List.mem_cons.1 hm with hm|hm
 ·exact absurd hm (by decide)
 exact h hm
structure yG(fs:List Fld):Prop where
 each:∀f∈fs,jR f.1=true/\f.2.length<=1000
 len:fs.length<=40
theorem Yc{ed:Ed}(h:zJ ed=0):yG ed.fields:=by
 unfold zJ at h
 split at h
 ·obtain⟨_,h2,h3⟩:=yy h
  exact⟨Jf _ h3,h2⟩
 split at h
 ·rename_i q
  rw[List.length_eq_zero_iff.1 q.2]
  exact⟨fun f hf=>(by cases hf),jiD _⟩
 cases h
theorem yG.clean{fs:List Fld}(h:yG fs):∀l∈jp fs,(10:UInt8)∉l:=by
 intro l hl
 unfold jp at hl
 obtain⟨f,hf1,hf2⟩:=List.mem_flatMap.1 hl
 exact Jy _ (h.each f hf1).1 l hf2
theorem jan{ed:Ed}(h:yG ed.fields):∀l∈jcp ed,(10:UInt8)∉l:=by
 intro l hl
 rcases List.mem_cons.1 hl with rfl|hl
 ·exact ZC _ _
 obtain⟨x,hx,rfl⟩:=List.mem_map.1 hl
 exact jaa (h.clean x hx)
theorem xL{eds:List Ed}(h:∀ed∈eds,zJ ed=0):∀l∈zg eds,(10:UInt8)∉l:=by
 intro l hl
 obtain⟨ed,h1,h2⟩:=List.mem_flatMap.1 hl
 exact jan (Yc (h ed h1)) l h2
theorem xj(ed:Ed)(r:List Ed):ji (ed::r)=edT ed++ji r:=by
 unfold ji zg edT;rw[jiy,vj]
theorem Vr:ji []=[]:=rfl
theorem Ys(a b:List Ed):ji (a++b)=ji a++ji b:=by
 unfold ji zg;rw[jiN,vj]
theorem KP(a:List Ed)(ed:Ed):ji (a++[ed])=ji a++edT ed:=by
 rw[Ys,xj,Vr,jiO]
theorem WK(ls:List (List UInt8))(h:∀l∈ls,(10:UInt8)∉l):(jg (jk ls)).flatMap (fun x=>[32,32]++x.bytes)=jk (ls.map yW):=by
 show(jF 0 0 (jk ls)).flatMap _=_
 rw[yV ls 0 0 h]
 suffices ∀(ls:List (List UInt8)) (no c:Nat),(num no c ls).flatMap (fun x=>[32,32]++x.bytes)=jk (ls.map yW) from this ls 0 0
 intro ls
 induction ls with
 | nil=>intro no c;rfl
 | cons l r ih =>
 intro no c
 show([32,32]++(⟨no,c,l,true⟩:Ln).bytes)++(num (no+1) (c+l.length+1) r).flatMap _=_
 rw[ih]
 unfold jk yW Ln.bytes
 simp
theorem jaf(fs:List Fld):jO fs=jk (jp fs):=by
 unfold jO jk jp;rw[List.flatMap_assoc]
theorem jeV{ed:Ed}(h:yG ed.fields):edT ed=zt ed.kind ed.id++10::(jg (jO ed.fields)).flatMap (fun x=>[32,32]++x.bytes):=by
 rw[jaf,WK _ h.clean]
 show jk (_::_)=_
 unfold jk;simp
def yL(l:List UInt8):Int:=if l=zT 1 then 1 else if l=zT 2 then 2 else if l=zT 3 then 3 else 0
theorem Kj{k:Int}(h:k=1\/k=2\/k=3):yL (zT k)=k:=by
 rcases h with rfl|rfl|rfl<;>decide
def zU(t:List UInt8):List Fld:=match jA (dd [32,32] ((jg t).map VF)).1 with | .error _=>[] | .ok its=>(JW its).flatten
def yb(t:List UInt8):List UInt8:=t.takeWhile (· != 10)
def VI(t:List UInt8):List UInt8:=t.drop ((yb t).length+1)
def Zv(t:List UInt8):List UInt8:=(Lib.trimPrefix (yb t) [32]).takeWhile (· != 32)
def jeg(t:List UInt8):List UInt8:=(Lib.trimPrefix (yb t) [32]).drop ((Zv t).length+1)
def qo(t:List UInt8):Ed:=⟨yL (Zv t),qm (jeg t),zU (VI t)⟩
theorem jgC(c:UInt8)(a b:List UInt8)(h:c∉a):(a++c::b).takeWhile (· != c)=a:=by
 induction a with
 | nil=>simp
 | cons x r ih =>
 have hx:(x != c)=true:=by
  have:c≠x:=fun e=>h (e▸jis)
  simp;exact fun e=>this e.symm
 rw[jiz,jjc,if_pos hx,ih (fun hm=>h (jir _ hm))]
theorem jhc(c:UInt8)(a b:List UInt8):(a++c::b).drop (a.length+1)=b:=by
 rw[show a++c::b=(a++[c])++b by simp]
 exact jjo (by simp)
theorem XX{fs:List Fld}(h:yG fs):zU (jk ((jp fs).map yW))=fs:=by
 unfold zU
 have e:=jer [32,32] (by decide) (jk (jp fs))
 rw[WK _ h.clean]at e
 rw[e]
 show(match jA (jk (jp fs)) with | .error _=>[] | .ok its=>(JW its).flatten)=fs
 by_cases h0:fs=[]
 ·subst h0;rfl
 have p:=VO [⟨3,jk (jp fs),fs⟩] (by show 1<=400;decide) (fun it hit=>by rw[List.mem_singleton.1 hit];exact jaw fs h.each h0 h.len)
 have e1:(zb [(⟨3,jk (jp fs),fs⟩:It)])=[⟨3,jk (jp fs),fs⟩]:=rfl
 rw[e1]at p
 have e2:([(⟨3,jk (jp fs),fs⟩:It)].flatMap It.raw)=jk (jp fs):=by simp
 rw[e2]at p
 rw[p]
 show(JW [(⟨3,jk (jp fs),fs⟩:It)]).flatten=fs
 simp[JW]
theorem ja8{ed:Ed}(h:yG ed.fields)(hk:ed.kind=1\/ed.kind=2\/ed.kind=3)(hi:I64 ed.id):qo (edT ed)=ed:=by
 have e:edT ed=zt ed.kind ed.id++10::jk ((jp ed.fields).map yW):=by
  show jk (_::_)=_
  unfold jk;simp
 have e1:yb (edT ed)=zt ed.kind ed.id:=by rw[e];exact jgC 10 _ _ (ZC _ _)
 have e2:VI (edT ed)=jk ((jp ed.fields).map yW):=by unfold VI;rw[e1,e];exact jhc 10 _ _
 have e3:zt ed.kind ed.id=32::(zT ed.kind++32::Lib.itoa ed.id):=by unfold zt;rw[if_pos hk]
 have e4:Lib.trimPrefix (yb (edT ed)) [32]=zT ed.kind++32::Lib.itoa ed.id:=by
  rw[e1,e3];simp[Lib.trimPrefix,Lib.hasPrefix]
 have e5:Zv (edT ed)=zT ed.kind:=by unfold Zv;rw[e4];exact jgC 32 _ _ (KV (by decide))
 have e6:jeg (edT ed)=Lib.itoa ed.id:=by unfold jeg;rw[e4,e5];exact jhc 32 _ _
 unfold qo
 rw[e5,e6,e2,Kj hk,vD hi,XX h]
def zq(t:List UInt8):Nat->List Ln->List (List UInt8)
 | b,[]=>[t.drop b]
 | b,x::r=>if b<x.at_/\Lib.hasPrefix x.text [32,32]=false then (t.drop b).take (x.at_-b)::zq t x.at_ r else zq t b r
def vI(t:List UInt8):List Ed:=(zq t 0 (jg t)).map qo
theorem xZ(t:List UInt8)(b:Nat):∀(ls:List (List UInt8)) (no c:Nat) (ys:List Ln),zq t b (num no c (ls.map yW)++ys)=zq t b ys
 | [],_,_,_=>rfl
 | l::r,no,c,ys=>by
  show zq t b (⟨no,c,yW l,true⟩::(num (no+1) (c+(yW l).length+1) (r.map yW)++ys))=_
  rw[zq,if_neg (by intro h;exact absurd h.2 (by simp[Lib.hasPrefix,yW]))]
  exact xZ t b r _ _ ys
theorem jbH{k id:Int}(hk:k=1\/k=2\/k=3):Lib.hasPrefix (zt k id) [32,32]=false:=by
 unfold zt
 rw[if_pos hk]
 rcases hk with rfl|rfl|rfl<;>rfl
theorem QK(t:List UInt8):∀(r:List Ed) (pre cur:List UInt8) (no:Nat),t=pre++(cur++ji r)->cur≠[]->(∀ed∈r,ed.kind=1\/ed.kind=2\/ed.kind=3) ->
  zq t pre.length (num no (pre.length+cur.length) (zg r))=cur::r.map edT
 | [],pre,cur,no,h,hc,_=>by
  show [t.drop pre.length]=[cur]
  rw[h,jjo rfl,Vr,jiO]
 | e::r,pre,cur,no,h,hc,hk=>by
  have hpos:0<cur.length:=List.length_pos_iff.2 hc
  have e1:zg (e::r)=zt e.kind e.id::((jp e.fields).map yW++zg r):=by
   unfold zg;rw[jiy];rfl
  rw[e1]
  show zq t pre.length (⟨no,pre.length+cur.length,zt e.kind e.id,true⟩::num (no+1) (pre.length+cur.length+(zt e.kind e.id).length+1) ((jp e.fields).map yW++zg r))=_
  rw[zq,if_pos ⟨by show pre.length<pre.length+cur.length;omega,jbH (hk e jis)⟩]
  rw[yC,xZ]
  have ih:=QK t r (pre++cur) (edT e) (no+1+((jp e.fields).map yW).length) (by rw[h,xj];simp) (by unfold edT jcp jk;simp) (fun x hx=>hk x (jir _ hx))
  have el:(edT e).length=(zt e.kind e.id).length+1+(jk ((jp e.fields).map yW)).length:=by unfold edT jcp jk;simp;omega
  rw[jik]at ih
  rw[show pre.length+cur.length+(zt e.kind e.id).length+1+(jk ((jp e.fields).map yW)).length=pre.length+cur.length+(edT e).length by omega]
  rw[show(⟨no,pre.length+cur.length,zt e.kind e.id,true⟩:Ln).at_=pre.length+cur.length from rfl,ih,jiX]
  congr 1
  rw[h,jjo rfl,show pre.length+cur.length-pre.length=cur.length by omega,List.take_left' rfl]
theorem Gv{eds:List Ed}(h0:eds≠[])(hg:∀ed∈eds,zJ ed=0)(hi:∀ed∈eds,I64 ed.id):vI (ji eds)=eds:=by
 cases eds with
 | nil=>exact absurd rfl h0
 | cons e r =>
 unfold vI
 rw[show jg (ji (e::r))=num 0 0 (zg (e::r)) from yV _ 0 0 (xL hg)]
 have e1:zg (e::r)=zt e.kind e.id::((jp e.fields).map yW++zg r):=by
  unfold zg;rw[jiy];rfl
 have e2:zq (ji (e::r)) 0 (num 0 0 (zg (e::r)))=(e::r).map edT:=by
  rw[e1]
  show zq _ 0 (⟨0,0,zt e.kind e.id,true⟩::num 1 (0+(zt e.kind e.id).length+1) ((jp e.fields).map yW++zg r))=_
  rw[zq,if_neg (by intro h;exact absurd h.1 (Nat.lt_irrefl _)),yC,xZ]
  have ih:=QK (ji (e::r)) r [] (edT e) (1+((jp e.fields).map yW).length) (by rw[xj];rfl) (by unfold edT jcp jk;simp) (fun x hx=>Jd (hg x (jir _ hx)))
  have el:(edT e).length=(zt e.kind e.id).length+1+(jk ((jp e.fields).map yW)).length:=by unfold edT jcp jk;simp;omega
  rw[el]at ih
  simp only[jiJ]at ih
  rw[show 0+((zt e.kind e.id).length+1+(jk ((jp e.fields).map yW)).length)=0+(zt e.kind e.id).length+1+(jk ((jp e.fields).map yW)).length by omega]at ih
  exact ih
 rw[e2,jjA]
 conv=>rhs;rw[<- List.map_id (e::r)]
 exact jkd fun x hx=>ja8 (Yc (hg x hx)) (Jd (hg x hx)) (hi x hx)
def XU(t:List UInt8):Option (List Ed):=if t.length<=50000/\(qP (vI t)).2=0/\ji (vI t)=t then some (vI t) else none
theorem jcM(l:List UInt8):I64 (qm l):=by
 unfold qm
 cases h:Lib.atoiAll l with
 | ok v =>
  show I64 v
  unfold Lib.atoiAll at h
  split at h
  ·cases h
  simp only at h
  split at h
  ·cases h
  ·cases h
  split at h
  ·cases h
  split at h
  ·cases h
  injection h with h
  subst h
  split
  ·exact⟨by omega,by omega⟩
  exact⟨by omega,by omega⟩
 | range =>
  show I64 (Lib.atoiSat l)
  unfold Lib.atoiSat
  split
  ·exact⟨by decide,by decide⟩
  exact⟨by decide,by decide⟩
 | _=>exact(⟨by decide,by decide⟩:I64 0)
theorem Wr(t:List UInt8):∀ed∈vI t,I64 ed.id:=by
 intro ed hed
 obtain⟨p,_,rfl⟩:=List.mem_map.1 hed
 exact jcM _
theorem xH{t:List UInt8}{eds:List Ed}:XU t=some eds↔t.length<=50000/\(qP eds).2=0/\(∀ed∈eds,I64 ed.id)/\ji eds=t:=by
 unfold XU
 constructor
 ·intro h
  split at h
  ·rename_i q
   injection h with h
   subst h
   exact⟨q.1,q.2.1,Wr t,q.2.2⟩
  cases h
 rintro⟨h1,h2,h3,rfl⟩
 obtain⟨⟨a,b⟩,c⟩:=vC h2
 have e:=Gv (by intro e;rw[e]at a;simp at a) c h3
 rw[if_pos ⟨h1,by rw[e];exact h2,by rw[e]⟩,e]
end Go.Proofs.YtimfhnfcmhmjcaaGreatDoor
namespace Go.Proofs.YtimfhnfcmhmjcaaGreatDoor
open Go.RowKit Go.Shelf
attribute [local go_sem] jit
theorem qV{P:Program}{w w':World}{N:Nat}{name:String}{cs:Array Value}(h:w.var? P name=some cs)(hb:Below N w w')(hN:w.heap.size<=N):w'.var? P name=some cs:=by
 unfold World.var? at *
 cases hg:P.globalNamed name with
 | none=>simp[hg]at h
 | some g =>
 simp only[hg,Option.bind_some]at h ⊢
 have hlt:g<w.heap.size:=by
  rcases jiK g w.heap.size with h'|h'
  ·exact h'
  rw[ji1 h']at h;simp at h
 rw[hb.block g (by omega)]
 exact h
structure Tabs(w:World):Prop where
 err:ErrT w
 pow:Lib.TabIs Tryz.prog w "internal/strconv.uint64pow10" .u64 Lib.pow10Tab
 syn:∃tp p,w.var? Tryz.prog "strconv.ErrSyntax" = some #[.iface tp p]
 ran:∃tp p,w.var? Tryz.prog "strconv.ErrRange" = some #[.iface tp p]
theorem Tabs.below{w w':World}{N:Nat}(h:Tabs w)(hb:Below N w w')(hN:w.heap.size<=N):Tabs w':=by
 obtain⟨a,b,⟨t1,p1,c⟩,⟨t2,p2,d⟩⟩:=h
 exact⟨a.below hb hN,qV b hb hN,⟨t1,p1,qV c hb hN⟩,⟨t2,p2,qV d hb hN⟩⟩
theorem jeY(a b:List UInt8):((B a).toList==(B b).toList)=decide (a=b):=by rw[jjt,jjt,jo,jo,jjm];simp
theorem JR(k:Int)(w:World):Calls Tryz.prog 149 #[.int .i64 k] w fun e w'=>e=.returned (.string (B (zT k)))/\w'=w:=by
 unfold zT
 by_cases h1:k=1
 ·subst h1
  go_enter Tryz.func149,Tryz.ntmps149
  go_wp2_with fail
  go_ret
  exact⟨rfl,rfl⟩
 have q1:(k==1)=false:=by simpa using h1
 rw[if_neg h1]
 by_cases h2:k=2
 ·subst h2
  go_enter Tryz.func149,Tryz.ntmps149
  go_wp2_with fail
  go_ret
  exact⟨rfl,rfl⟩
 have q2:(k==2)=false:=by simpa using h2
 rw[if_neg h2]
 by_cases h3:k=3
 ·subst h3
  go_enter Tryz.func149,Tryz.ntmps149
  go_wp2_with fail
  go_ret
  exact⟨rfl,rfl⟩
 have q3:(k==3)=false:=by simpa using h3
 rw[if_neg h3]
 go_enter Tryz.func149,Tryz.ntmps149
 go_wp2_with fail
 go_ret
 exact⟨rfl,rfl⟩
theorem vz{w:World}(n:Nat)(os:Array Obj):Below w.heap.size w (Go.Sort.grow (w.drewN n) os) :=
 ⟨rfl,rfl,rfl,by rw[Go.Sort.size_grow];exact Nat.le_add_right _ _,fun k hk=>jkz _ _ hk⟩
theorem jbI(ed:Ed)(fv:Value)(hi:I64 ed.id)(w:World)(ht:Tabs w):
  Calls Tryz.prog 89 #[.agg #[.int .i64 ed.kind,.int .i64 ed.id,fv]] w fun e w'=>e=.returned (.string (B (zt ed.kind ed.id)))/\Below w.heap.size w w':=by
 obtain⟨wa,hwa⟩:∃wa,wa=w.alloc (.cells #[.int .i64 ed.kind,.int .i64 ed.id,fv] 80):=⟨_,rfl⟩
 have hba:Below w.heap.size w wa:=by rw[hwa];exact(jil _ w).alloc (jij _) _
 have HB:=jii hba
 have IT:=jii (Tryz.strconv_Itoa ed.id hi.1 hi.2 wa (ht.below hba (jij _)).pow)
 have WD:=jii (JR ed.kind wa)
 have hil:=Lib.itoa_length_le ed.id hi.1 hi.2
 have k0:wa.cell? ⟨w.heap.size,0,none⟩=some (.int .i64 ed.kind):=by rw[hwa];simp
 have k1:wa.cell? ⟨w.heap.size,1,none⟩=some (.int .i64 ed.id):=by rw[hwa];simp
 by_cases hk:ed.kind=1\/ed.kind=2\/ed.kind=3
 ·have e3:Hid (∀z:ByteArray,z=(⟨(Lib.itoa ed.id).toArray⟩:ByteArray)->(⟨#[32]⟩:ByteArray)++B (zT ed.kind) ++ ⟨#[32]⟩++z=B (zt ed.kind ed.id)):=by
   rintro z rfl
   unfold zt
   rw[if_pos hk,show(⟨#[32]⟩:ByteArray)=B [32] from rfl,show(⟨(Lib.itoa ed.id).toArray⟩:ByteArray)=B (Lib.itoa ed.id) from rfl,jE,jE,jE]
   congr 1;simp
  have hne:((B (zT ed.kind))==(⟨#[]⟩:ByteArray))=false:=by
   rcases hk with h|h|h<;>rw[h]<;>decide
  have hne2:(B (zT ed.kind)).toList.isEmpty=false:=by
   rcases hk with h|h|h<;>rw[h]<;>decide +kernel
  have hws:(B (zT ed.kind)).size<=7:=by rw[jm];rcases hk with h | h | h<;>rw[h]<;>decide
  have his:(⟨(Lib.itoa ed.id).toArray⟩:ByteArray).size<=21:=by show(Lib.itoa ed.id).toArray.size<=21;simpa using hil
  generalize (⟨(Lib.itoa ed.id).toArray⟩:ByteArray)=z at *
  generalize B (zT ed.kind)=wd at *
  have s1:((⟨#[32]⟩:ByteArray)++wd).size<=8:=by rw[jji];show 1+_<=_;omega
  have s2:((⟨#[32]⟩:ByteArray)++wd ++ ⟨#[32]⟩).size<=9:=by rw[jji];show _+1<=_;omega
  clear hba ht
  subst hwa
  go_enter Tryz.func89,Tryz.ntmps89
  go_wp2_with fail
  refine WD.out.mono ?_
  rintro e w2 ⟨rfl,rfl⟩
  go_wp2_with fail
  refine IT.out.mono ?_
  rintro e w3 ⟨rfl,n,os,rfl⟩
  have B3:=jii (HB.out.trans ((vz n os).mono HB.out.size))
  go_wp2_with fail
  go_ret
  exact⟨by rw[e3.out _ rfl];rfl,B3.out⟩
 have e0:zT ed.kind=[]:=by
  unfold zT
  rw[if_neg (by omega),if_neg (by omega),if_neg (by omega)]
 have e1:zt ed.kind ed.id=[]:=by unfold zt;rw[if_neg hk]
 rw[e0]at WD
 rw[e1]
 rw[show B []=(⟨#[]⟩:ByteArray) from rfl]at WD ⊢
 clear hba ht
 subst hwa
 go_enter Tryz.func89,Tryz.ntmps89
 go_wp2_with fail
 refine WD.out.mono ?_
 rintro e w2 ⟨rfl,rfl⟩
 go_wp2_with fail
 go_ret
 exact⟨rfl,HB.out⟩
def Qg(j:List UInt8)(xs:List Ln):List UInt8:=xs.flatMap fun x=>j++x.bytes
theorem Xj(j:List UInt8)(pre:List Ln)(x:Ln):Qg j (pre++[x])=Qg j pre++j++x.text++(Yh x.ended).data.toList:=by
 have e:(Yh x.ended).data.toList=if x.ended then [10] else []:=by unfold Yh;cases x.ended<;>rfl
 rw[e]
 simp[Qg,Ln.bytes]
theorem WL(j:List UInt8)(n m:Nat):∀xs:List Ln,(∀x∈xs,x.bytes.length<=m)->xs.length<=n->j.length<=m->(Qg j xs).length<=n*(2*m)
 | [],_,_,_=>by simp[Qg]
 | x::xs,h,hn,hj=>by
  obtain⟨n,rfl⟩:∃k,n=k+1:=⟨n-1,by simp at hn;omega⟩
  have ih:=WL j n m xs (fun y hy=>h y (jir _ hy)) (by simpa using hn) hj
  have h1:=h x jis
  have e:Qg j (x::xs)=j++x.bytes++Qg j xs:=by simp[Qg]
  rw[e,Nat.add_mul]
  simp only[jik]
  omega
def jhx(w:World)(z R:Nat)(j:List UInt8)(pre:List Ln)(W:World):Prop :=
 Boxed W z 9 (.string ⟨j.toArray⟩)/\Bld (z+1) R (Qg j pre) W/\Below w.heap.size w W
theorem GZ(s:ByteArray)(hs:s.size<=1000000)(sl:Value)(j:List UInt8)(hj:j.length<=1000000)(w:World)
  (hjoin:Calls Tryz.prog 152 #[sl,.string ⟨#[]⟩] w fun e w'=>e=.returned (.string ⟨j.toArray⟩)/\Below w.heap.size w w') :
  Calls Tryz.prog 91 #[.string s,sl] w fun e w'=>e=.returned (.string ⟨(Qg j (jg s.data.toList)).toArray⟩)/\Below w.heap.size w w':=by
 have hpos:∀x∈jg s.data.toList,x.bytes.length<=1000000:=by
  intro x hx
  have e:=jT s.data.toList
  obtain⟨a,b,hab⟩:=List.append_of_mem hx
  rw[hab,jiN,jiy]at e
  have:=congrArg List.length e
  rw[<- jiV]at this
  simp only[jik]at this
  omega
 have hll:=qy s.data.toList
 rw[<- jiV]at hll
 obtain⟨xs,hxs⟩:∃xs,jg s.data.toList=xs:=⟨_,rfl⟩
 rw[hxs]at hpos hll ⊢
 have HXS:=jii hxs
 clear hxs
 refine callsIn_wide (n:=9).1 ?_
 refine callsIn_of_wp_marks Tryz.func91 rfl trivial ?_ rfl
 simp only[Tryz.ntmps91,ji5,jin,jiJ,Nat.reduceAdd,Nat.reduceSub,ji3,ji4,jje,ji6,jiZ,jiz]
 gi_wp2_with fail
 refine⟨trivial,(callsIn_wide.2 hjoin).mono ?_⟩
 rintro e w1 ⟨rfl,hb1⟩
 have zs:=hb1.size
 gi_wp2_with fail
 refine⟨trivial,(callsIn_wide.2 (vx s _)).mono ?_⟩
 rintro e w3 ⟨rfl,rfl⟩
 gi_wp2_with fail
 have k5:=jjs w1 9 (.string ⟨j.toArray⟩)
 have kb:=Bld.new (w1.alloc (.cells #[.string ⟨j.toArray⟩] 9)) (w1.heap.size+8)
 rw[jiB]at kb
 have k7:=Jj w1 (.cells #[.string ⟨j.toArray⟩] 9) (.cells #[.pointer none,.slice none 0 0] 167) 9 (.string s)
 have HH:=qq s (w1.heap.size+2) _ k7 (by omega)
 rw[HXS.out]at HH
 have hz:(((w1.alloc (.cells #[.string ⟨j.toArray⟩] 9)).alloc (.cells #[.pointer none,.slice none 0 0] 167)).alloc (.cells #[.string s] 9)).heap.size=w1.heap.size+3:=by simp
 have ab:∀k,k<=5->zo (w1.heap.size+3) k (jhx w w1.heap.size (w1.heap.size+8) j):=fun k hk pre W W' h ht =>
  ⟨ht.box h.1 (.inl (by omega)),h.2.1.turned ht (by omega) (by omega),h.2.2.trans (ht.below (by omega) h.2.2.size)⟩
 have init:jhx w w1.heap.size (w1.heap.size+8) j [] (((w1.alloc (.cells #[.string ⟨j.toArray⟩] 9)).alloc (.cells #[.pointer none,.slice none 0 0] 167)).alloc (.cells #[.string s] 9)) :=
  ⟨(k5.alloc _).alloc _,kb.alloc _,((hb1.alloc (by omega) _).alloc (by simp;omega) _).alloc (by simp;omega) _⟩
 refine qS (gf:=159) (lb:=#[.pointer (some ⟨w1.heap.size+2,0,none⟩)]) rfl (enters_of Tryz.func159 (by kernel_rfl) rfl) HH (fun _=>rfl)
  (jhx w w1.heap.size (w1.heap.size+8) j) (fun _ _ _=>False) (by rw[hz];exact ab _ (by omega)) (fun _ _ _ _ hs _=>hs) init
  (fun a pre x a' W=>∃Bx,w1.heap.size+3+5<=Bx/\a'={tmps:=(a.tmps.setIfInBounds 12 (.agg (qu x))).setIfInBounds 7 (.pointer (some ⟨Bx,0,none⟩)),defers:=[]}/\ja W Bx 182 (qu x) /\
   jhx w w1.heap.size (w1.heap.size+8) j pre W)
  ?hM ?assign ?body ?done ?stop
 case hM =>
  rw[hz]
  rintro a pre x a' _ W W' ⟨Bx,h1,h2,h3,h4⟩ ht
  exact⟨Bx,h1,h2,(ht.same Bx h3.lt (.inr (by omega))).trans h3,ab 2 (by omega) pre W W' h4 ht⟩
 case assign =>
  rw[hz]
  intro l pre x post W hx hsz hi
  clear hx
  dsimp only[qu]
  gi_wp2
  exact⟨(qC.refl _ _ W).alloc hsz _,W.heap.size,by omega,rfl,ja.new _ _ _,hi.1.alloc _,hi.2.1.alloc _,hi.2.2.alloc hi.2.2.size _⟩
 case body =>
  rw[hz]
  rintro l pre x post a' W hx hsz ⟨Bx,hB,rfl,hc,h1,h2,h3⟩
  have hlen:(Qg j (pre++[x])).length<=1000000*(2*1000000):=by
   refine WL j 1000000 1000000 _ (fun y hy=>hpos y ?_) ?_ hj
   ·rw[hx]
    rcases List.mem_append.1 hy with h|h
    ·exact List.mem_append_left _ h
    rw[List.mem_singleton.1 h];simp
   have:=congrArg List.length hx
   simp at this ⊢
   omega
  rw[Xj]at hlen
  simp only[jik,<- jiV]at hlen
  have HS:=jii (Xj j pre x)
  clear hx
  simp only[jiC,jjj,jjk,qu]at hc ⊢
  have c5:=h1.cell
  have hne:Bx≠w1.heap.size+1:=by omega
  obtain⟨en,hen⟩:∃en,x.ended=en:=⟨_,rfl⟩
  rw[hen]at hlen hc ⊢
  gi_wp2_with fail
  refine⟨trivial,((callsIn_wide.2 (xn (w1.heap.size+1) (w1.heap.size+8) _ ⟨j.toArray⟩ W h2 (by omega) (by omega) ?_)).inRound l).mono ?_⟩
  ·have:(⟨j.toArray⟩:ByteArray).size=j.length:=by simp[ByteArray.size]
   omega
  rintro e W1 ⟨rfl,b1,o1⟩
  have m1:ja W1 Bx 182 _:=o1.other hc hne (by decide)
  have p2:W1.cell? ⟨Bx,2,none⟩=some (.string ⟨x.text.toArray⟩):=m1.cell 2
  have z1:=o1.size
  gi_wp2_with fail
  refine⟨trivial,((callsIn_wide.2 (xn (w1.heap.size+1) (w1.heap.size+8) _ ⟨x.text.toArray⟩ W1 b1 (by omega) (by omega) ?_)).inRound l).mono ?_⟩
  ·have e1:(⟨x.text.toArray⟩:ByteArray).size=x.text.length:=by simp[ByteArray.size]
   simp only[jik,e1]
   omega
  rintro e W2 ⟨rfl,b2,o2⟩
  have m2:ja W2 Bx 182 _:=o2.other m1 hne (by decide)
  have z2:=o2.size
  have q0:W2.cell? ⟨Bx,0,none⟩=some (.int .i64 x.no):=m2.cell 0
  have q1:W2.cell? ⟨Bx,1,none⟩=some (.int .i64 x.at_):=m2.cell 1
  have q2:W2.cell? ⟨Bx,2,none⟩=some (.string ⟨x.text.toArray⟩):=m2.cell 2
  have q3:W2.cell? ⟨Bx,3,none⟩=some (.bool en):=m2.cell 3
  gi_wp2_with fail
  refine⟨trivial,((callsIn_wide.2 (KC _ _ _ _ _)).inRound l).mono ?_⟩
  rintro e W3 ⟨rfl,rfl⟩
  gi_wp2_with fail
  refine⟨trivial,((callsIn_wide.2 (xn (w1.heap.size+1) (w1.heap.size+8) _ (Yh en) _ (b2.alloc _) (by omega) (by simp;omega) ?_)).inRound l).mono ?_⟩
  ·have e1:(⟨x.text.toArray⟩:ByteArray).size=x.text.length:=by simp[ByteArray.size]
   simp only[jik]
   omega
  rintro e W4 ⟨rfl,b3,o3⟩
  gi_wp2_with fail
  have oo:=((o1.trans o2).alloc (.cells #[.int .i64 x.no,.int .i64 x.at_,.string ⟨x.text.toArray⟩,.bool en] 182)).trans o3
  refine⟨oo.stay (by omega) (by omega) (by omega),oo.box h1 (by omega) (by omega),?_,h3.trans (oo.below (by omega) (by omega) (by have:=h3.size;omega))⟩
  rw[HS.out,hen]
  exact b3
 case done =>
  rw[hz]
  rintro W ⟨h1,h2,h3⟩ hmark
  have zW:w1.heap.size+3<W.heap.size:=(Array.getElem?_eq_some_iff.1 hmark).1
  gi_wp2_with fail
  refine⟨trivial,(callsIn_wide.2 (Tryz.Builder_String_any_k w.heap.size (w1.heap.size+1) _ W (h2.library (by omega) (by omega)) (by omega))).mono ?_⟩
  rintro e W1 ⟨rfl,_,g2,g3⟩
  have hK:W1.heap[w1.heap.size+3]?=some (.deferred (some [])):=g3 _ _ hmark (by simp) (fun c fz e=>by cases e)
  gi_wp2
  refine⟨by simp,.inl ⟨_,_,rfl,run_takeDeferred hK,?_⟩⟩
  refine⟨_,results_tmp rfl _ _ _,rfl,(h3.trans g2).trans (belowK_b (w:=w) (jij _) W1 _ _ _ (by omega) hK rfl rfl)⟩
 case stop=>exact fun _ _ _ _ h=>h.elim
theorem GY(s a:ByteArray)(hs:s.size<=1000000)(ha:a.size<=100000)(bk:Nat)(w:World)(h0:w.cell? ⟨bk,0,none⟩=some (.string a))(hbk:bk<w.heap.size):
  Calls Tryz.prog 91 #[.string s,.slice (some ⟨bk,0,none⟩) 1 1] w fun e w'=>e=.returned (.string ⟨(Qg a.data.toList (jg s.data.toList)).toArray⟩)/\Below w.heap.size w w':=by
 refine GZ s hs _ _ (by rw[<- jiV];omega) w ?_
 have hj:Lib.join ([a].map (·.data.toList)) (⟨#[]⟩:ByteArray).data.toList=a.data.toList:=by simp[Lib.join]
 have:=Tryz.strings_Join bk 0 1 [a] ⟨#[]⟩ w (fun j x hx=>by
  match j,hx with
  | 0,hx=>cases hx;exact h0) hbk (by simp) (by simp) (by rw[hj,<- Lib.size_eq];omega)
 rw[hj]at this
 exact this
theorem Ub{fs:List Fld}(h:yG fs):(jO fs).length<=4000*fs.length:=by
 replace h:=h.each
 induction fs with
 | nil=>exact jij _
 | cons f r ih =>
 have e:jO (f::r)=jk (jX f.1 f.2)++jO r:=by unfold jO;rw[jiy]
 obtain⟨a,b⟩:=h f jis
 have:=jaS (k:=f.1) (v:=f.2) (by unfold za;rw[if_pos a,if_pos b])
 rw[e,jik,jin]
 have:=ih (fun x hx=>h x (jir _ hx))
 omega
theorem yG.foldN{fs:List Fld}(h:yG fs):foldN fs=0:=Ye fs fun f hf=>by
 obtain⟨a,b⟩:=h.each f hf
 unfold za;rw[if_pos a,if_pos b]
theorem yG.foldT{fs:List Fld}(h:yG fs):foldT fs=jO fs:=by unfold Proofs.YtimfhnfcmhmjcaaGreatDoor.foldT;rw[if_pos h.foldN]
theorem yX{k:List UInt8}(h:jR k=true):k.length<=32:=(qU h).2.1
theorem yG.small{fs:List Fld}(h:yG fs):∀f∈fs,f.1.length<=100000/\f.2.length<=100000:=fun f hf=>by
 obtain⟨a,b⟩:=h.each f hf
 have:=yX a
 omega
theorem jg0(ls:List Ln):(ls.flatMap (fun x=>[32,32]++x.bytes)).length=2*ls.length+(ls.flatMap Ln.bytes).length:=by
 induction ls with
 | nil=>rfl
 | cons x r ih =>
 rw[jiy,jiy,jik,jik,ih,jik,jin]
 simp only[jin,jiJ]
 omega
theorem Xx{ed:Ed}(h:yG ed.fields):edT ed=(zt ed.kind ed.id++[10])++Qg [32,32] (jg (jO ed.fields)):=by
 rw[jeV h];unfold Qg;simp
theorem jhb{ed:Ed}(h:yG ed.fields)(hi:I64 ed.id):(edT ed).length<=600000:=by
 have h1:=Ub h
 have h2:=h.len
 have h3:=qy (jO ed.fields)
 have h4:=Lib.itoa_length_le ed.id hi.1 hi.2
 have h5:(zt ed.kind ed.id).length<=40:=by
  unfold zt
  split
  ·rename_i hk
   have:(zT ed.kind).length<=7:=by rcases hk with e | e | e<;>rw[e]<;>decide
   rw[jin,jik,jin];omega
  simp
 rw[jeV h,jik,jin,jg0,jT]
 omega
def jhX(w w':World)(eds:List Ed)(e:Ending):Prop :=
 Below w.heap.size w w'/\(((qP eds).2=0/\e=.returned (.tuple #[.string (B (ji eds)),.nilIface]))\/((qP eds).2≠0/\∃u,e=.returned (.tuple #[.string ⟨#[]⟩,u])/\qR w.heap.size w' u (qP eds).1 (qP eds).2))
theorem Vk(eds:List Ed)(v:Value)(w:World)(h:EdV w v eds)(hl:eds.length<=1000000)(hf:Vv eds)(hi:∀ed∈eds,I64 ed.id)(ht:Tabs w):
  Calls Tryz.prog 53 #[v] w fun e w'=>jhX w w' eds e:=by
 have CK:=jii (ZV eds v w h hl hf ht.err)
 obtain⟨A,cap,rfl,hle,hc⟩:=h
 have PC:=jii hc
 have HT:=jii ht
 have HI:=jii hi
 clear hc hf ht hi
 go_enter Tryz.func53,Tryz.ntmps53
 go_wp2_with fail
 refine CK.out.mono ?_
 rintro e w1 ⟨u,rfl,b1,hz⟩
 by_cases h0:(qP eds).2=0
 ·obtain⟨⟨g1,g40⟩,GD⟩:=vC h0
  have GDH:=jii GD
  obtain rfl:u=.nilIface:=by
   obtain⟨_,⟨rfl,_⟩|⟨_,_,_,hx⟩⟩:=hz
   ·rw[h0];rfl
   exact absurd h0 hx
  have B1:=jii b1
  have Z0:=jii h0
  have hz1:=b1.size
  have NB:=Bld.new w1 (w1.heap.size+1)
  have NBB:Below w.heap.size w (w1.alloc (.cells #[.pointer none,.slice none 0 0] 167)):=b1.alloc b1.size _
  clear hz GD b1 CK h0
  go_wp2_with fail
  go_loopw [17] (fun i wr=>∃k:Nat,k<=eds.length/\i=.int .i64 k/\Bld w1.heap.size (w1.heap.size+1) (ji (eds.take k)) wr/\(ji (eds.take k)).length<=600000*k/\Below w.heap.size w wr/\w1.heap.size<wr.heap.size) (fun i _=>eds.length-(intOf i).toNat)
  case atStart=>exact⟨0,jiD _,rfl,NB,jij _,NBB,by simp⟩
  case round =>
  obtain⟨k,hk,rfl,hbl,hbt,hb,hzr⟩:=hrel
  by_cases hlt:k<eds.length
  ·obtain⟨ed,hed⟩:∃ed,eds[k]?=some ed:=⟨_,jim hlt⟩
   obtain⟨b,off,fv,rfl,hbb,c0,c1,c2,hfl⟩:=PC.out k ed hed
   obtain⟨fa,fc,rfl,_,_⟩:=_root_.id hfl.1
   replace c0:=(hb.cell (p:=⟨b,off+k*3,none⟩) hbb).trans c0
   replace c1:=(hb.cell (p:=⟨b,off+k*3+1,none⟩) hbb).trans c1
   replace c2:=(hb.cell (p:=⟨b,off+k*3+1+1,none⟩) hbb).trans c2
   have hge:=GDH.out ed (jiA hed)
   have hie:=HI.out ed (jiA hed)
   have GF:=Yc hge
   have TK:Hid (ji (eds.take (k+1))=ji (eds.take k)++((zt ed.kind ed.id++[10])++Qg [32,32] (jg (jO ed.fields)))):=by
    show _=_
    rw[qW hed,KP,Xx GF]
   have ELE:=jhb GF hie
   rw[Xx GF]at ELE
   obtain⟨wa,hwa⟩:∃wa,wa=wr.alloc (.cells #[.int .i64 ed.kind,.int .i64 ed.id,.slice fa ed.fields.length fc] 80):=⟨_,rfl⟩
   have hsr:=hb.size
   have hba:Below wr.heap.size wr wa:=by rw[hwa];exact(jil _ wr).alloc (jij _) _
   have hwz:wa.heap.size=wr.heap.size+1:=by rw[hwa];simp
   have cx:ja wa wr.heap.size 80 #[.int .i64 ed.kind,.int .i64 ed.id,.slice fa ed.fields.length fc]:=by rw[hwa];exact ja.new _ _ _
   have d0:=cx.cell 0
   have d1:=cx.cell 1
   have d2:=cx.cell 2
   have hB:=hb.trans (hba.mono hsr)
   have LNE:=jii (jbI ed (.slice fa ed.fields.length fc) hie wa (HT.out.below hB (jij _)))
   have blA:=hbl.kept hba (jij _)
   have BLA:=jii blA
   have HBA:=jii hB
   have CX:=jii cx
   have FLD:Hid (∀W,Below w.heap.size w W->Calls Tryz.prog 90 #[.slice fa ed.fields.length fc] W fun e w'=>e=.returned (.tuple #[.string (B (jO ed.fields)),.nilIface])/\Below W.heap.size W w'):=fun W hW=>by
    have:=WZ ed.fields (.slice fa ed.fields.length fc) W (hfl.1.below hW (jij _)) (by have:=GF.len;omega) GF.small
    rw[GF.foldT,GF.foldN]at this
    exact this
   have fle:=Ub GF
   have fl40:=GF.len
   have FLE:(B (jO ed.fields)).size<=160000:=by rw[jm];omega
   clear hed hfl hbl blA hba hB cx hge hie GF hbb fle fl40
   have WRL:Hid (∀(l:List UInt8) (s:ByteArray) (W:World),Bld w1.heap.size (w1.heap.size+1) l W->wr.heap.size<W.heap.size->l.length+s.size<=140737488355328 ->
     Calls Tryz.prog 88 #[.pointer (some ⟨w1.heap.size,0,none⟩),.string s] W fun e W'=>e=.returned (.tuple #[.int .i64 s.size,.nilIface])/\Bld w1.heap.size (w1.heap.size+1) (l++s.data.toList) W'/\qb w1.heap.size (w1.heap.size+1) W W'):=fun l s W h1 h2 h3=>xn _ _ l s W h1 (by omega) (by omega) h3
   have LE1:(B (zt ed.kind ed.id)).size+1+(Qg [32,32] (jg (jO ed.fields))).length<=600000:=by
    rw[jm];rw[jik,jik]at ELE;exact ELE
   have DL:=jii (jo (zt ed.kind ed.id))
   have DF:=jii (jo (jO ed.fields))
   have IND:Hid (∀W,Calls Tryz.prog 91 #[.string (B (jO ed.fields)),.slice (some ⟨W.heap.size,0,none⟩) 1 1] (W.alloc (.cells #[.string ⟨#[32,32]⟩] 9)) fun e W'=>e=.returned (.string (B (Qg [32,32] (jg (jO ed.fields)))))/\Below W.heap.size W W'):=fun W=>by
    refine(GY _ ⟨#[32,32]⟩ (by omega) (by decide) W.heap.size _ (by simp) (by simp)).mono ?_
    rintro e W' ⟨rfl,b⟩
    refine⟨?_,((jil _ W).alloc (jij _) _).trans (b.mono (by simp))⟩
    rw[show(⟨#[32,32]⟩:ByteArray).data.toList=[32,32] from rfl,jo];rfl
   have DI:=jii (jo (Qg [32,32] (jg (jO ed.fields))))
   have LEI:(B (Qg [32,32] (jg (jO ed.fields)))).size=(Qg [32,32] (jg (jO ed.fields))).length:=jm _
   have LEL:(B (zt ed.kind ed.id)).size=(zt ed.kind ed.id).length:=jm _
   clear DF
   generalize hIND:B (Qg [32,32] (jg (jO ed.fields)))=ind at *
   generalize hIL:Qg [32,32] (jg (jO ed.fields))=indl at *
   generalize hLA:B (zt ed.kind ed.id)=la at *
   generalize hLL:zt ed.kind ed.id=lal at *
   generalize hFG:B (jO ed.fields)=fg at *
   generalize hBT:ji (eds.take k)=bt at *
   clear hIND hIL hLA hLL hFG d0 d1 d2
   have D2:Hid (∀W,ja W wr.heap.size 80 #[.int .i64 ed.kind,.int .i64 ed.id,.slice fa ed.fields.length fc]->W.cell? ⟨wr.heap.size,2,none⟩=some (.slice fa ed.fields.length fc)):=fun W h=>by rw[h.cell];rfl
   subst hwa
   go_wp2_with fail
   refine LNE.out.mono ?_
   rintro e w2 ⟨rfl,b2⟩
   have hs2:=b2.size
   rw[hwz]at hs2
   have bl2:=BLA.out.kept b2 (jij _)
   have HB2:=jii (HBA.out.trans (b2.mono HBA.out.size))
   have cx2:=jb CX.out b2 (by rw[hwz];omega)
   clear b2 LNE BLA
   go_wp2_with fail
   refine(WRL.out _ _ w2 bl2 (by omega) (by omega)).mono ?_
   rintro e w3 ⟨rfl,bl3,o3⟩
   have hs3:=o3.size
   have cx3:ja w3 wr.heap.size 80 _:=o3.other cx2 (by omega) (by decide)
   have HB3:=jii (HB2.out.trans (o3.below (by omega) (by omega) (by omega)))
   rw[DL.out]at bl3
   clear o3 cx2 bl2
   go_wp2_with fail
   refine(WRL.out _ ⟨#[10]⟩ w3 bl3 (by omega) (by rw[jik];show _+1<=_;omega)).mono ?_
   rintro e w4 ⟨rfl,bl4,o4⟩
   have hs4:=o4.size
   have cx4:ja w4 wr.heap.size 80 _:=o4.other cx3 (by omega) (by decide)
   have HB4:=jii (HB3.out.trans (o4.below (by omega) (by omega) (by omega)))
   have BL4:=jii bl4
   have d2:=D2.out w4 cx4
   have FL4:=jii (FLD.out w4 HB4.out)
   clear o4 cx3 bl3 bl4 FLD cx4
   go_wp2_with fail
   refine FL4.out.mono ?_
   rintro e w5 ⟨rfl,b5⟩
   have hs5:=b5.size
   have bl5:=BL4.out.kept b5 (jij _)
   have HB5:=jii (HB4.out.trans (b5.mono HB4.out.size))
   have BL5:=jii bl5
   have IN5:=jii (IND.out w5)
   clear b5 bl5 FL4 BL4 IND
   go_wp2_with fail
   refine IN5.out.mono ?_
   rintro e w6 ⟨rfl,b6⟩
   have hs6:=b6.size
   have bl6:=BL5.out.kept b6 (jij _)
   have HB6:=jii (HB5.out.trans (b6.mono HB5.out.size))
   clear b6 IN5 BL5
   go_wp2_with fail
   refine(WRL.out _ _ w6 bl6 (by omega) (by rw[jik,jik];show _+1+_<=_;omega)).mono ?_
   rintro e w7 ⟨rfl,bl7,o7⟩
   have hs7:=o7.size
   have HB7:=jii (HB6.out.trans (o7.below (by omega) (by omega) (by omega)))
   rw[DI.out]at bl7
   have BL7:=jii bl7
   clear o7 bl6 bl7
   go_wp2_with fail
   go_roundw
   case rel =>
    have eT:ji (eds.take (k+1))=bt++lal++(⟨#[10]⟩:ByteArray).data.toList++indl:=by
     rw[TK.out,show(⟨#[10]⟩:ByteArray).data.toList=[10] from rfl];simp
    refine⟨k+1,hlt,by go_num,by rw[eT];exact BL7.out,?_,HB7.out,by omega⟩
    rw[eT,jik,jik,jik]
    show _+_+1+_<=_
    omega
   case measure=>simp[intOf];omega
  obtain rfl:k=eds.length:=by omega
  rw[jiL]at hbl
  have Z:=jii Z0.out
  clear PC HT HI GDH hbt
  have hbs:=hb.size
  go_wp2_with fail
  refine(Tryz.Builder_String_any_k w1.heap.size w1.heap.size _ wr (hbl.library (jij _) (by omega)) (by omega)).mono ?_
  rintro e w5 ⟨rfl,_,b5,_⟩
  have B5:=jii (hb.trans (b5.mono hz1))
  go_wp2_with fail
  go_ret2
  exact⟨B5.out,.inl ⟨Z.out,rfl⟩⟩
 have NZ:=jii h0
 have Z1:=jii hz
 have B1:=jii b1
 obtain⟨_,⟨rfl,hx⟩|⟨kk,⟨q,_,rfl,_⟩,_,_⟩⟩:=hz
 ·obtain⟨n,hn⟩:∃n,n=(qP eds).2:=⟨_,rfl⟩
  have hpos:0<(qP eds).2:=jjx h0
  have ZR:Hid (jhX w w1 eds (.returned (.tuple #[.string ⟨#[]⟩,xl (qP eds).2]))):=⟨B1.out,.inr ⟨h0,_,rfl,Z1.out⟩⟩
  rw[jQ _ hpos]at ZR ⊢
  clear CK Z1 hx b1 PC
  generalize ((qP eds).2:Int)=zz at *
  go_wp2_with fail
  go_ret2
  exact ZR.out
 have ZR:Hid (jhX w w1 eds (.returned (.tuple #[.string ⟨#[]⟩,.iface 91 (.pointer (some ⟨q,0,none⟩))]))):=⟨B1.out,.inr ⟨h0,_,rfl,Z1.out⟩⟩
 clear CK Z1 b1 PC
 go_wp2_with fail
 go_ret2
 exact ZR.out
end Go.Proofs.YtimfhnfcmhmjcaaGreatDoor
namespace Go.Proofs.YtimfhnfcmhmjcaaGreatDoor
open Go.RowKit
theorem We{l:Array Bool}{i:Nat}(hi:i<l.size)(hl:l.getD i true=false):jc0 (l.setIfInBounds i true)+1=jc0 l:=by
 have hlf:l[i]=false:=by simpa [Array.getD,hi]using hl
 have key:∀(xs:List Bool) (j:Nat) (hj:j<xs.length),xs[j]=false->((xs.set j true).filter (fun b => !b)).length+1=(xs.filter (fun b => !b)).length:=by
  intro xs
  induction xs with
  | nil=>intro j hj;simp at hj
  | cons x xs ih2 =>
  intro j hj hx
  cases j with
  | zero=>simp at hx;subst hx;simp
  | succ j =>
  have:=ih2 j (by simpa using hj) (by simpa using hx)
  cases x<;>simp at this ⊢ <;> omega
 have h2:=key l.toList i (by simpa using hi) (by simpa using hlf)
 unfold jc0
 have e:(l.setIfInBounds i true).toList=l.toList.set i true:=by simp
 rw[e];exact h2
theorem jaR{l:Array Bool}{n g:Nat}(hs:l.size=n+g)(h1:∀i,i<n->l.getD i true=true)(h2:∀t,n<=t->t<l.size->l.getD t true=false):l=(List.replicate n true++List.replicate g false).toArray:=by
 apply Array.ext
 ·simp[hs]
 intro i hi _
 have e:l[i]=l.getD i true:=by simp[Array.getD,hi]
 rw[e]
 by_cases h:i<n
 ·rw[h1 i h];simp[h]
 rw[h2 i (by omega) hi];simp[List.getElem_append,h]
theorem yg{P:Program}{l0:List Oper}{Q:Exit->Act->World->Prop}(n g:Nat)(hng:n+g=l0.length)(hg:0<g)(a0:Act)(w0:World)(dst:Nat->Option Nat)(L:List (Value->World->Prop))(M:jhq L)
  (hs:Region.sinkB .any l0.toArray n=true) (hc:Region.chainB .any l0.toArray n=true) (hq:Region.seqB .any l0.toArray g n (List.replicate n true++List.replicate g false).toArray=true)
  (hd:∀i o,i<n->l0[i]?=some o->o.dst=dst i) (inj:∀i k d,i<n->k<n->dst i=some d->dst k=some d->i=k) (dlt:∀i d,i<n->dst i=some d->d<a0.tmps.size)
  (hlow:∀i o e,l0[i]?=some o->e∈o.after->Region.binds .any e=true->e.on<i)
  (step:∀i o a w,i<n->l0[i]?=some o->a.tmps.size=a0.tmps.size->(∀j,(∀k,k<n->dst k≠some j)->a.tmps[j]?=a0.tmps[j]?)->(∀e∈o.after,Region.binds .any e=true->∀d,dst e.on=some d->∃v,a.tmps[d]?=some v/\pvL L e.on v w)->Below w0.heap.size w0 w ->
   (Region.wanted o (yielded l0.toArray a.tmps)=true/\∀K:Act->World->Prop,(∀v w',Below w.heap.size w w'->pvL L i v w'->K (a.put (dst i) v) w')->Oper.wp P o a w K Q)\/(Region.wanted o (yielded l0.toArray a.tmps)=false/\pvL L i undef w))
  (tail:∀a w,a.defers=a0.defers->a.tmps.size=a0.tmps.size->(∀j,(∀k,k<n->dst k≠some j)->a.tmps[j]?=a0.tmps[j]?)->(∀i d,i<n->dst i=some d->∃v,a.tmps[d]?=some v/\pvL L i v w)->Below w0.heap.size w0 w->wpList P l0.toArray Q (l0.drop n) a w) :
  wpAny P .any l0.toArray Q l0.toArray.size (Array.replicate l0.toArray.size false) a0 w0:=by
 have key:∀(m:Nat) (l:Array Bool) (a:Act) (w:World),HeadInv .any l0.toArray n l->jie a0 w0 n dst (pvL L) (fun x y=>Below x.heap.size x y) l a w->jc0 l=m->wpAny P .any l0.toArray Q m l a w:=by
  intro m
  induction m with
  | zero =>
   intro l a w inv I ht
   exfalso
   have hn:n<l.size:=by rw[inv.size];simp;omega
   have h1:=We hn (inv.tail n (jij _) (by simp;omega))
   omega
  | succ m ih =>
  intro l a w inv I ht
  by_cases hh:∃i,i<n/\l.getD i true=false
  ·obtain⟨i0,hi0,hl0⟩:=hh
   have hwait:=tail_waits hs hc (by simp;omega) inv (n-i0) i0 rfl hi0 hl0
   refine⟨fun hr => ?_,fun i hi => ?_⟩
   ·exfalso
    have hall:=jeF (ops:=l0.toArray) inv.size (fun i o e ho he hb=>hlow i o e (by simpa using ho) he hb) hr i0 (by simp;omega)
    have hi0':i0<l.size:=by rw[inv.size];simp;omega
    have e1:l.getD i0 false=l.getD i0 true:=by simp[Array.getD,hi0']
    rw[e1,hl0]at hall;cases hall
   have hin:i<n:=by
    rcases jiK i n with q|q
    ·exact q
    exact absurd hi (hwait i q)
   obtain⟨o,ho,hli,he⟩:=xX hi
   have ho':l0[i]?=some o:=by simpa using ho
   have hil:i<l.size:=by rw[inv.size];simp;omega
   have dep:∀e∈o.after,Region.binds .any e=true->∀d,dst e.on=some d->∃v,a.tmps[d]?=some v/\pvL L e.on v w:=fun e h1 h2 d h3=>I.val e.on d (he e h1 h2) h3
   have nxt:∀v w',Below w.heap.size w w'->pvL L i v w'->wpAny P .any l0.toArray Q m (l.setIfInBounds i true) (a.put (dst i) v) w':=by
    intro v w' hR hP
    refine ih _ _ _ (inv.set hi hin) ?_ (by have:=We hil hli;omega)
    have hwd:Below w0.heap.size w0 w':=I.wd.trans (hR.mono I.wd.size)
    cases hdi:dst i with
    | none =>
     refine⟨I.dfr,I.sz,I.frm,fun k d hk hkd => ?_,hwd⟩
     rw[WW l i hil]at hk
     by_cases q:k=i
     ·rw[q,hdi]at hkd;cases hkd
     rw[if_neg q]at hk
     obtain⟨u,h1,h2⟩:=I.val k d hk hkd
     exact⟨u,h1,VL M hR h2⟩
    | some d0 =>
    have hd0:=dlt i d0 hin hdi
    have T:∀j,(a.put (some d0) v).tmps[j]?=if j=d0 then some v else a.tmps[j]?:=fun j=>by
     show(a.tmps.setIfInBounds d0 v)[j]?=_
     rw[ji8]
     by_cases h:d0=j
     ·subst h;simp[I.sz,hd0]
     rw[if_neg h,if_neg (jkn h)]
    refine⟨I.dfr,?_,fun j hj => ?_,fun k d hk hkd => ?_,hwd⟩
    ·show(a.tmps.setIfInBounds d0 v).size=_
     simp[I.sz]
    ·rw[T,if_neg (fun e=>hj i hin (by rw[hdi,e]))];exact I.frm j hj
    rw[T]
    rw[WW l i hil]at hk
    by_cases q:k=i
    ·subst q
     rw[hdi]at hkd
     rw[if_pos (jip hkd).symm]
     exact⟨v,rfl,hP⟩
    rw[if_neg q]at hk
    have hkl:k<l.size:=by
     rcases jiK k l.size with z|z
     ·exact z
     rw[jju,ji1 (by omega)]at hk;cases hk
    have hkn:k<n:=by
     rcases jiK k n with z|z
     ·exact z
     have h1:=inv.tail k z (by rw[<- inv.size];exact hkl)
     have e1:l.getD k false=l.getD k true:=by simp[Array.getD,hkl]
     rw[e1,h1]at hk;cases hk
    rw[if_neg (fun e=>q (inj k i d hkn hin hkd (by rw[hdi,e])))]
    obtain⟨u,h1,h2⟩:=I.val k d hk hkd
    exact⟨u,h1,VL M hR h2⟩
   unfold wpOp
   rw[ho]
   dsimp only
   rcases step i o a w hin ho' I.sz I.frm dep I.wd with ⟨h1,h2⟩|⟨h1,h2⟩
   ·rw[if_pos h1]
    exact .inl (h2 _ nxt)
   rw[if_neg (by rw[h1];decide),hd i o hin ho']
   exact nxt undef w (jil _ _) h2
  have h1:∀i,i<n->l.getD i true=true:=fun i hi=>by
   cases q:l.getD i true with
   | true=>rfl
   | false=>exact absurd ⟨i,hi,q⟩ hh
  have hls:l.size=n+g:=by rw[inv.size];simp;omega
  have el:=jaR hls h1 (fun t h2 h3=>inv.tail t h2 (by rw[<- inv.size];exact h3))
  have hd1:∀i,i<n->l.getD i false=true:=fun i hi=>by
   have e1:l.getD i false=l.getD i true:=by
    have:i<l.size:=by omega
    simp[Array.getD,this]
   rw[e1];exact h1 i hi
  have hgl:(l0.drop n).length=g:=by simp;omega
  have hm:m+1=g:=by
   rw[<- ht,el]
   unfold jc0
   simp[List.filter_append]
  have:=wpAny_of_seq (P:=P) (md:=.any) (ops:=l0.toArray) (Q':=Q) (l0.drop n) n l a w (fun j=>by simp[List.getElem?_drop]) (by rw[hgl,el];exact hq)
   (tail a w I.dfr I.sz I.frm (fun i d hi h=>I.val i d (hd1 i hi) h) I.wd)
  rw[hgl]at this
  rw[hm];exact this
 refine key l0.toArray.size (Array.replicate l0.toArray.size false) a0 w0 ?_ ?_ (by unfold jc0;simp)
 ·exact⟨by simp,fun j oj _ hl=>(by rw[getD_replicate_false]at hl;cases hl),fun t _ ht=>getD_in (by simpa using ht) (getD_replicate_false _ _)⟩
 have e:∀i,(Array.replicate l0.toArray.size false).getD i false=false:=fun i=>getD_replicate_false _ i
 exact⟨rfl,rfl,fun _ _=>rfl,(fun i d h=>absurd ((e i).symm.trans h) (by decide)),jil _ _⟩
end Go.Proofs.YtimfhnfcmhmjcaaGreatDoor
namespace Go.Proofs.YtimfhnfcmhmjcaaGreatDoor
open Go.RowKit Go.Shelf
attribute [local go_sem] jit
section
variable {o:Oper} {a:Act} {w:World} {K:Act->World->Prop} {Q:Exit->Act->World->Prop}
end
section
variable {o:Oper} {a:Act} {w:World} {K:Act->World->Prop} {Q:Exit->Act->World->Prop}
theorem Ki{v:Value}{w':World}(e:(execOp a.eval o).run Tryz.prog w=.ok (.value v) w')(hK:K (a.put o.dst v) w'):Oper.wp Tryz.prog o a w K Q:=by
 unfold Oper.wp
 rw[e];exact hK
theorem jbC{x:Operand}{k i:Int}{fa:Option Addr}{fn fc:Nat}(ho:o.op=Op.buildSlice 55 1 #[(0,x)])(hx:a.eval x=.agg #[.int .i64 k,.int .i64 i,.slice fa fn fc])
  (hK:K (a.put o.dst (.slice (some ⟨w.heap.size,0,none⟩) 1 1)) (w.alloc (.cells #[.int .i64 k,.int .i64 i,.slice fa fn fc] 80))):Oper.wp Tryz.prog o a w K Q:=by
 refine Ki ?_ hK
 simp only[execOp,ho]
 rw[show(Array.map (fun(p:Nat×Operand)=>match p with | (i,x)=>(i,a.eval x)) #[((0:Nat),x)])=#[((0:Nat),Value.agg #[.int .i64 k,.int .i64 i,.slice fa fn fc])] from by rw[<- hx];simp]
 kernel_rfl
end
end Go.Proofs.YtimfhnfcmhmjcaaGreatDoor
