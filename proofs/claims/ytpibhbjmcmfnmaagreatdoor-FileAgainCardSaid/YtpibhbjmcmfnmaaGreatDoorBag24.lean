/- Texts put together:AF,JB,EM,AI,AG. -/
import Derived.Lib.AppendZeros
import Derived.Test.YtpibhbjmcmfnmaaGreatDoorBag23
set_option linter.unusedVariables false
set_option maxRecDepth 100000
set_option maxHeartbeats 16000000
namespace Go.Proofs.YtpibhbjmcmfnmaaGreatDoor
open Go.RowKit Go.Shelf Tryz
section
attribute [local go_sem] jnn
theorem jdu(s a:ByteArray)(hs:s.size<=1000000)(ha:a.size<=100000)(bk:Nat)(w:World)(h0:w.cell? ⟨bk,0,none⟩=some (.string a))(hbk:bk<w.heap.size):
  Calls prog 121 #[.string s,.slice (some ⟨bk,0,none⟩) 1 1] w fun e w'=>e=.returned (.string ⟨(Xn a.data.toList (jf s.data.toList)).toArray⟩)/\Below w.heap.size w w':=by
 refine jdv s hs _ _ (by rw[<- jnu];omega) w ?_
 have hj:Lib.join ([a].map (·.data.toList)) (⟨#[]⟩:ByteArray).data.toList=a.data.toList:=by simp[Lib.join]
 have:=Tryz.strings_Join bk 0 1 [a] ⟨#[]⟩ w (fun j x hx=>by
  match j,hx with
  | 0,hx=>cases hx;exact h0) hbk (by simp) (by simp) (by rw[hj,<- Lib.size_eq];omega)
 rw[hj]at this
 exact this
theorem jci{fs:List Fld}(h:Jp fs):(zb fs).length<=4000*fs.length:=by
 replace h:=h.each
 induction fs with
 | nil=>exact jnd _
 | cons f r ih =>
 have e:zb (f::r)=jn (zA f.1 f.2)++zb r:=by unfold zb;rw[jnA]
 obtain⟨a,b⟩:=h f jno
 have:=jex (k:=f.1) (v:=f.2) (by unfold zw;rw[if_pos a,if_pos b])
 rw[e,jnf,jni]
 have:=ih (fun x hx=>h x (jnm _ hx))
 omega
theorem Jp.foldN{fs:List Fld}(h:Jp fs):foldN fs=0:=Wv fs fun f hf=>by
 obtain⟨a,b⟩:=h.each f hf
 unfold zw;rw[if_pos a,if_pos b]
theorem Jp.foldT{fs:List Fld}(h:Jp fs):foldT fs=zb fs:=by unfold Proofs.YtpibhbjmcmfnmaaGreatDoor.foldT;rw[if_pos h.foldN]
theorem JJ{k:List UInt8}(h:za k=true):k.length<=32:=(vY h).2.1
theorem Jp.small{fs:List Fld}(h:Jp fs):∀f∈fs,f.1.length<=100000/\f.2.length<=100000:=fun f hf=>by
 obtain⟨a,b⟩:=h.each f hf
 have:=JJ a
 omega
theorem jlN(ls:List Ln):(ls.flatMap (fun x=>[32,32]++x.bytes)).length=2*ls.length+(ls.flatMap Ln.bytes).length:=by
 induction ls with
 | nil=>rfl
 | cons x r ih =>
 rw[jnA,jnA,jnf,jnf,ih,jnf,jni]
 simp only[jni,jnG]
 omega
theorem GY{ed:Ed}(h:Jp ed.fields):edT ed=(zU ed.kind ed.id++[10])++Xn [32,32] (jf (zb ed.fields)):=by
 rw[jji h];unfold Xn;simp
theorem jlY{ed:Ed}(h:Jp ed.fields)(hi:I64 ed.id):(edT ed).length<=600000:=by
 have h1:=jci h
 have h2:=h.len
 have h3:=vr (zb ed.fields)
 have h4:=Lib.itoa_length_le ed.id hi.1 hi.2
 have h5:(zU ed.kind ed.id).length<=40:=by
  unfold zU
  split
  ·rename_i hk
   have:(qC ed.kind).length<=7:=by rcases hk with e | e | e<;>rw[e]<;>decide
   rw[jni,jnf,jni];omega
  simp
 rw[jji h,jnf,jni,jlN,zg]
 omega
def jmQ(w w':World)(eds:List Ed)(e:Ending):Prop :=
 Below w.heap.size w w'/\(((vS eds).2=0/\e=.returned (.tuple #[.string (B (js eds)),.nilIface]))\/((vS eds).2≠0/\∃u,e=.returned (.tuple #[.string ⟨#[]⟩,u])/\vV w.heap.size w' u (vS eds).1 (vS eds).2))
theorem Kw(eds:List Ed)(v:Value)(w:World)(h:EdV w v eds)(hl:eds.length<=1000000)(hf:jaD eds)(hi:∀ed∈eds,I64 ed.id)(ht:Tabs w):
  Calls prog 85 #[v] w fun e w'=>jmQ w w' eds e:=by
 have CK:=jnc (YY eds v w h hl hf ht.err)
 obtain⟨A,cap,rfl,hle,hc⟩:=h
 have PC:=jnc hc
 have HT:=jnc ht
 have HI:=jnc hi
 clear hc hf ht hi
 go_enter func85,ntmps85
 go_wp2_with fail
 refine CK.out.mono ?_
 rintro e w1 ⟨u,rfl,b1,hz⟩
 by_cases h0:(vS eds).2=0
 ·obtain⟨⟨g1,g40⟩,GD⟩:=yN h0
  have GDH:=jnc GD
  obtain rfl:u=.nilIface:=by
   obtain⟨_,⟨rfl,_⟩|⟨_,_,_,hx⟩⟩:=hz
   ·rw[h0];rfl
   exact absurd h0 hx
  have Z0:=jnc h0
  have hz1:=b1.size
  have NB:=Bld.new w1 (w1.heap.size+1)
  have NBB:Below w.heap.size w (w1.alloc (.cells #[.pointer none,.slice none 0 0] 182)):=b1.alloc b1.size _
  clear hz GD b1 CK h0
  go_wp2_with fail
  go_loopw [17] (fun i wr=>∃k:Nat,k<=eds.length/\i=.int .i64 k/\Bld w1.heap.size (w1.heap.size+1) (js (eds.take k)) wr/\(js (eds.take k)).length<=600000*k/\Below w.heap.size w wr/\w1.heap.size<wr.heap.size) (fun i _=>eds.length-(intOf i).toNat)
  case atStart=>exact⟨0,jnt _,rfl,NB,jnd _,NBB,by simp⟩
  case round =>
  obtain⟨k,hk,rfl,hbl,hbt,hb,hzr⟩:=hrel
  by_cases hlt:k<eds.length
  ·obtain⟨ed,hed⟩:∃ed,eds[k]?=some ed:=⟨_,jnh hlt⟩
   obtain⟨b,off,fv,rfl,hbb,c0,c1,c2,hfl⟩:=PC.out k ed hed
   obtain⟨fa,fc,rfl,_,_⟩:=_root_.id hfl.1
   replace c0:=(hb.cell (p:=⟨b,off+k*3,none⟩) hbb).trans c0
   replace c1:=(hb.cell (p:=⟨b,off+k*3+1,none⟩) hbb).trans c1
   replace c2:=(hb.cell (p:=⟨b,off+k*3+1+1,none⟩) hbb).trans c2
   have hge:=GDH.out ed (jnC hed)
   have hie:=HI.out ed (jnC hed)
   have GF:=Wt hge
   have TK:Hid (js (eds.take (k+1))=js (eds.take k)++((zU ed.kind ed.id++[10])++Xn [32,32] (jf (zb ed.fields)))):=by
    show _=_
    rw[ye hed,jbp,GY GF]
   have ELE:=jlY GF hie
   rw[GY GF]at ELE
   obtain⟨wa,hwa⟩:∃wa,wa=wr.alloc (.cells #[.int .i64 ed.kind,.int .i64 ed.id,.slice fa ed.fields.length fc] 63):=⟨_,rfl⟩
   have hsr:=hb.size
   have hba:Below wr.heap.size wr wa:=by rw[hwa];exact(jne _ wr).alloc (jnd _) _
   have hwz:wa.heap.size=wr.heap.size+1:=by rw[hwa];simp
   have cx:ja wa wr.heap.size 63 #[.int .i64 ed.kind,.int .i64 ed.id,.slice fa ed.fields.length fc]:=by rw[hwa];exact ja.new _ _ _
   have d0:=cx.cell 0
   have d1:=cx.cell 1
   have d2:=cx.cell 2
   have hB:=hb.trans (hba.mono hsr)
   have LNE:=jnc (jfo ed (.slice fa ed.fields.length fc) hie wa (HT.out.below hB (jnd _)))
   have blA:=hbl.kept hba (jnd _)
   have BLA:=jnc blA
   have HBA:=jnc hB
   have CX:=jnc cx
   have FLD:Hid (∀W,Below w.heap.size w W->Calls prog 120 #[.slice fa ed.fields.length fc] W fun e w'=>e=.returned (.tuple #[.string (B (zb ed.fields)),.nilIface])/\Below W.heap.size W w'):=fun W hW=>by
    have:=jcg ed.fields (.slice fa ed.fields.length fc) W (hfl.1.below hW (jnd _)) (by have:=GF.len;omega) GF.small
    rw[GF.foldT,GF.foldN]at this
    exact this
   have fle:=jci GF
   have fl40:=GF.len
   have FLE:(B (zb ed.fields)).size<=160000:=by rw[jm];omega
   clear hed hfl hbl blA hba hB cx hge hie GF hbb fle fl40
   have WRL:Hid (∀(l:List UInt8) (s:ByteArray) (W:World),Bld w1.heap.size (w1.heap.size+1) l W->wr.heap.size<W.heap.size->l.length+s.size<=140737488355328 ->
     Calls prog 118 #[.pointer (some ⟨w1.heap.size,0,none⟩),.string s] W fun e W'=>e=.returned (.tuple #[.int .i64 s.size,.nilIface])/\Bld w1.heap.size (w1.heap.size+1) (l++s.data.toList) W'/\qK w1.heap.size (w1.heap.size+1) W W'):=fun l s W h1 h2 h3=>Qv _ _ l s W h1 (by omega) (by omega) h3
   have LE1:(B (zU ed.kind ed.id)).size+1+(Xn [32,32] (jf (zb ed.fields))).length<=600000:=by
    rw[jm];rw[jnf,jnf]at ELE;exact ELE
   have DL:=jnc (ju (zU ed.kind ed.id))
   have DF:=jnc (ju (zb ed.fields))
   have IND:Hid (∀W,Calls prog 121 #[.string (B (zb ed.fields)),.slice (some ⟨W.heap.size,0,none⟩) 1 1] (W.alloc (.cells #[.string ⟨#[32,32]⟩] 9)) fun e W'=>e=.returned (.string (B (Xn [32,32] (jf (zb ed.fields)))))/\Below W.heap.size W W'):=fun W=>by
    refine(jdu _ ⟨#[32,32]⟩ (by omega) (by decide) W.heap.size _ (by simp) (by simp)).mono ?_
    rintro e W' ⟨rfl,b⟩
    refine⟨?_,((jne _ W).alloc (jnd _) _).trans (b.mono (by simp))⟩
    rw[show(⟨#[32,32]⟩:ByteArray).data.toList=[32,32] from rfl,ju];rfl
   have DI:=jnc (ju (Xn [32,32] (jf (zb ed.fields))))
   have LEI:(B (Xn [32,32] (jf (zb ed.fields)))).size=(Xn [32,32] (jf (zb ed.fields))).length:=jm _
   have LEL:(B (zU ed.kind ed.id)).size=(zU ed.kind ed.id).length:=jm _
   clear DF
   generalize hIND:B (Xn [32,32] (jf (zb ed.fields)))=ind at *
   generalize hIL:Xn [32,32] (jf (zb ed.fields))=indl at *
   generalize hLA:B (zU ed.kind ed.id)=la at *
   generalize hLL:zU ed.kind ed.id=lal at *
   generalize hFG:B (zb ed.fields)=fg at *
   generalize hBT:js (eds.take k)=bt at *
   clear hIND hIL hLA hLL hFG d0 d1 d2
   have D2:Hid (∀W,ja W wr.heap.size 63 #[.int .i64 ed.kind,.int .i64 ed.id,.slice fa ed.fields.length fc]->W.cell? ⟨wr.heap.size,2,none⟩=some (.slice fa ed.fields.length fc)):=fun W h=>by rw[h.cell];rfl
   subst hwa
   go_wp2_with fail
   refine LNE.out.mono ?_
   rintro e w2 ⟨rfl,b2⟩
   have hs2:=b2.size
   rw[hwz]at hs2
   have bl2:=BLA.out.kept b2 (jnd _)
   have HB2:=jnc (HBA.out.trans (b2.mono HBA.out.size))
   have cx2:=je CX.out b2 (by rw[hwz];omega)
   clear b2 LNE BLA
   go_wp2_with fail
   refine(WRL.out _ _ w2 bl2 (by omega) (by omega)).mono ?_
   rintro e w3 ⟨rfl,bl3,o3⟩
   have hs3:=o3.size
   have cx3:ja w3 wr.heap.size 63 _:=o3.other cx2 (by omega) (by decide)
   have HB3:=jnc (HB2.out.trans (o3.below (by omega) (by omega) (by omega)))
   rw[DL.out]at bl3
   clear o3 cx2 bl2
   go_wp2_with fail
   refine(WRL.out _ ⟨#[10]⟩ w3 bl3 (by omega) (by rw[jnf];show _+1<=_;omega)).mono ?_
   rintro e w4 ⟨rfl,bl4,o4⟩
   have hs4:=o4.size
   have cx4:ja w4 wr.heap.size 63 _:=o4.other cx3 (by omega) (by decide)
   have HB4:=jnc (HB3.out.trans (o4.below (by omega) (by omega) (by omega)))
   have BL4:=jnc bl4
   have d2:=D2.out w4 cx4
   have FL4:=jnc (FLD.out w4 HB4.out)
   clear o4 cx3 bl3 bl4 FLD cx4
   go_wp2_with fail
   refine FL4.out.mono ?_
   rintro e w5 ⟨rfl,b5⟩
   have hs5:=b5.size
   have bl5:=BL4.out.kept b5 (jnd _)
   have HB5:=jnc (HB4.out.trans (b5.mono HB4.out.size))
   have BL5:=jnc bl5
   have IN5:=jnc (IND.out w5)
   clear b5 bl5 FL4 BL4 IND
   go_wp2_with fail
   refine IN5.out.mono ?_
   rintro e w6 ⟨rfl,b6⟩
   have hs6:=b6.size
   have bl6:=BL5.out.kept b6 (jnd _)
   have HB6:=jnc (HB5.out.trans (b6.mono HB5.out.size))
   clear b6 IN5 BL5
   go_wp2_with fail
   refine(WRL.out _ _ w6 bl6 (by omega) (by rw[jnf,jnf];show _+1+_<=_;omega)).mono ?_
   rintro e w7 ⟨rfl,bl7,o7⟩
   have hs7:=o7.size
   have HB7:=jnc (HB6.out.trans (o7.below (by omega) (by omega) (by omega)))
   rw[DI.out]at bl7
   have BL7:=jnc bl7
   clear o7 bl6 bl7
   go_wp2_with fail
   go_roundw
   case rel =>
    have eT:js (eds.take (k+1))=bt++lal++(⟨#[10]⟩:ByteArray).data.toList++indl:=by
     rw[TK.out,show(⟨#[10]⟩:ByteArray).data.toList=[10] from rfl];simp
    refine⟨k+1,hlt,by go_num,by rw[eT];exact BL7.out,?_,HB7.out,by omega⟩
    rw[eT,jnf,jnf,jnf]
    show _+_+1+_<=_
    omega
   case measure=>simp[intOf];omega
  obtain rfl:k=eds.length:=by omega
  rw[jnP]at hbl
  have Z:=jnc Z0.out
  clear PC HT HI GDH hbt
  go_wp2_with fail
  refine(Tryz.Builder_String_any_k w1.heap.size w1.heap.size _ wr (hbl.library (jnd _) (by omega)) (by omega)).mono ?_
  rintro e w5 ⟨rfl,_,b5,_⟩
  have B5:=jnc (hb.trans (b5.mono hz1))
  go_wp2_with fail
  go_ret2
  exact⟨B5.out,.inl ⟨Z.out,rfl⟩⟩
 have Z1:=jnc hz
 have B1:=jnc b1
 obtain⟨_,⟨rfl,hx⟩|⟨kk,⟨q,_,rfl,_⟩,_,_⟩⟩:=hz
 ·have hpos:0<(vS eds).2:=joC h0
  have ZR:Hid (jmQ w w1 eds (.returned (.tuple #[.string ⟨#[]⟩,qm (vS eds).2]))):=⟨B1.out,.inr ⟨h0,_,rfl,Z1.out⟩⟩
  rw[ze _ hpos]at ZR ⊢
  clear CK Z1 hx b1 PC
  generalize ((vS eds).2:Int)=zz at *
  go_wp2_with fail
  go_ret2
  exact ZR.out
 have ZR:Hid (jmQ w w1 eds (.returned (.tuple #[.string ⟨#[]⟩,.iface 133 (.pointer (some ⟨q,0,none⟩))]))):=⟨B1.out,.inr ⟨h0,_,rfl,Z1.out⟩⟩
 clear CK Z1 b1 PC
 go_wp2_with fail
 go_ret2
 exact ZR.out
section
variable {o:Oper} {a:Act} {w:World} {K:Act->World->Prop} {Q:Exit->Act->World->Prop}
end
section
variable {o:Oper} {a:Act} {w:World} {K:Act->World->Prop} {Q:Exit->Act->World->Prop}
theorem jaX{v:Value}{w':World}(e:(execOp a.eval o).run prog w=.ok (.value v) w')(hK:K (a.put o.dst v) w'):Oper.wp prog o a w K Q:=by
 unfold Oper.wp
 rw[e];exact hK
theorem jfh{x:Operand}{k i:Int}{fa:Option Addr}{fn fc:Nat}(ho:o.op=Op.buildSlice 22 1 #[(0,x)])(hx:a.eval x=.agg #[.int .i64 k,.int .i64 i,.slice fa fn fc])
  (hK:K (a.put o.dst (.slice (some ⟨w.heap.size,0,none⟩) 1 1)) (w.alloc (.cells #[.int .i64 k,.int .i64 i,.slice fa fn fc] 63))):Oper.wp prog o a w K Q:=by
 refine jaX ?_ hK
 simp only[execOp,ho]
 rw[show(Array.map (fun(p:Nat×Operand)=>match p with | (i,x)=>(i,a.eval x)) #[((0:Nat),x)])=#[((0:Nat),Value.agg #[.int .i64 k,.int .i64 i,.slice fa fn fc])] from by rw[<- hx];simp]
 kernel_rfl
end
end
section
section
variable {K:Act->World->Prop} {Q:Exit->Act->World->Prop} {o:Oper} {a:Act} {w:World}
theorem jff{x y z:Operand}{s:ByteArray}{i j:Nat}(ho:o.op=Op.slice 9 x (some y) (some z) none)(hx:a.eval x=.string s)(hy:a.eval y=.int .i64 (i:Nat))(hz:a.eval z=.int .i64 (j:Nat))(hij:i<=j)(hj:j<=s.size)(hK:K (a.put o.dst (.string (s.extract i j))) w):Oper.wp prog o a w K Q:=by
 refine jaX ?_ hK
 have h2:(i:Int)<=(j:Int):=by omega
 have h3:(j:Int)<=(s.size:Int):=by omega
 generalize a.eval=ρ at hx hy hz ⊢
 simp only[execOp,ho]
 simp[go_sem,hx,hy,hz,Result.andThen,h2,h3]
theorem jfg{x y:Operand}{s:ByteArray}{i:Nat}(ho:o.op=Op.slice 9 x (some y) none none)(hx:a.eval x=.string s)(hy:a.eval y=.int .i64 (i:Nat))(hij:i<=s.size)(hK:K (a.put o.dst (.string (s.extract i s.size))) w):Oper.wp prog o a w K Q:=by
 refine jaX ?_ hK
 have h2:(i:Int)<=(s.size:Int):=by omega
 generalize a.eval=ρ at hx hy ⊢
 simp only[execOp,ho]
 simp[go_sem,hx,hy,Result.andThen,h2]
end
def vE:List Oper:=[
 {dst:=some 19,op:=Op.load 22 (Operand.tmp 3),type:=22,pos := "amend.go:74",after:=#[],guard:=none},
 {dst:=some 20,op:=Op.load 9 (Operand.tmp 1),type:=9,pos := "amend.go:74",after:=#[],guard:=none},
 {dst:=some 21,op:=Op.load 3 (Operand.tmp 4),type:=3,pos := "amend.go:74",after:=#[],guard:=none},
 {dst:=some 22,op:=Op.fieldAddr 164 (Operand.tmp 5) 1,type:=0,pos := "amend.go:74",after:=#[],guard:=none},
 {dst:=some 23,op:=Op.load 3 (Operand.tmp 22),type:=3,pos := "amend.go:74",after:=#[{on:=3,ground:=Ground.data}],guard:=none},
 {dst:=some 24,op:=Op.slice 9 (Operand.tmp 20) (some (Operand.tmp 21)) (some (Operand.tmp 23)) none,type:=9,pos := "amend.go:74",after:=#[{on:=1,ground:=Ground.data},{on:=2,ground:=Ground.data},{on:=4,ground:=Ground.data}],guard:=none},
 {dst:=some 25,op:=Op.call {callee:=Callee.value (Operand.func 153),args:=#[Operand.tmp 24],argTypes:=#[9]},type:=63,pos := "amend.go:74",after:=#[{on:=5,ground:=Ground.data}],guard:=none},
 {dst:=some 26,op:=Op.buildSlice 22 1 #[(0,Operand.tmp 25)],type:=22,pos := "amend.go:74",after:=#[{on:=6,ground:=Ground.data}],guard:=none},
 {dst:=some 27,op:=Op.call {callee:=Callee.builtin Builtin.append,args:=#[Operand.tmp 19,Operand.tmp 26],argTypes:=#[22,22]},type:=22,pos := "amend.go:74",after:=#[{on:=0,ground:=Ground.data},{on:=7,ground:=Ground.data},{on:=6,ground:=Ground.chain}],guard:=none},
 {dst:=none,op:=Op.store 22 (Operand.tmp 3) (Operand.tmp 27),type:=0,pos := "amend.go:74",after:=#[{on:=8,ground:=Ground.data},{on:=8,ground:=Ground.chain},{on:=0,ground:=Ground.phase},{on:=1,ground:=Ground.phase},{on:=2,ground:=Ground.phase},{on:=3,ground:=Ground.phase},{on:=4,ground:=Ground.phase},{on:=5,ground:=Ground.phase},{on:=6,ground:=Ground.phase},{on:=7,ground:=Ground.phase},{on:=8,ground:=Ground.phase}],guard:=none}]
def JQ(i:Nat):Option Nat:=(vE[i]?).bind (·.dst)
theorem jkl:∀i,i<8->∀k,k<8->JQ i≠none->JQ i=JQ k->i=k:=by decide +kernel
theorem jlJ:∀i,i<8->(JQ i).getD 0<37:=by decide +kernel
theorem jkd:∀i:Fin 10,∀e∈(vE[i.1]'(by exact i.2)).after,Region.binds .any e=true->e.on<i.1:=by decide +kernel
def ji9(bb tb nb eb lo:Nat)(bv:Value)(s:ByteArray)(beg at_:Nat)(PL:Value->World->Prop):List (Value->World->Prop):=[
 fun v w=>v=bv,
 fun v w=>v=.string s,
 fun v w=>v=.int .i64 (beg:Nat),
 fun v w=>v=.pointer (some ⟨eb,1,none⟩),
 fun v w=>v=.int .i64 (at_:Nat),
 fun v w=>v=.string (s.extract beg at_),
 fun v w=>PL v w,
 fun v w=>∃b u cs,v=.slice (some ⟨b,0,none⟩) 1 1/\PL u w/\lo<=b/\u=.agg cs/\ja w b 63 cs]
theorem jdb(a0:Act)(w0:World)(bb tb nb eb lo:Nat)(bv:Value)(s:ByteArray)(beg at_:Nat)(PL:Value->World->Prop)(Q:Exit->Act->World->Prop)
  (hsz:a0.tmps.size=37) (h3:a0.tmps[3]?=some (.pointer (some ⟨bb,0,none⟩))) (h1:a0.tmps[1]?=some (.pointer (some ⟨tb,0,none⟩))) (h4:a0.tmps[4]?=some (.pointer (some ⟨nb,0,none⟩))) (h5:a0.tmps[5]?=some (.pointer (some ⟨eb,0,none⟩)))
  (hS:∀W,Below w0.heap.size w0 W->W.cell? ⟨bb,0,none⟩=some bv/\W.cell? ⟨tb,0,none⟩=some (.string s)/\W.cell? ⟨nb,0,none⟩=some (.int .i64 (beg:Nat))/\W.cell? ⟨eb,1,none⟩=some (.int .i64 (at_:Nat))) (hlo:lo<=w0.heap.size)
  (hle:beg<=at_/\at_<=s.size)
  (hPM:∀v x y,Below x.heap.size x y->PL v x->PL v y) (hPF:∀v w,PL v w->∃k i fa fn fc,v=.agg #[.int .i64 k,.int .i64 i,.slice fa fn fc])
  (hC6:∀(W:World) (_:Below w0.heap.size w0 W),Calls prog 153 #[.string (s.extract beg at_)] W fun e w=>∃v,e=.returned v/\(PL v w)/\Below W.heap.size W w)
  (hQ:∀(y0 y1 y2 y3 y4 y5 y6 y7:Value) (w:World),Below w0.heap.size w0 w->((fun(v:Value) (w:World)=>v=bv) y0 w)->((fun(v:Value) (w:World)=>∃b u cs,v=.slice (some ⟨b,0,none⟩) 1 1/\PL u w/\lo<=b/\u=.agg cs/\ja w b 63 cs) y7 w)->wpList prog vE.toArray Q [{dst:=some 27,op:=Op.call {callee:=Callee.builtin Builtin.append,args:=#[Operand.tmp 19,Operand.tmp 26],argTypes:=#[22,22]},type:=22,pos := "amend.go:74",after:=#[{on:=0,ground:=Ground.data},{on:=7,ground:=Ground.data},{on:=6,ground:=Ground.chain}],guard:=none},{dst:=none,op:=Op.store 22 (Operand.tmp 3) (Operand.tmp 27),type:=0,pos := "amend.go:74",after:=#[{on:=8,ground:=Ground.data},{on:=8,ground:=Ground.chain},{on:=0,ground:=Ground.phase},{on:=1,ground:=Ground.phase},{on:=2,ground:=Ground.phase},{on:=3,ground:=Ground.phase},{on:=4,ground:=Ground.phase},{on:=5,ground:=Ground.phase},{on:=6,ground:=Ground.phase},{on:=7,ground:=Ground.phase},{on:=8,ground:=Ground.phase}],guard:=none}] {a0 with tmps:=[(19,y0),(20,y1),(21,y2),(22,y3),(23,y4),(24,y5),(25,y6),(26,y7)].foldl (fun u p=>u.setIfInBounds p.1 p.2) a0.tmps} w) :
  wpAny prog .any vE.toArray Q vE.toArray.size (Array.replicate vE.toArray.size false) a0 w0:=by
 have M:jld (ji9 bb tb nb eb lo bv s beg at_ PL):=⟨fun v x y hb h=>h,fun v x y hb h=>h,fun v x y hb h=>h,fun v x y hb h=>h,fun v x y hb h=>h,fun v x y hb h=>h,fun v x y hb h=>hPM v x y hb h,fun v x y hb h=>by obtain⟨b,u,cs,e,h1,h2,h3,h4⟩:=h;exact⟨b,u,cs,e,hPM u x y hb h1,h2,h3,je h4 hb h4.lt⟩,trivial⟩
 refine qN 8 2 (by kernel_rfl) (by decide) a0 w0 JQ (ji9 bb tb nb eb lo bv s beg at_ PL) M (by kernel_rfl) (by kernel_rfl) (by kernel_rfl)
  (fun i o _ ho=>by unfold JQ;rw[ho];rfl)
  (fun i k d hi hk h1 h2=>jkl i hi k hk (by rw[h1];intro q;cases q) (by rw[h1,h2]))
  (fun i d hi h=>by have:=jlJ i hi;rw[h]at this;rw[hsz];exact this)
  (fun i o e ho he hb=>by
   obtain⟨hi,rfl⟩:=List.getElem?_eq_some_iff.1 ho
   exact jkd ⟨i,hi⟩ e he hb)
  ?step ?fin
 case fin =>
  intro a w hd hs hf hv hR
  obtain⟨y0,hy0,pv0⟩:=hv 0 19 (by decide) rfl
  obtain⟨y1,hy1,pv1⟩:=hv 1 20 (by decide) rfl
  obtain⟨y2,hy2,pv2⟩:=hv 2 21 (by decide) rfl
  obtain⟨y3,hy3,pv3⟩:=hv 3 22 (by decide) rfl
  obtain⟨y4,hy4,pv4⟩:=hv 4 23 (by decide) rfl
  obtain⟨y5,hy5,pv5⟩:=hv 5 24 (by decide) rfl
  obtain⟨y6,hy6,pv6⟩:=hv 6 25 (by decide) rfl
  obtain⟨y7,hy7,pv7⟩:=hv 7 26 (by decide) rfl
  rw[ZI (a:=a) (a0:=a0) [(19,y0),(20,y1),(21,y2),(22,y3),(23,y4),(24,y5),(25,y6),(26,y7)] hd hs (by
   intro p hp
   simp only[joS,jpc,or_false]at hp
   rcases hp with rfl|rfl|rfl|rfl|rfl|rfl|rfl|rfl
   ·exact hy0
   ·exact hy1
   ·exact hy2
   ·exact hy3
   ·exact hy4
   ·exact hy5
   ·exact hy6
   ·exact hy7
   ) (fun j hj=>hf j (fun k hk q=>hj (by
    have:∀k,k<8->(JQ k).all (fun d=>[19,20,21,22,23,24,25,26].contains d)=true:=by decide +kernel
    have h1:=this k hk
    rw[q]at h1
    simpa using h1)))]
  exact hQ y0 y1 y2 y3 y4 y5 y6 y7 w hR pv0 pv7
 case step =>
 intro i o a w hi ho hs hf dep hR
 have e3:=evT ((hf 3 (by decide +kernel)).trans h3)
 have e1:=evT ((hf 1 (by decide +kernel)).trans h1)
 have e4:=evT ((hf 4 (by decide +kernel)).trans h4)
 have e5:=evT ((hf 5 (by decide +kernel)).trans h5)
 rcases(by omega:i=0\/i=1\/i=2\/i=3\/i=4\/i=5\/i=6\/i=7) with rfl|rfl|rfl|rfl|rfl|rfl|rfl|rfl
 ·have ho2:some _=some o:=ho
  obtain rfl:=jng ho2
  exact .inl ⟨Zb rfl,fun K hK=>xF (by simp[go_sem,(hS w hR).1]) rfl e3 (hK _ _ (jne _ _) rfl)⟩
 ·have ho2:some _=some o:=ho
  obtain rfl:=jng ho2
  exact .inl ⟨Zb rfl,fun K hK=>xF (by simp[go_sem,(hS w hR).2.1]) rfl e1 (hK _ _ (jne _ _) rfl)⟩
 ·have ho2:some _=some o:=ho
  obtain rfl:=jng ho2
  exact .inl ⟨Zb rfl,fun K hK=>xF (by simp[go_sem,(hS w hR).2.2.1]) rfl e4 (hK _ _ (jne _ _) rfl)⟩
 ·have ho2:some _=some o:=ho
  obtain rfl:=jng ho2
  exact .inl ⟨Zb rfl,fun K hK=>jb1 (by simp[go_sem]) rfl e5 (hK _ _ (jne _ _) rfl)⟩
 ·have ho2:some _=some o:=ho
  obtain rfl:=jng ho2
  obtain⟨_,hv3,rfl⟩:∃v,a.tmps[22]?=some v/\(fun(v:Value) (w:World)=>v=.pointer (some ⟨eb,1,none⟩)) v w:=dep ⟨3,Ground.data⟩ (by first|simp|simp[vE]) rfl 22 rfl
  exact .inl ⟨Zb rfl,fun K hK=>xF (by simp[go_sem,(hS w hR).2.2.2]) rfl (evT hv3) (hK _ _ (jne _ _) rfl)⟩
 ·have ho2:some _=some o:=ho
  obtain rfl:=jng ho2
  obtain⟨_,hv1,rfl⟩:∃v,a.tmps[20]?=some v/\(fun(v:Value) (w:World)=>v=.string s) v w:=dep ⟨1,Ground.data⟩ (by first|simp|simp[vE]) rfl 20 rfl
  obtain⟨_,hv2,rfl⟩:∃v,a.tmps[21]?=some v/\(fun(v:Value) (w:World)=>v=.int .i64 (beg:Nat)) v w:=dep ⟨2,Ground.data⟩ (by first|simp|simp[vE]) rfl 21 rfl
  obtain⟨_,hv4,rfl⟩:∃v,a.tmps[23]?=some v/\(fun(v:Value) (w:World)=>v=.int .i64 (at_:Nat)) v w:=dep ⟨4,Ground.data⟩ (by first|simp|simp[vE]) rfl 23 rfl
  exact .inl ⟨Zb rfl,fun K hK=>jff rfl (evT hv1) (evT hv2) (evT hv4) hle.1 hle.2 (hK _ _ (jne _ _) rfl)⟩
 ·have ho2:some _=some o:=ho
  obtain rfl:=jng ho2
  obtain⟨_,hv5,rfl⟩:∃v,a.tmps[24]?=some v/\(fun(v:Value) (w:World)=>v=.string (s.extract beg at_)) v w:=dep ⟨5,Ground.data⟩ (by first|simp|simp[vE]) rfl 24 rfl
  exact .inl ⟨Zb rfl,fun K hK=>Vk 153 rfl (evT hv5) (enters_of (P:=prog) func153 (by kernel_rfl) rfl) (hC6 w hR) (fun v w' h=>hK v w' h.2 h.1)⟩
 have ho2:some _=some o:=ho
 obtain rfl:=jng ho2
 obtain⟨z6,hv6,pv6⟩:∃v,a.tmps[25]?=some v/\(fun(v:Value) (w:World)=>PL v w) v w:=dep ⟨6,Ground.data⟩ (by first|simp|simp[vE]) rfl 25 rfl
 exact .inl ⟨Zb rfl,fun K hK=>by obtain⟨k1,i1,fa1,fn1,fc1,rfl⟩:=hPF _ _ pv6;exact jfh rfl (evT hv6) (hK _ _ ((jne _ _).alloc (jnd _) _) ⟨w.heap.size,_,_,rfl,hPM _ _ _ ((jne _ _).alloc (jnd _) _) pv6,jns hlo hR.size,rfl,ja.new _ _ _⟩)⟩
def yy:List Oper:=[
 {dst:=some 30,op:=Op.load 22 (Operand.tmp 3),type:=22,pos := "amend.go:78",after:=#[],guard:=none},
 {dst:=some 31,op:=Op.load 9 (Operand.tmp 1),type:=9,pos := "amend.go:78",after:=#[],guard:=none},
 {dst:=some 32,op:=Op.load 3 (Operand.tmp 4),type:=3,pos := "amend.go:78",after:=#[],guard:=none},
 {dst:=some 33,op:=Op.slice 9 (Operand.tmp 31) (some (Operand.tmp 32)) none none,type:=9,pos := "amend.go:78",after:=#[{on:=1,ground:=Ground.data},{on:=2,ground:=Ground.data}],guard:=none},
 {dst:=some 34,op:=Op.call {callee:=Callee.value (Operand.func 153),args:=#[Operand.tmp 33],argTypes:=#[9]},type:=63,pos := "amend.go:78",after:=#[{on:=3,ground:=Ground.data}],guard:=none},
 {dst:=some 35,op:=Op.buildSlice 22 1 #[(0,Operand.tmp 34)],type:=22,pos := "amend.go:78",after:=#[{on:=4,ground:=Ground.data}],guard:=none},
 {dst:=some 36,op:=Op.call {callee:=Callee.builtin Builtin.append,args:=#[Operand.tmp 30,Operand.tmp 35],argTypes:=#[22,22]},type:=22,pos := "amend.go:78",after:=#[{on:=0,ground:=Ground.data},{on:=5,ground:=Ground.data},{on:=4,ground:=Ground.chain}],guard:=none},
 {dst:=some 2,op:=Op.assign (Operand.tmp 36),type:=22,pos := "amend.go:78",after:=#[{on:=6,ground:=Ground.data},{on:=6,ground:=Ground.chain},{on:=0,ground:=Ground.phase},{on:=1,ground:=Ground.phase},{on:=2,ground:=Ground.phase},{on:=3,ground:=Ground.phase},{on:=4,ground:=Ground.phase},{on:=5,ground:=Ground.phase},{on:=6,ground:=Ground.phase}],guard:=none}]
def JP(i:Nat):Option Nat:=(yy[i]?).bind (·.dst)
theorem jkk:∀i,i<6->∀k,k<6->JP i≠none->JP i=JP k->i=k:=by decide +kernel
theorem jlI:∀i,i<6->(JP i).getD 0<37:=by decide +kernel
theorem jkc:∀i:Fin 8,∀e∈(yy[i.1]'(by exact i.2)).after,Region.binds .any e=true->e.on<i.1:=by decide +kernel
def ji8(bb tb nb lo:Nat)(bv:Value)(s:ByteArray)(beg:Nat)(PL:Value->World->Prop):List (Value->World->Prop):=[
 fun v w=>v=bv,
 fun v w=>v=.string s,
 fun v w=>v=.int .i64 (beg:Nat),
 fun v w=>v=.string (s.extract beg s.size),
 fun v w=>PL v w,
 fun v w=>∃b u cs,v=.slice (some ⟨b,0,none⟩) 1 1/\PL u w/\lo<=b/\u=.agg cs/\ja w b 63 cs]
theorem jda(a0:Act)(w0:World)(bb tb nb lo:Nat)(bv:Value)(s:ByteArray)(beg:Nat)(PL:Value->World->Prop)(Q:Exit->Act->World->Prop)
  (hsz:a0.tmps.size=37) (h3:a0.tmps[3]?=some (.pointer (some ⟨bb,0,none⟩))) (h1:a0.tmps[1]?=some (.pointer (some ⟨tb,0,none⟩))) (h4:a0.tmps[4]?=some (.pointer (some ⟨nb,0,none⟩)))
  (hS:∀W,Below w0.heap.size w0 W->W.cell? ⟨bb,0,none⟩=some bv/\W.cell? ⟨tb,0,none⟩=some (.string s)/\W.cell? ⟨nb,0,none⟩=some (.int .i64 (beg:Nat))/\True) (hlo:lo<=w0.heap.size)
  (hle:beg<=s.size)
  (hPM:∀v x y,Below x.heap.size x y->PL v x->PL v y) (hPF:∀v w,PL v w->∃k i fa fn fc,v=.agg #[.int .i64 k,.int .i64 i,.slice fa fn fc])
  (hC4:∀(W:World) (_:Below w0.heap.size w0 W),Calls prog 153 #[.string (s.extract beg s.size)] W fun e w=>∃v,e=.returned v/\(PL v w)/\Below W.heap.size W w)
  (hQ:∀(y0 y1 y2 y3 y4 y5:Value) (w:World),Below w0.heap.size w0 w->((fun(v:Value) (w:World)=>v=bv) y0 w)->((fun(v:Value) (w:World)=>∃b u cs,v=.slice (some ⟨b,0,none⟩) 1 1/\PL u w/\lo<=b/\u=.agg cs/\ja w b 63 cs) y5 w)->wpList prog yy.toArray Q [{dst:=some 36,op:=Op.call {callee:=Callee.builtin Builtin.append,args:=#[Operand.tmp 30,Operand.tmp 35],argTypes:=#[22,22]},type:=22,pos := "amend.go:78",after:=#[{on:=0,ground:=Ground.data},{on:=5,ground:=Ground.data},{on:=4,ground:=Ground.chain}],guard:=none},{dst:=some 2,op:=Op.assign (Operand.tmp 36),type:=22,pos := "amend.go:78",after:=#[{on:=6,ground:=Ground.data},{on:=6,ground:=Ground.chain},{on:=0,ground:=Ground.phase},{on:=1,ground:=Ground.phase},{on:=2,ground:=Ground.phase},{on:=3,ground:=Ground.phase},{on:=4,ground:=Ground.phase},{on:=5,ground:=Ground.phase},{on:=6,ground:=Ground.phase}],guard:=none}] {a0 with tmps:=[(30,y0),(31,y1),(32,y2),(33,y3),(34,y4),(35,y5)].foldl (fun u p=>u.setIfInBounds p.1 p.2) a0.tmps} w) :
  wpAny prog .any yy.toArray Q yy.toArray.size (Array.replicate yy.toArray.size false) a0 w0:=by
 have M:jld (ji8 bb tb nb lo bv s beg PL):=⟨fun v x y hb h=>h,fun v x y hb h=>h,fun v x y hb h=>h,fun v x y hb h=>h,fun v x y hb h=>hPM v x y hb h,fun v x y hb h=>by obtain⟨b,u,cs,e,h1,h2,h3,h4⟩:=h;exact⟨b,u,cs,e,hPM u x y hb h1,h2,h3,je h4 hb h4.lt⟩,trivial⟩
 refine qN 6 2 (by kernel_rfl) (by decide) a0 w0 JP (ji8 bb tb nb lo bv s beg PL) M (by kernel_rfl) (by kernel_rfl) (by kernel_rfl)
  (fun i o _ ho=>by unfold JP;rw[ho];rfl)
  (fun i k d hi hk h1 h2=>jkk i hi k hk (by rw[h1];intro q;cases q) (by rw[h1,h2]))
  (fun i d hi h=>by have:=jlI i hi;rw[h]at this;rw[hsz];exact this)
  (fun i o e ho he hb=>by
   obtain⟨hi,rfl⟩:=List.getElem?_eq_some_iff.1 ho
   exact jkc ⟨i,hi⟩ e he hb)
  ?step ?fin
 case fin =>
  intro a w hd hs hf hv hR
  obtain⟨y0,hy0,pv0⟩:=hv 0 30 (by decide) rfl
  obtain⟨y1,hy1,pv1⟩:=hv 1 31 (by decide) rfl
  obtain⟨y2,hy2,pv2⟩:=hv 2 32 (by decide) rfl
  obtain⟨y3,hy3,pv3⟩:=hv 3 33 (by decide) rfl
  obtain⟨y4,hy4,pv4⟩:=hv 4 34 (by decide) rfl
  obtain⟨y5,hy5,pv5⟩:=hv 5 35 (by decide) rfl
  rw[ZI (a:=a) (a0:=a0) [(30,y0),(31,y1),(32,y2),(33,y3),(34,y4),(35,y5)] hd hs (by
   intro p hp
   simp only[joS,jpc,or_false]at hp
   rcases hp with rfl|rfl|rfl|rfl|rfl|rfl
   ·exact hy0
   ·exact hy1
   ·exact hy2
   ·exact hy3
   ·exact hy4
   ·exact hy5
   ) (fun j hj=>hf j (fun k hk q=>hj (by
    have:∀k,k<6->(JP k).all (fun d=>[30,31,32,33,34,35].contains d)=true:=by decide +kernel
    have h1:=this k hk
    rw[q]at h1
    simpa using h1)))]
  exact hQ y0 y1 y2 y3 y4 y5 w hR pv0 pv5
 case step =>
 intro i o a w hi ho hs hf dep hR
 have e3:=evT ((hf 3 (by decide +kernel)).trans h3)
 have e1:=evT ((hf 1 (by decide +kernel)).trans h1)
 have e4:=evT ((hf 4 (by decide +kernel)).trans h4)
 rcases(by omega:i=0\/i=1\/i=2\/i=3\/i=4\/i=5) with rfl|rfl|rfl|rfl|rfl|rfl
 ·have ho2:some _=some o:=ho
  obtain rfl:=jng ho2
  exact .inl ⟨Zb rfl,fun K hK=>xF (by simp[go_sem,(hS w hR).1]) rfl e3 (hK _ _ (jne _ _) rfl)⟩
 ·have ho2:some _=some o:=ho
  obtain rfl:=jng ho2
  exact .inl ⟨Zb rfl,fun K hK=>xF (by simp[go_sem,(hS w hR).2.1]) rfl e1 (hK _ _ (jne _ _) rfl)⟩
 ·have ho2:some _=some o:=ho
  obtain rfl:=jng ho2
  exact .inl ⟨Zb rfl,fun K hK=>xF (by simp[go_sem,(hS w hR).2.2.1]) rfl e4 (hK _ _ (jne _ _) rfl)⟩
 ·have ho2:some _=some o:=ho
  obtain rfl:=jng ho2
  obtain⟨_,hv1,rfl⟩:∃v,a.tmps[31]?=some v/\(fun(v:Value) (w:World)=>v=.string s) v w:=dep ⟨1,Ground.data⟩ (by first|simp|simp[yy]) rfl 31 rfl
  obtain⟨_,hv2,rfl⟩:∃v,a.tmps[32]?=some v/\(fun(v:Value) (w:World)=>v=.int .i64 (beg:Nat)) v w:=dep ⟨2,Ground.data⟩ (by first|simp|simp[yy]) rfl 32 rfl
  exact .inl ⟨Zb rfl,fun K hK=>jfg rfl (evT hv1) (evT hv2) hle (hK _ _ (jne _ _) rfl)⟩
 ·have ho2:some _=some o:=ho
  obtain rfl:=jng ho2
  obtain⟨_,hv3,rfl⟩:∃v,a.tmps[33]?=some v/\(fun(v:Value) (w:World)=>v=.string (s.extract beg s.size)) v w:=dep ⟨3,Ground.data⟩ (by first|simp|simp[yy]) rfl 33 rfl
  exact .inl ⟨Zb rfl,fun K hK=>Vk 153 rfl (evT hv3) (enters_of (P:=prog) func153 (by kernel_rfl) rfl) (hC4 w hR) (fun v w' h=>hK v w' h.2 h.1)⟩
 have ho2:some _=some o:=ho
 obtain rfl:=jng ho2
 obtain⟨z4,hv4,pv4⟩:∃v,a.tmps[34]?=some v/\(fun(v:Value) (w:World)=>PL v w) v w:=dep ⟨4,Ground.data⟩ (by first|simp|simp[yy]) rfl 34 rfl
 exact .inl ⟨Zb rfl,fun K hK=>by obtain⟨k1,i1,fa1,fn1,fc1,rfl⟩:=hPF _ _ pv4;exact jfh rfl (evT hv4) (hK _ _ ((jne _ _).alloc (jnd _) _) ⟨w.heap.size,_,_,rfl,hPM _ _ _ ((jne _ _).alloc (jnd _) _) pv4,jns hlo hR.size,rfl,ja.new _ _ _⟩)⟩
end
section
attribute [local go_sem] jnn
theorem je7{w:World}{lo g cap:Nat}{cur:Array Value}{t:TypeId}{size:Nat}(hlo:lo<=g)(hc:w.heap[g]?=some (.cells cur t (0,0)))(hm:cap<=maxLen)(hs:cur.size=cap*size):w.ownsRow lo t size (.slice (some ⟨g,0,none⟩) 0 cap) 0 [] :=
 ⟨by simp,.inr ⟨g,cap,cur,rfl,hlo,hc,jnt _,hm,hs,by simp⟩⟩
theorem jh7(n:Nat)(hn:n<=1000000)(w:World):
  Calls prog 273 #[.slice none 0 0,.int .i64 n] w fun e w'=>∃v,e=.returned v/\w'.ownsRow w.heap.size 155 2 v 0 []/\Below w.heap.size w w':=by
 obtain⟨i0,hi,hz0,hz1,hz2⟩:=info_parts ja5
 have hw0:IntKind.i64.wrap ((n:Int)-0)=(n:Int):=by rw[Int.sub_zero];exact jn1 _ (by omega)
 have hw1:IntKind.i64.wrap (n:Int)=(n:Int):=jn1 _ (by omega)
 by_cases h0:n=0
 ·subst h0
  go_enter func273,ntmps273
  go_wp2_with fail
  go_ret
  exact⟨_,rfl,⟨rfl,.inl ⟨rfl,rfl⟩⟩,jne _ _⟩
 have hp:(0:Int)<(n:Int):=by omega
 have hr:=Lib.run_append_nil_zeros (P:=prog) w 61 3 61 155 i0 (.agg #[.string ⟨#[]⟩,.string ⟨#[]⟩]) .i64 .i64 underlying61 underlying3 hi hz0 n (by omega) (by rw[hz1];decide) (by omega) (by rw[hz2];omega)
 have hge:=grownCap_ge w n 0 155
 have hcm:grownCap w n 0 155<=maxLen:=grownCap_le_maxLen w n 0 155 (by unfold maxLen;omega)
 generalize grownCap w n 0 155=cap at *
 have hZ:(Builtin.zeroCells (Value.agg #[.string ⟨#[]⟩,.string ⟨#[]⟩]).cells n++Builtin.zeroCells (Value.agg #[.string ⟨#[]⟩,.string ⟨#[]⟩]).cells (cap-n)).size=cap*2:=by
  rw[jo3,vp,vp]
  show n*2+(cap-n)*2=cap*2
  omega
 generalize Builtin.zeroCells (Value.agg #[.string ⟨#[]⟩,.string ⟨#[]⟩]).cells n++Builtin.zeroCells (Value.agg #[.string ⟨#[]⟩,.string ⟨#[]⟩]).cells (cap-n)=Z at *
 have FIN:Hid ((w.drew.alloc (.cells Z 155)).ownsRow w.heap.size 155 2 (.slice (some ⟨w.heap.size,0,none⟩) 0 cap) 0 []/\Below w.heap.size w (w.drew.alloc (.cells Z 155))) :=
  ⟨je7 (jnd _) (by show(w.drew.heap.push _)[w.drew.heap.size]?=_;exact Array.getElem?_push_size) hcm hZ,(jne _ w).drew.alloc (jnd _) _⟩
 clear hZ
 unfold maxLen at hcm
 go_enter func273,ntmps273
 go_wp2_with (at_builtin;refine Lib.wpList_append_run _ rfl _ _ _ _ rfl _ _ rfl rfl _ _ hr ?_)
 go_wp2_with fail
 go_ret
 exact⟨_,rfl,FIN.out.1,FIN.out.2⟩
def Ug(rs:List (List Fld)):Nat:=(rs.map List.length).sum
theorem jfq{rs:List (List Fld)}{k:Nat}{r:List Fld}(h:rs[k]?=some r):Ug (rs.take (k+1))=Ug (rs.take k)+r.length:=by
 unfold Ug
 rw[jnW,h,jol,List.sum_append];simp
theorem YE(rs:List (List Fld))(k:Nat):Ug (rs.take k)<=Ug rs:=by
 unfold Ug
 conv=>rhs;rw[<- jnQ k rs,jol,List.sum_append]
 omega
theorem YN(rs:List (List Fld)):rs.flatten.length=Ug rs:=by unfold Ug;rw[List.length_flatten]
theorem GA{rs:List (List Fld)}{k:Nat}{r:List Fld}(h:rs[k]?=some r):(rs.take (k+1)).flatten=(rs.take k).flatten++r:=by
 rw[jnW,h];simp
theorem WX(a b:List Fld):jM (a++b)=jM a++jM b:=by unfold jM;rw[jnO]
theorem KA{w0 w:World}{v:Value}{vs:List Value}{rs:List (List Fld)}(h:jeo w0 w v vs rs)(hl:Ug rs<=1000000)(hn:rs.length<=1000000):
  Calls prog 250 #[v] w fun e w'=>∃u,e=.returned u/\w'.ownsRow w.heap.size 155 2 u rs.flatten.length (jM rs.flatten)/\Below w.heap.size w w':=by
 obtain⟨i0,hi,hz0,hz1,hz2⟩:=info_parts ja5
 have hvl:=h.len
 have hrow:=h.row
 obtain⟨va,vc,rfl,hvc⟩:=jg hrow
 have EACH:=jnc (fun(k:Nat) (r:List Fld) (hr:rs[k]?=some r)=>show ∃b fv,va=some ⟨b,0,none⟩/\b<w.heap.size/\w.cell? ⟨b,k,none⟩=some fv/\w.ownsRow w0.heap.size 155 2 fv r.length (jM r) from by
  have hk:=(List.getElem?_eq_some_iff.1 hr).1
  obtain⟨x,hx⟩:∃x,vs[k]?=some x:=⟨_,jnh (by omega)⟩
  rcases jor hrow with ⟨_,hn⟩|⟨g,cap,hg⟩
  ·omega
  injection hg with hg1 _ _
  subst hg1
  refine⟨g,x,rfl,(joK hrow g rfl).2,by rw[jnL hrow k (by omega)];exact hx,h.each k x r hx hr⟩)
 have h0s:=h.below.size
 clear h hrow
 rw[hvl]at hvc ⊢
 have HL:=jnc hl
 go_enter func250,ntmps250
 go_wp2_with fail
 go_loopw [3,11] (fun sv i wr=>∃k:Nat,k<=rs.length/\i=.int .i64 k/\sv=.int .i64 (Ug (rs.take k):Nat)/\wr=w) (fun _ i _=>rs.length-(intOf i).toNat)
 case atStart=>exact⟨0,jnt _,rfl,rfl,rfl⟩
 case round =>
 obtain⟨k,hk,rfl,rfl,hwr⟩:=hrel
 subst wr
 have hsum:=YE rs k
 by_cases hlt:k<rs.length
 ·obtain⟨r,hr⟩:∃r,rs[k]?=some r:=⟨_,jnh hlt⟩
  obtain⟨b,fv,rfl,hbb,c0,hf⟩:=EACH.out k r hr
  obtain⟨fa,fc,rfl,_⟩:=jg hf
  have hsum1:=YE rs (k+1)
  have S1:Hid (Ug (rs.take (k+1))=Ug (rs.take k)+r.length):=jfq hr
  rw[S1.out]at hsum1
  clear hr hf
  generalize hLK:Ug (rs.take k)=LK at *
  have hw:IntKind.i64.wrap ((LK:Int)+(r.length:Int))=(LK:Int)+(r.length:Int):=jn1 _ (by omega)
  have hge:¬((LK:Int)+(r.length:Int)<0):=by omega
  go_wp2_with fail
  go_roundw
  case rel=>exact⟨k+1,hlt,by go_num,by rw[S1.out];go_num,by first | trivial | rfl⟩
  case measure=>simp[intOf];omega
 obtain rfl:k=rs.length:=by omega
 rw[jnP]at *
 have GW:=jnc (jh7 (Ug rs) hl w)
 go_wp2_with fail
 refine GW.out.mono ?_
 rintro e w2 ⟨u,rfl,hu,b2⟩
 have HB2:=jnc b2
 have hu':w2.ownsRow w.heap.size 155 2 u (rs.take 0).flatten.length (jM (rs.take 0).flatten):=hu
 clear GW b2 hu
 go_wp2_with fail
 go_loopw [6,27] (fun ux i wr=>∃(j:Nat) (uv:Value),uv=ux/\j<=rs.length/\i=.int .i64 j/\wr.ownsRow w.heap.size 155 2 uv (rs.take j).flatten.length (jM (rs.take j).flatten)/\Below w.heap.size w wr) (fun _ i _=>rs.length-(intOf i).toNat)
 case atStart=>exact⟨0,u,rfl,jnt _,rfl,hu',HB2.out⟩
 case round =>
 obtain⟨j,uv,rfl,hj,rfl,hrow,hb⟩:=hrel
 obtain⟨ua,uc,rfl,huc⟩:=jg hrow
 by_cases hjl:j<rs.length
 ·obtain⟨r,hr⟩:∃r,rs[j]?=some r:=⟨_,jnh hjl⟩
  obtain⟨b,fv,rfl,hbb,c0,hf⟩:=EACH.out j r hr
  have hfq:=vq hf hb (jnd _)
  replace c0:=(hb.cell (p:=⟨b,j,none⟩) hbb).trans c0
  have e1:=GA hr
  have s1:=YE rs (j+1)
  rw[<- YN,e1,jnf]at s1
  have E1:Hid ((rs.take (j+1)).flatten=(rs.take j).flatten++r):=e1
  have hsz:=hb.size
  have HROW:=jnc hrow
  have HB:=jnc hb
  have fle:(rs.take j).flatten.length+r.length<=1000000:=by have:=HL.out;omega
  have hone:∀u∈jM r,u.oneCell'=true:=fun u hu=>by
   obtain⟨f,_,h2⟩:=List.mem_flatMap.1 hu
   simp at h2
   rcases h2 with rfl|rfl<;>rfl
  have hcl:=Jj r
  rcases jor hfq with ⟨rfl,hr0⟩|⟨g,cap,rfl⟩
  ·clear hf hfq hr e1 hrow hb s1
   generalize hFL:(rs.take j).flatten.length=fl at *
   go_wp2_with (at_builtin;refine wpList_append_own_none rfl _ _ 61 rfl w.heap.size 155 i0 2 underlying61 hi _ _ _ rfl HROW.out rfl ?_)
   go_wp2_with fail
   go_roundw
   case rel =>
    have er:r=[]:=List.length_eq_zero_iff.1 hr0
    exact⟨j+1,_,rfl,hjl,by go_num,by rw[E1.out,er,jnR,hFL];exact HROW.out,HB.out⟩
   case measure=>simp[intOf];omega
  have HC:∀(q:Nat) u,(jM r)[q]?=some u->wr.cell? ((⟨g,0,none⟩:Addr).add q)=some u:=fun q u hq=>by
   have hql:=(List.getElem?_eq_some_iff.1 hq).1
   rw[jpB,jnX,jnL hfq q (by omega)];exact hq
  have HCH:=jnc HC
  clear hf hfq hr e1 hrow hb HC s1
  generalize hFL:(rs.take j).flatten.length=fl at *
  go_wp2_with (at_builtin;refine jW rfl _ _ 61 rfl w.heap.size 155 i0 _ 2 32 underlying61 hi hz0 hz1 hz2 rfl (by decide) _ _ _ rfl HROW.out ⟨g,0,none⟩ r.length cap _ rfl hcl HCH.out hone ?c3 ?c4 ?c5 ?_)
  case c3=>unfold maxLen;omega
  case c4=>omega
  case c5=>exact hsz
  intro v' w3 hown' hgrow hbk
  have HB3:=jnc (HB.out.grown hgrow hsz (fun k hk=>(HROW.out.lt k hk).1))
  have HO3:=jnc hown'
  obtain⟨xa,xc,rfl,_⟩:=jg hown'
  clear hown' hgrow hbk
  go_wp2_with fail
  go_roundw
  case rel=>exact⟨j+1,_,rfl,hjl,by go_num,by rw[E1.out,jnf,WX,hFL];exact HO3.out,HB3.out⟩
  case measure=>simp[intOf];omega
 obtain rfl:j=rs.length:=by omega
 rw[jnP]at hrow ⊢
 have FIN:Hid (wr.ownsRow w.heap.size 155 2 (.slice ua rs.flatten.length uc) rs.flatten.length (jM rs.flatten)/\Below w.heap.size w wr):=⟨hrow,hb⟩
 clear hrow hb
 generalize hFL:rs.flatten.length=fl at *
 go_wp2_with fail
 go_ret
 obtain⟨f1,f2⟩:=FIN.out
 refine⟨_,rfl,?_,f2⟩
 first | exact f1 | (rw[hFL];exact f1)
end
end Go.Proofs.YtpibhbjmcmfnmaaGreatDoor
