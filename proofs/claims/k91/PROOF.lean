import PyProof.Rows.All
import Wide.All
import OpenK.AllK
import Wide.FinOn
import Lean
import PyProof.EqAt
import PyProof.EqKinds
import PyProof.TupleCall
import PyProof.Rows.Range3
import PyProof.Rows.FStr
import PyProof.MeetsStr
import PyProof.FitsReplace
import PyProof.MeetsStr2
import KE.KIntText
import PyProof.StrWalks
import PyProof.SliceStr2
import PyProof.PureStr
import PyProof.SliceList
import PyProof.Rows.ListMulArg
import KE.KSortTup
import KE.LcSums
import PyProof.SeqI3
import KE.KMinBuiltin
import PyProof.ListRange
import PyProof.TupleOfSeq
import PyProof.StrLawsTight
import PyProof.StrLawsIn
import PyProof.Rows.StrCut
import KE.IntTextLaws
import PySem.Challenge.RW_holdplaces_k91_webs_read
set_option compiler.extract_closed false
set_option Elab.async false
set_option bootstrap.genMatcherCode false
set_option maxHeartbeats 8000000
set_option maxRecDepth 100000
set_option linter.all false
noncomputable section
open PyProof.Rows renaming slot_tuple_getitem→eK,callWith_type1→fE,wpS_bind→aN,wpS_pure→aX,IntsAre→bq,mirror→aS,seqObj→bc,SortSt→bg,arrOf→au,Keyed→aD
open PySem.Builtin.SmallTypes renaming nextOf→cH
open PySem.Builtin.Slice renaming slicePlaces→dw,sliceAdjust→eM
open PySem.Builtin.Tuple renaming tupleExact→dy
open Option renaming bind_eq_some_iff→aF,map_eq_some_iff→br,bind_eq_bind→aH
open List renaming mem_append_right→cc,take_append_drop→eN,mem_cons_of_mem→aK,mem_cons_self→aO,size_toArray→aP,flatMap_cons→dX,lookup_cons→bw,not_mem_nil→bx,all_eq_true→bL,length_cons→bZ,getElem_mem→dC,getElem_map→dY,length_take→dZ,length_map→aQ,append_nil→dD,replicate→bW,mem_cons→aG,map_cons→aM,mem_map→a8,range→a_
open Array renaming length_toList→bU
open PySem renaming mem_of_lookup→cw,wpAny_truthy_bool→bJ,wpAny_newObj_type→bK,wpAny_call_entry→b5,codeAny_builtin→dF,wpAny_holding→bS,Comprehension→cy,bootBuiltins→bO,mainGlobals→ar,sizeLine_eq→bA,wpAny_field→bD,wpAny_bind→ag,wpAny_pure→aq,wpAny_mono→bT,compareOp→ba,cellsFrom→bh,sizeLine→aL,NameKind→aU,SetTable→aW,starEach→aZ,FuncData→bI,Program→aB,Shared→af,Around→aC,Value→ae,wpAny→ah,model→ak,World→aw,Scope→aY
open PySem.W renaming hideAll_get→dU,mg_none_of→dW,kia_one→bQ,kitOne→bz,exmOne→cg,keepIn→cx,subIn→aV,nsIn→av,Frag→ax,fnOf→b7
open Bool renaming false_eq_true→aR,false_ne_true→cf,not_eq_true'→bG,and_eq_true→aJ,or_eq_true→bV,not_true→bR
open Nat renaming lt_of_lt_of_le→bt,lt_succ_of_lt→dz,le_of_not_lt→dA,lt_irrefl→bN,ne_of_lt→a7,le_trans→bf,le_refl→aE,zero_le→bu
open Option.some renaming injEq→bY,inj→bM
open ForInStep renaming yield→dE
open PySem.Heap renaming size_push→bC,lt_size→aI
open PySem.NameKind renaming free→b6
open PySem.Str renaming ofString→ao
open False renaming elim→a9
open PySem.Obj renaming mapSeq→bB
open PySem.Value renaming type→bE,bool→bH,none→bP,ref→bF
open And renaming intro→ay
set_option Elab.async false
namespace L2
open PySem PySem.Spec PyProof.Rows
abbrev Key:=Sum Int Str
noncomputable def rh:Key->ae->Bool
 | .inl k,v=>ae.isInt k v
 | .inr x,v=>ae.isStrOf x v
noncomputable def xS(w:aw):Key->Int
 | .inl k=>hashInt k
 | .inr x=>hashStr w x
theorem zS:∀{k:Key}{v:ae},rh k v=true->(∃i t,k=Sum.inl i/\v=ae.int i t)\/(∃x t,k=Sum.inr x/\v=ae.str x t)
 | .inl i,v,h=>by
  obtain⟨t,e⟩:=ae.isInt_shape (k:=i) (v:=v) h;exact .inl ⟨i,t,rfl,e⟩
 | .inr x,v,h=>by
  obtain⟨t,e⟩:=ae.isStrOf_shape (x:=x) (v:=v) h;exact .inr ⟨x,t,rfl,e⟩
theorem E_(a b:Int):decide ((Sum.inl a:Key)=Sum.inl b)=(a==b):=by
 by_cases e:a=b
 ·subst e;simp
 ·have h:¬ (Sum.inl a:Key)=Sum.inl b:=λq=>e (Sum.inl.inj q)
  rw[decide_eq_false h];exact(beq_eq_false_iff_ne.mpr e).symm
theorem uH(a b:Str):decide ((Sum.inr a:Key)=Sum.inr b)=decide (a=b):=by
 by_cases e:a=b
 ·subst e;simp
 ·have h:¬ (Sum.inr a:Key)=Sum.inr b:=λq=>e (Sum.inr.inj q)
  rw[decide_eq_false h,decide_eq_false e]
theorem Am(a:Int)(b:Str):decide ((Sum.inl a:Key)=Sum.inr b)=false:=decide_eq_false (λq=>nomatch q)
theorem uk(a:Str)(b:Int):decide ((Sum.inr a:Key)=Sum.inl b)=false:=decide_eq_false (λq=>nomatch q)
noncomputable def lb(prog:aB)(w:aw):PySem.KeyKind prog w Key where
 is:=rh
 hash:=xS w
 inj:=λv a b ha hb=>by
  rcases zS ha with ⟨i,t,rfl,rfl⟩|⟨x,t,rfl,rfl⟩
  ·rcases zS hb with ⟨j,u,rfl,e⟩|⟨y,u,rfl,e⟩
   ·injection e with e1 _;rw[e1]
   ·exact nomatch e
  ·rcases zS hb with ⟨j,u,rfl,e⟩|⟨y,u,rfl,e⟩
   ·exact nomatch e
   ·injection e with e1 _;rw[e1]
 byValue:=λk v h=>by
  rcases zS h with ⟨i,t,rfl,rfl⟩|⟨x,t,rfl,rfl⟩<;>rfl
 pyHash:=λhv h=>by
  rcases zS hv with ⟨i,t,rfl,rfl⟩|⟨x,t,rfl,rfl⟩
  ·exact wpAny_pyHash_int h
  ·exact wpAny_pyHash_str h
 eqBool:=λhu hv h=>by
  rcases zS hu with ⟨i,t,rfl,rfl⟩|⟨x,t,rfl,rfl⟩
  ·rcases zS hv with ⟨j,u,rfl,rfl⟩|⟨y,u,rfl,rfl⟩
   ·rw[E_]at h;exact wpAny_eqBool_int h
   ·rw[Am]at h;exact SeqAt.EqAt.int_str i t y u _ _ _ _ h
  ·rcases zS hv with ⟨j,u,rfl,rfl⟩|⟨y,u,rfl,rfl⟩
   ·rw[uk]at h;exact SeqAt.EqAt.str_int x t j u _ _ _ _ h
   ·rw[uH]at h;exact wpAny_eqBool_str h
 «strs»:=λk x t v h=>by
  rcases zS h with ⟨i,u,rfl,e⟩|⟨y,u,rfl,e⟩
  ·exact nomatch e
  ·injection e with e1 _
   subst e1;cases v<;>rfl
inductive V where
 |non|bl (b:Bool)|int (i:Int)|str (x:Str)|byt (b:Array UInt8)|flt (b:UInt64)|ref (a:Addr)|ty (n:String)
 deriving DecidableEq
noncomputable def RelV:V->ae->Prop
 | .non,u=>u=bP
 | .bl b,u=>u=bH b
 | .int i,u=>∃t,u=ae.int i t
 | .str x,u=>∃t,u=ae.str x t
 | .byt b,u=>∃t,u=ae.bytes b t
 | .flt b,u=>∃t,u=ae.float b t
 | .ref a,u=>u=bF a
 | .ty n,u=>u=bE n
abbrev Vals:List V->List ae->Prop:=Paired RelV
theorem Vals.length{xs:List V}{us:List ae}(r:Vals xs us):xs.length=us.length:=Paired.length r
theorem Vals.get:∀{xs:List V}{us:List ae}{i:Nat}{x:V},Vals xs us->xs[i]? = some x->∃u,us[i]? = some u/\RelV x u
 |_,_,_,_,.nil,e=>by simp at e
 |_,_,0,_,.cons r _,e=>by simp at e;subst e;exact⟨_,rfl,r⟩
 |_,_,i+1,x,.cons _ t,e=>by
  obtain⟨u,h1,h2⟩:=Vals.get (i:=i) (x:=x) t (by simpa using e);exact⟨u,by simpa using h1,h2⟩
theorem Vals.set{x:V}{u:ae}(r:RelV x u):∀{xs:List V}{us:List ae} (i:Nat),Vals xs us->Vals (xs.set i x) (us.set i u)
 |_,_,_,.nil=>.nil
 |_,_,0,.cons _ t=>.cons r t
 |_,_,i+1,.cons q t=>.cons q (Vals.set r i t)
theorem Vals.append:∀{xs ys:List V}{us ws:List ae},Vals xs us->Vals ys ws->Vals (xs++ys) (us++ws)
 |_,_,_,_,.nil,s=>s
 |_,_,_,_,.cons r t,s=>.cons r (Vals.append t s)
theorem Vals.take:∀{xs:List V}{us:List ae} (n:Nat),Vals xs us->Vals (xs.take n) (us.take n)
 |_,_,0,_=>.nil
 |_,_,_+1,.nil=>.nil
 |_,_,n+1,.cons r t=>.cons r (Vals.take n t)
theorem Vals.drop:∀{xs:List V}{us:List ae} (n:Nat),Vals xs us->Vals (xs.drop n) (us.drop n)
 |_,_,0,r=>r
 |_,_,_+1,.nil=>.nil
 |_,_,n+1,.cons _ t=>Vals.drop n t
noncomputable def l9:Option V->Option ae->Prop
 |some v,some u=>RelV v u
 |none,none=>True
 |_,_=>False
noncomputable def KV{κ:Type}:List (κ×V)->List (κ×ae)->Prop:=Paired λ(p:κ×V) (q:κ×ae)=>p.1=q.1/\RelV p.2 q.2
noncomputable def kV:Key->V
 | .inl i=>.int i
 | .inr x=>.str x
inductive HO where
 |lst (xs:List V)
 |tup (xs:List V)
 |dK (kvs:List (Key×V))|dT (kvs:List (List Key×V))
 |set (S:Int->Bool) (n:Nat)
 |ins (C dx:Addr) (fs:List (Str×V))
 |own (x:Addr)
 |xd (fs:List (Str×V))
 |met (f x:Addr)
 |rng (lo hi:Int)
 |frz (o:Obj) (u:HO)
 |tbl (ps:Array ae)
 |ext (φ:Heap->Prop)
abbrev Hp:=Addr->Option HO
noncomputable def upd(H:Hp)(a:Addr)(o:HO):Hp:=λb=>if b=a then some o else H b
theorem zC{H:Hp}{a:Addr}{o:HO}:upd H a o a=some o:=by unfold upd;rw[if_pos rfl]
theorem qq{H:Hp}{a b:Addr}{o:HO}(h:b≠a):upd H a o b=H b:=by unfold upd;rw[if_neg h]
theorem jc{H:Hp}{a b:Addr}{o:HO}(h:H a=some o)(h':H b=none):a≠b:=by
 intro e;subst e;rw[h]at h';cases h'
section
variable(P:aB)(w:aw)
noncomputable def zY(H:Hp)(h:Heap)(a:Addr):HO->Prop
 | .lst xs=>xs.length<=aL/\∃(its:List ae) (n:Nat),Vals xs its/\h.get? a=some {cls:=.type "list",data:=.seq its.toArray n}
 | .tup xs=>xs.length<=aL/\∃its:List ae,Vals xs its/\IsTup h a its.toArray
 | .dK kvs=>kvs.length<=aL/\(a==sysModules)=false/\∃vs,KV kvs vs/\h.DictOf (lb P w) a vs
 | .dT kvs=>kvs.length<=aL/\(a==sysModules)=false/\∃xs:List (List Key×Addr×ae),
   Paired (λ(p:List Key×V) (q:List Key×Addr×ae)=>p.1=q.1/\H q.2.1=some (.tup (p.1.map kV))/\RelV p.2 q.2.2) kvs xs /\
   ∃o es ep,h.get? a=some o/\o.ExactDict/\o.data=.dict es ep/\es.toList=xs.map (entryOfKey (tupleKind (lb P w)))/\(xs.map (·.1)).Nodup
 | .set S n=>h.SetOf (intKind P w) a S n
 | .ins C dx fs=>H dx=some (.own a)/\fs.length<=1000/\dx≠a/\h.get? a=some (PySem.W.instObj C dx) /\
   ∃mA,h.Ns1 dx mA/\(∀f,l9 (fs.lookup f) (mA f))/\PySem.Within mA (fs.map (·.1))
 | .own _=>∃o,h.get? a=some o
 | .xd fs=>∃mA,h.Ns1 a mA/\∀f,l9 (fs.lookup f) (mA f)
 | .rng lo hi=>∃t u v,h.get? a=some {cls:=.type "range",data:=.fields #[.int lo t,.int hi u,.int 1 v]}
 | .frz o u=>h.get? a=some o/\zY H h a u
 | .tbl ps=>h.get? a=some {cls:=.none,data:=.fields ps}
 | .met f x=>h.get? a=some (PySem.W.methodObj (.ref f) (.ref x))
 | .ext φ=>φ h/\(∃o,h.get? a=some o)/\∀h1 h2:Heap,φ h1->(∀o,h1.get? a=some o->h2.get? a=some o)->φ h2
noncomputable def HOk(H:Hp)(h:Heap):Prop:=∀a o,H a=some o->zY P w H h a o
end
section
variable{P:aB}{w:aw}{H H':Hp}{h h':Heap}{a:Addr}{o:HO}
theorem zY.lt(x:zY P w H h a o):a<h.objs.size:=by
 cases o with
 |lst xs=>obtain⟨_,_,_,_,e⟩:=x;exact aI e
 |tup xs=>obtain⟨_,_,_,p⟩:=x;exact p.lt
 |dK kvs=>obtain⟨_,_,_,_,o,_,_,e,_⟩:=x;exact aI e
 |dT kvs=>obtain⟨_,_,_,_,o,_,_,e,_⟩:=x;exact aI e
 |set S n=>obtain⟨o,_,_,_,e,_⟩:=x;exact aI e
 |ins C dx fs=>obtain⟨_,_,_,e,_⟩:=x;exact aI e
 |own y=>obtain⟨_,e⟩:=x;exact aI e
 |xd fs=>obtain⟨_,⟨_,_,_,e,_⟩,_⟩:=x;exact aI e
 |rng lo hi=>obtain⟨_,_,_,e⟩:=x;exact aI e
 |frz ob u=>obtain⟨e,_⟩:=x;exact aI e
 |tbl ps=>exact aI (show h.get? a=some _ from x)
 |met f y=>exact aI (show h.get? a=some _ from x)
 |ext φ=>obtain⟨_,⟨_,e⟩,_⟩:=x;exact aI e
theorem Paired.mapP{α β:Type}{F G:α->β->Prop}:∀{l₁:List α}{l₂:List β},Paired F l₁ l₂->(∀a b,F a b->G a b)->Paired G l₁ l₂
 |_,_,.nil,_=>.nil
 |_,_,.cons r t,f=>.cons (f _ _ r) (Paired.mapP t f)
theorem zY.stay(x:zY P w H h a o)(k:∀b u,(b=a\/H b=some (.own a))->h.get? b=some u->h'.get? b=some u)
  (ho:∀b,H b=some (.own a)->H' b=some (.own a)) (ht:∀b xs,H b=some (.tup xs)->H' b=some (.tup xs)):zY P w H' h' a o:=by
 induction o with
 |lst xs=>obtain⟨z,its,n,r,e⟩:=x;exact⟨z,its,n,r,k _ _ (.inl rfl) e⟩
 |tup xs=>obtain⟨z,its,r,ob,e,c⟩:=x;exact⟨z,its,r,ob,k _ _ (.inl rfl) e,c⟩
 |dK kvs=>obtain⟨z,y,vs,r,ob,es,ep,e,c⟩:=x;exact⟨z,y,vs,r,ob,es,ep,k _ _ (.inl rfl) e,c⟩
 |dT kvs=>
  obtain⟨z,y,xs,r,ob,es,ep,e,c⟩:=x;exact⟨z,y,xs,Paired.mapP r λp q z=>⟨z.1,ht _ _ z.2.1,z.2.2⟩,ob,es,ep,k _ _ (.inl rfl) e,c⟩
 |set S n=>obtain⟨ob,es,ep,t,e,c⟩:=x;exact⟨ob,es,ep,t,k _ _ (.inl rfl) e,c⟩
 |ins C dx fs=>
  obtain⟨d,z,ne,e,mA,⟨od,es,ep,e2,c⟩,r⟩:=x;exact⟨ho _ d,z,ne,k _ _ (.inl rfl) e,mA,⟨od,es,ep,k _ _ (.inr d) e2,c⟩,r⟩
 |own y=>obtain⟨ob,e⟩:=x;exact⟨ob,k _ _ (.inl rfl) e⟩
 |xd fs=>obtain⟨mA,⟨od,es,ep,e,c⟩,r⟩:=x;exact⟨mA,⟨od,es,ep,k _ _ (.inl rfl) e,c⟩,r⟩
 |rng lo hi=>obtain⟨t,u,v,e⟩:=x;exact⟨t,u,v,k _ _ (.inl rfl) e⟩
 |frz ob u ih=>obtain⟨e,q⟩:=x;exact⟨k _ _ (.inl rfl) e,ih q⟩
 |tbl ps=>
  have e:h.get? a=some {cls:=.none,data:=.fields ps}:=x;show h'.get? a=some {cls:=.none,data:=.fields ps};exact k a _ (.inl rfl) e
 |met f y=>
  have e:h.get? a=some (PySem.W.methodObj (.ref f) (.ref y)):=x;show h'.get? a=some (PySem.W.methodObj (.ref f) (.ref y));exact k a _ (.inl rfl) e
 |ext φ=>obtain⟨p,⟨o,e⟩,st⟩:=x;exact⟨st _ _ p λo q=>k _ _ (.inl rfl) q,⟨o,k _ _ (.inl rfl) e⟩,st⟩
theorem HOk.lt(x:HOk P w H h)(e:H a=some o):a<h.objs.size:=(x a o e).lt
theorem HOk.fresh(x:HOk P w H h)(e:h.objs.size<=a):H a=none:=by
 cases q:H a with
 |none=>rfl
 |some u=>exact absurd (bt (x.lt q) e) (bN _)
theorem HOk.kept(x:HOk P w H h)(k:∀b u,h.get? b=some u->h'.get? b=some u):HOk P w H h':=λa o e=>
 (x a o e).stay (λb u _ q=>k b u q) (λ_ q=>q) λ_ _ q=>q
theorem HOk.laid(x:HOk P w H h)(k:∀b u,h.get? b=some u->h'.get? b=some u)(hp:h.objs.size<=a)(new:zY P w (upd H a o) h' a o):HOk P w (upd H a o) h':=λb u e=>by
 have hn:=x.fresh hp;by_cases hb:b=a
 ·subst hb;rw[zC]at e;cases e;exact new
 ·rw[qq hb]at e;exact(x b u e).stay (λc v _ q=>k c v q) (λc q=>by rw[qq (jc q hn)];exact q) λc xs q=>by rw[qq (jc q hn)];exact q
end
noncomputable def Rd(H:Hp)(a:Addr)(u:HO):Prop:=H a=some u\/∃o,H a=some (.frz o u)
theorem Rd.of{H:Hp}{a:Addr}{u:HO}(h:H a=some u):Rd H a u:=.inl h
theorem Rd.ok{P:aB}{w:aw}{H:Hp}{h:Heap}{a:Addr}{u:HO}(r:Rd H a u)(x:HOk P w H h):zY P w H h a u:=by
 rcases r with r|⟨o,r⟩
 ·exact x a u r
 ·obtain⟨_,q⟩:=x a _ r;exact q
noncomputable def Mut:Option HO->Prop
 |some (.lst _)=>True
 |some (.dK _)=>True
 |some (.dT _)=>True
 |some (.set _ _)=>True
 |some (.ins _ _ _)=>True
 |some (.ext _)=>True
 |_=>False
section
variable{P:aB}{w:aw}{H:Hp}{h h':Heap}{x e:Addr}{o':HO}
theorem HOk.write(ok:HOk P w H h)(mu:Mut (H x))(he:e=x\/H e=some (.own x))(k:∀b u,b≠e->h.get? b=some u->h'.get? b=some u)(heo:∃u,h'.get? e=some u)
  (new:zY P w (upd H x o') h' x o'):HOk P w (upd H x o') h':=λb u q=>by
 have nown:∀c y,H c=some (.own y)->c≠x:=λc y r z=>by subst z;rw[r]at mu;exact mu
 have ntup:∀c xs,H c=some (.tup xs)->c≠x:=λc xs r z=>by subst z;rw[r]at mu;exact mu
 by_cases hb:b=x
 ·subst hb;rw[zC]at q;cases q;exact new
 ·rw[qq hb]at q;by_cases hbe:b=e
  ·have q':H b=some (.own x):=by
    rcases he with z|z
    ·exact absurd (hbe.trans z) hb
    ·rw[hbe];exact z
   rw[q]at q';cases q';obtain⟨v,hv⟩:=heo;exact⟨v,by rw[hbe];exact hv⟩
  ·refine(ok b u q).stay (λc v hc r=>k c v ?_ r) (λc r=>by rw[qq (nown c b r)];exact r) λc xs r=>by rw[qq (ntup c xs r)];exact r
   rcases hc with rfl|hc
   ·exact hbe
   ·rintro rfl;rcases he with z|z
    ·exact nown c b hc z
    ·rw[hc]at z;cases z;exact hb rfl
end
structure Un(fs ex:List Addr)(H H':Hp)(h h':Heap):Prop where
 keep:∀b o,h.get? b=some o->H b=none->b∉fs->b∉ex->h'.get? b=some o
 slot:∀b o,h.get? b=some o->H b=none->b∈fs->b∉ex->∃sl,h'.get? b=some {o with slots:=sl}
 free:∀b o,h.get? b=some o->H b=none->b∉ex->H' b=none
 there:∀b o,h.get? b=some o->b∉ex->∃o',h'.get? b=some o'
 tups:∀b xs,H b=some (.tup xs)->H' b=some (.tup xs)
 frzs:∀b o u,H b=some (.frz o u)->H' b=some (.frz o u)
 tbls:∀b ps,H b=some (.tbl ps)->∃more,H' b=some (.tbl (ps++more))
section
variable{fs fs' ex ex':List Addr}{H H1 H2:Hp}{h h1 h2 h':Heap}{a x e:Addr}{o:HO}
theorem Un.any(u:Un fs ex H H1 h h1){b:Addr}{ob:Obj}(q:h.get? b=some ob)(n:H b=none)(hx:b∉ex):∃sl,h1.get? b=some {ob with slots:=sl}:=by
 by_cases hb:b∈fs
 ·exact u.slot b ob q n hb hx
 ·exact⟨ob.slots,u.keep b ob q n hb hx⟩
theorem Un.kept(k:∀b u,h.get? b=some u->h'.get? b=some u):Un fs ex H H h h':=
 ⟨λb ob q _ _ _=>k b ob q,λb ob q _ _ _=>⟨ob.slots,k b ob q⟩,λ_ _ _ n _=>n,λb ob q _=>⟨ob,k b ob q⟩,λ_ _ q=>q,λ_ _ _ q=>q,λ_ ps q=>⟨#[],by rw[q];simp⟩⟩
theorem Un.refl:Un fs ex H H h h:=Un.kept λ_ _ q=>q
theorem Un.laid(k:∀b u,h.get? b=some u->h'.get? b=some u)(hp:h.objs.size<=a)(hn:H a=none):Un fs ex H (upd H a o) h h' where
 keep:=λb u q _ _ _=>k b u q
 slot:=λb u q _ _ _=>⟨u.slots,k b u q⟩
 free:=λb u q n _=>by rw[qq (a7 (bt (aI q) hp))];exact n
 there:=λb u q _=>⟨u,k b u q⟩
 tups:=λb xs q=>by rw[qq (jc q hn)];exact q
 frzs:=λb u xs q=>by rw[qq (jc q hn)];exact q
 tbls:=λb ps q=>⟨#[],by rw[qq (jc q hn),q];simp⟩
theorem Un.write(mu:Mut (H x))(he:e=x\/H e=some (.own x))(k:∀b u,b≠e->h.get? b=some u->h'.get? b=some u)(heo:∃u,h'.get? e=some u):Un fs ex H (upd H x o) h h':=by
 have hx:∀b,H b=none->b≠x:=λb n z=>by subst z;rw[n]at mu;exact mu
 have hb:∀b,H b=none->b≠e:=λb n z=>by
  subst z;rcases he with r|r
  ·exact hx b n r
  ·rw[n]at r;cases r
 have hm:∀b u,H b=some u->¬ Mut (some u)->b≠x:=λb u q nm z=>by subst z;rw[q]at mu;exact nm mu
 refine⟨λb u q n _ _=>k b u (hb b n) q,λb u q n _ _=>⟨u.slots,k b u (hb b n) q⟩,λb u q n _=>by rw[qq (hx b n)];exact n,λb u q _=>?_,
  λb xs q=>by rw[qq (hm b _ q λz=>z)];exact q,λb u xs q=>by rw[qq (hm b _ q λz=>z)];exact q,λb ps q=>⟨#[],by rw[qq (hm b _ q λz=>z),q];simp⟩⟩
 by_cases hbe:b=e
 ·subst hbe;exact heo
 ·exact⟨u,k b u hbe q⟩
end
noncomputable def trk(h:Heap)(H:Hp):List Addr:=(a_ h.objs.size).filter λa=>(H a).isSome
noncomputable def fo(h:Heap)(H:Hp):Heap:=PySem.W.hideAll h (trk h H)
theorem AJ(h:Heap)(H:Hp):(fo h H).objs.size=h.objs.size:=PySem.W.hideAll_size _ _
theorem vF{h:Heap}{H:Hp}{b:Addr}{o:Obj}(e:h.get? b=some o)(n:H b=none):(fo h H).get? b=some o:=
 dU _ e λhm=>by
  have q:(H b).isSome=true:=(List.mem_filter.mp hm).2;rw[n]at q;simp at q
theorem y8{h:Heap}{H:Hp}{b:Addr}{o:Obj}(e:(fo h H).get? b=some o):h.get? b=some o/\H b=none:=by
 have e':h.get? b=some o:=PySem.W.of_hideAll (trk h H) e;refine⟨e',?_⟩;cases q:H b with
 |none=>rfl
 |some x=>
  have hm:b∈trk h H:=List.mem_filter.mpr ⟨List.mem_range.mpr (aI e'),by simp[q]⟩;have z:(fo h H).get? b=none:=PySem.W.hideAll_none (trk h H) hm;rw[z]at e;cases e
noncomputable def kf(g h:Heap)(L:Addr):List (Addr×Obj):=(a_ h.objs.size).filterMap λa=>if a=L\/(g.get? a).isSome=true then none else (h.get? a).map λo=>(a,o)
theorem n_{g h:Heap}{L a:Addr}{o:Obj}(h1:a≠L)(h2:g.get? a=none)(h3:h.get? a=some o):(a,o)∈kf g h L:=
 List.mem_filterMap.mpr ⟨a,List.mem_range.mpr (aI h3),by simp[h1,h2,h3]⟩
theorem vN{g h:Heap}{L:Addr}{p:Addr×Obj}(hp:p∈kf g h L):p.1≠L/\g.get? p.1=none/\h.get? p.1=some p.2:=by
 obtain⟨b,_,e⟩:=List.mem_filterMap.mp hp;split at e
 ·cases e
 ·rename_i hn
  cases q:h.get? b with
  |none=>rw[q]at e;simp at e
  |some u=>
   rw[q]at e;simp only[Option.map_some,bY]at e;subst e;refine⟨λz=>hn (.inl z),?_,q⟩;show g.get? b=none;cases r:g.get? b with
   |none=>rfl
   |some v=>exact(hn (.inr (by simp[r]))).elim
noncomputable def rest(g h:Heap)(L d:Addr):List (Addr×Obj):=(kf g h L).filter λp=>decide (p.1≠d)
theorem uK{g h:Heap}{L:Addr}:News g L h (kf g h L):=λp hp=>let ⟨a,b,c⟩:=vN hp;⟨c,a,b⟩
structure Mod(K:ax)(mg:Str->Option ae)(base:Heap):Prop where
 kin:K.In base
 glob:base.Ns ar mg
 blt:∃mb,base.Ns builtinsNs mb/\∀x:Str,x≠"__name__"->mb x=bO x
 nolimit:base.NoLimit
structure Cx where
 prog:aB
 w:aw
 K:ax
 mg:Str->Option ae
 base:Heap
 A:aC
 N:List Str
 s₀:af
 H₀:Hp
 env:Env
 outer:List Env
 stack:List Env
 ex:List Addr
 fn:Str->Bool
 calm:Bool
 pn:List (Addr×Obj)
 xe:ae->af->Prop
noncomputable def frs(l:List Env):List Addr:=l.filterMap (·.frame)
abbrev Cx.fs(X:Cx):List Addr:=frs X.outer
noncomputable def gH(sc:aY)(x:Str):Prop:=sc.names.lookup x=some .local\/sc.names.lookup x=some .cell\/sc.names.lookup x=some .free
noncomputable def Loc(sc:aY)(x:Str):Prop:=sc.names.lookup x=some .local\/sc.names.lookup x=some .cell
noncomputable def Look(env:Env)(h:Heap)(m:Str->Option ae)(x:Str)(u:ae):Prop:=
 (env.kindOf x=some .local/\m x=some u)\/((env.kindOf x=some .cell\/env.kindOf x=some .free)/\∃c,env.cells.lookup x=some c/\h.IsCell c (some u))
structure Cx.Ok(X:Cx):Prop where
 mod:Mod X.K X.mg X.base
 kind:X.env.scope.kind=.function
 glob:X.env.globals=ar
 blt:X.env.builtins=builtinsNs
 above:X.s₀.heap.objs.size<=X.env.locals
 inj:∀x y c,X.env.cells.lookup x=some c->X.env.cells.lookup y=some c->x=y
 has:∀x,(X.env.kindOf x=some .cell\/X.env.kindOf x=some .free)->∃c,X.env.cells.lookup x=some c
 cab:∀x c,X.fn x=true->X.env.cells.lookup x=some c->X.s₀.heap.objs.size<=c
 hd:X.calm=true->X.A.handled=none
 frames:X.A.frames=some X.stack
 stk:X.stack=X.outer\/(X.stack=X.env::X.outer/\X.env.frame=some X.env.locals)
 exf:∀b∈X.ex,b≠X.env.locals/\∀x c,X.env.cells.lookup x=some c->c≠b
 bs:∀b o,X.base.get? b=some o->X.s₀.heap.get? b=some o/\X.H₀ b=none
 bsz:X.base.objs.size<=X.s₀.heap.objs.size
 noex:∀b o,X.base.get? b=some o->b∉X.ex
 exfs:∀b∈X.ex,b∉X.fs
 funs:X.s₀.heap.FunFrames X.base X.outer
 frf:∀b∈X.fs,X.H₀ b=none
structure Inv(X:Cx)(pins:List (Addr×Obj))(σ:List (Option V))(H:Hp)(s:af):Prop where
 ok:X.Ok
 os:s.os=X.s₀.os
 bare:AllBare s.gens
 base:Un X.fs X.ex X.H₀ H X.s₀.heap s.heap
 loc:∃m,s.heap.Ns X.env.locals m/\∀(i:Nat) (x:Str) (v:V),X.N[i]? = some x->σ[i]? = some (some v)->gH X.env.scope x->∃u,RelV v u/\Look X.env s.heap m x u
 cell:∀x c,X.env.cells.lookup x=some c->∃v,s.heap.IsCell c v
 free:H X.env.locals=none
 freeC:∀x c,X.env.cells.lookup x=some c->H c=none
 pin:∀p∈X.pn++pins,s.heap.get? p.1=some p.2/\H p.1=none/\p.1≠X.env.locals/\p.1∉X.fs/\∀v,p.2.data≠.cell v
 hok:HOk X.prog X.w H s.heap
 len:σ.length=X.N.length
section
variable{X:Cx}{pins:List (Addr×Obj)}{σ:List (Option V)}{H H':Hp}{s:af}{h':Heap}
theorem Cx.Ok.nofr(ok:X.Ok){b:Addr}{o:Obj}(e:X.base.get? b=some o):b∉X.fs:=λhb=>by
 have:=(ok.funs.mem hb).1;rw[e]at this;cases this
theorem Inv.bs(I:Inv X pins σ H s):∀b o,X.base.get? b=some o->s.heap.get? b=some o/\H b=none:=λb o e=>
 ⟨I.base.keep b o (I.ok.bs b o e).1 (I.ok.bs b o e).2 (I.ok.nofr e) (I.ok.noex b o e),I.base.free b o (I.ok.bs b o e).1 (I.ok.bs b o e).2 (I.ok.noex b o e)⟩
theorem Inv.bk(I:Inv X pins σ H s):∀b o,X.base.get? b=some o->s.heap.get? b=some o:=λb o e=>(I.bs b o e).1
theorem Inv.mod(I:Inv X pins σ H s):Mod X.K X.mg X.base:=I.ok.mod
theorem Inv.kIn(I:Inv X pins σ H s):X.K.In s.heap:=I.ok.mod.kin.keeps I.bk
theorem Inv.nolimit(I:Inv X pins σ H s):s.heap.NoLimit:=I.ok.mod.nolimit.keeps I.bk
theorem Inv.fr(I:Inv X pins σ H s):∃m,Fr X.base X.env.locals s.heap m:=
 let ⟨m,hn,_⟩:=I.loc
 ⟨m,hn,I.bk,bf I.ok.bsz I.ok.above⟩
theorem Inv.lt(I:Inv X pins σ H s):X.env.locals<s.heap.objs.size:=let ⟨_,hn,_⟩:=I.loc;hn.lt
theorem Inv.sz(I:Inv X pins σ H s):X.s₀.heap.objs.size<=s.heap.objs.size:=bf I.ok.above (Nat.le_of_lt I.lt)
theorem Inv.nofs(I:Inv X pins σ H s){a:Addr}(h:s.heap.objs.size<=a):a∉X.fs:=λhb=>by
 obtain⟨_,o,ho,_⟩:=I.ok.funs.mem hb;exact absurd (bt (aI ho) (bf I.sz h)) (bN _)
theorem Inv.cne(I:Inv X pins σ H s):∀x c,X.env.cells.lookup x=some c->c≠X.env.locals:=λx c e z=>by
 obtain⟨v,o,ho,hd⟩:=I.cell x c e;obtain⟨m,⟨o',es,ep,ho',hd',_⟩,_⟩:=I.loc;rw[z,ho']at ho;cases ho;rw[hd']at hd;cases hd
theorem Inv.funs(I:Inv X pins σ H s):s.heap.FunFrames X.base X.outer:=by
 have all:∀(l:List Env),(∀b∈frs l,b∈X.fs)->X.s₀.heap.FunFrames X.base l->s.heap.FunFrames X.base l:=by
  intro l
  induction l with
  |nil=>intro _ _;trivial
  |cons env r ih=>
   intro hs hl;obtain⟨hk,⟨L,o,hf,hn,ho,hd⟩,hr⟩:=hl;have hL:L∈X.fs:=hs L (by unfold frs;rw[List.filterMap_cons,hf];exact aO);obtain⟨sl,e⟩:=I.base.slot L o ho (I.ok.frf L hL) hL λz=>I.ok.exfs L z hL
   exact⟨hk,⟨L,_,hf,hn,e,hd⟩,ih (λb hb=>hs b (by unfold frs;rw[List.filterMap_cons,hf];exact aK _ hb)) hr⟩
 exact all X.outer (λ_ hb=>hb) I.ok.funs
theorem Inv.stack(I:Inv X pins σ H s):s.heap.FunFrames X.base X.stack:=by
 rcases I.ok.stk with e|⟨e,hf⟩
 ·rw[e];exact I.funs
 ·rw[e];obtain⟨m,hn,_⟩:=I.loc;refine .cons (by rw[I.ok.kind];decide) hf hn ?_ I.funs;exact Heap.get?_none_of_le (bf I.ok.bsz I.ok.above)
theorem Inv.stkSub(I:Inv X pins σ H s):∀b∈frs X.stack,b∈X.env.locals::X.fs:=λb hb=>by
 rcases I.ok.stk with e|⟨e,hf⟩
 ·rw[e]at hb;exact aK _ hb
 ·rw[e]at hb;unfold frs at hb;rw[List.filterMap_cons,hf]at hb;exact hb
theorem Inv.stkFree(I:Inv X pins σ H s):∀b∈frs X.stack,H b=none:=λb hb=>by
 rcases aG.mp (I.stkSub b hb)with e|hb
 ·rw[e];exact I.free
 ·obtain⟨_,o,ho,_⟩:=I.ok.funs.mem hb;exact I.base.free b o ho (I.ok.frf b hb) λz=>I.ok.exfs b z hb
theorem Inv.step{g':Array GenState}{t':Nat}{d':Drawn}{ch:List Addr}(I:Inv X pins σ H s)
  (hch:∀b∈ch,(b∈X.ex\/X.s₀.heap.objs.size<=b)/\b≠X.env.locals/\(∀x c,X.env.cells.lookup x=some c->c≠b)/\∀p∈X.pn++pins,p.1≠b)
  (keep:∀b o,b≠X.env.locals->b∉X.fs->b∉ch->s.heap.get? b=some o->H b=none->h'.get? b=some o)
  (slot:∀b o,b≠X.env.locals->b∈X.fs->b∉ch->s.heap.get? b=some o->H b=none->∃sl,h'.get? b=some {o with slots:=sl}) (free:∀b o,b∉ch->s.heap.get? b=some o->H b=none->H' b=none)
  (there:∀b o,b∉ch->s.heap.get? b=some o->∃o',h'.get? b=some o')
  (tups:∀b xs,H b=some (.tup xs)->H' b=some (.tup xs)) (frzs:∀b o u,H b=some (.frz o u)->H' b=some (.frz o u)) (tbls:∀b ps,H b=some (.tbl ps)->∃more,H' b=some (.tbl (ps++more)))
  (ns:∀m,s.heap.Ns X.env.locals m->h'.Ns X.env.locals m) (hok:HOk X.prog X.w H' h') (hg:AllBare g') :
  Inv X pins σ H' {s with heap:=h',gens:=g',drawn:=d',toks:=t'}:=by
 have neL:∀b o,X.s₀.heap.get? b=some o->b≠X.env.locals:=λb o e=>a7 (bt (aI e) I.ok.above)
 have neC:∀b o,X.s₀.heap.get? b=some o->b∉X.ex->b∉ch:=λb o e hx hb=>by
  rcases(hch b hb).1 with z|z
  ·exact hx z
  ·exact absurd (bt (aI e) z) (bN _)
 have cellK:∀x c,X.env.cells.lookup x=some c->∀v,s.heap.IsCell c v->h'.IsCell c v:=λx c e v ⟨o,ho,hd⟩=>by
  have nch:c∉ch:=λz=>(hch c z).2.2.1 x c e rfl
  by_cases hc:c∈X.fs
  ·obtain⟨sl,q⟩:=slot c o (I.cne x c e) hc nch ho (I.freeC x c e);exact⟨_,q,hd⟩
  ·exact⟨o,keep c o (I.cne x c e) hc nch ho (I.freeC x c e),hd⟩
 refine⟨I.ok,I.os,hg,⟨λb o e n hb hx=>?_,λb o e n hb hx=>?_,λb o e n hx=>?_,λb o e hx=>?_,λb xs e=>tups b xs (I.base.tups b xs e),λb o xs e=>frzs b o xs (I.base.frzs b o xs e),λb ps e=>?_⟩,?_,λx c e=>?_,?_,λx c e=>?_,λp hp=>?_,hok,I.len⟩
 ·exact keep b o (neL b o e) hb (neC b o e hx) (I.base.keep b o e n hb hx) (I.base.free b o e n hx)
 ·obtain⟨sl,e1⟩:=I.base.slot b o e n hb hx;obtain⟨sl',e2⟩:=slot b _ (neL b o e) hb (neC b o e hx) e1 (I.base.free b o e n hx);exact⟨sl',e2⟩
 ·obtain⟨o',e1⟩:=I.base.there b o e hx;exact free b o' (neC b o e hx) e1 (I.base.free b o e n hx)
 ·obtain⟨o',e1⟩:=I.base.there b o e hx;exact there b o' (neC b o e hx) e1
 ·obtain⟨m1,e1⟩:=I.base.tbls b ps e;obtain⟨m2,e2⟩:=tbls b _ e1;exact⟨m1++m2,by rw[e2,Array.append_assoc]⟩
 ·obtain⟨m,hn,hl⟩:=I.loc;refine⟨m,ns m hn,λi x v e1 e2 e3=>?_⟩;obtain⟨u,r,l⟩:=hl i x v e1 e2 e3;refine⟨u,r,?_⟩;rcases l with l|⟨k,c,e,z⟩
  ·exact .inl l
  ·exact .inr ⟨k,c,e,cellK x c e _ z⟩
 ·obtain⟨v,z⟩:=I.cell x c e;exact⟨v,cellK x c e v z⟩
 ·obtain⟨m,⟨o,_,_,ho,_⟩,_⟩:=I.loc;exact free _ o (λz=>(hch _ z).2.1 rfl) ho I.free
 ·obtain⟨v,o,ho,hd⟩:=I.cell x c e;exact free c o (λz=>(hch c z).2.2.1 x c e rfl) ho (I.freeC x c e)
 ·obtain⟨e,n,ne,nf,d⟩:=I.pin p hp;have nch:p.1∉ch:=λz=>(hch p.1 z).2.2.2 p hp rfl
  exact⟨keep p.1 p.2 ne nf nch e n,free p.1 p.2 nch e n,ne,nf,d⟩
theorem Inv.un{t':Nat}(I:Inv X pins σ H s)(u:Un X.fs [] H H' s.heap h')(hok:HOk X.prog X.w H' h'):Inv X pins σ H' {s with heap:=h',toks:=t'}:=by
 obtain⟨m,⟨o,es,ep,ho,r⟩,_⟩:=id I.loc;obtain⟨sl,hL⟩:=u.any ho I.free (by simp);exact I.step (g':=s.gens) (d':=s.drawn) (ch:=[]) (λ_ z=>nomatch z) (λb o _ hb _ e n=>u.keep b o e n hb (by simp)) (λb o _ hb _ e n=>u.slot b o e n hb (by simp)) (λb o _ e n=>u.free b o e n (by simp)) (λb o _ e=>u.there b o e (by simp)) u.tups u.frzs u.tbls (λm' hm=>by
  obtain⟨o',es',ep',ho',r'⟩:=hm;rw[ho]at ho';cases ho';exact⟨_,es',ep',hL,r'⟩) hok I.bare
theorem Inv.call{g':Array GenState}{t':Nat}{d':Drawn}{ch:List Addr}(I:Inv X pins σ H s)(u:Un (frs X.stack) ch H H' s.heap h')(hok:HOk X.prog X.w H' h')(hg:AllBare g')
  (hch:∀b∈ch,(b∈X.ex\/X.s₀.heap.objs.size<=b)/\b≠X.env.locals/\(∀x c,X.env.cells.lookup x=some c->c≠b)/\∀p∈X.pn++pins,p.1≠b) :
  Inv X pins σ H' {s with heap:=h',gens:=g',drawn:=d',toks:=t'}:=by
 obtain⟨m,⟨o,es,ep,ho,r⟩,_⟩:=id I.loc;obtain⟨sl,hL⟩:=u.any ho I.free λz=>(hch _ z).2.1 rfl
 exact I.step (ch:=ch) hch (λb o hL hb hc e n=>u.keep b o e n (λz=>(aG.mp (I.stkSub b z)).elim hL hb) hc) (λb o _ _ hc e n=>u.any e n hc) (λb o hc e n=>u.free b o e n hc) (λb o hc e=>u.there b o e hc) u.tups u.frzs u.tbls (λm' hm=>by
  obtain⟨o',es',ep',ho',r'⟩:=hm;rw[ho]at ho';cases ho';exact⟨_,es',ep',hL,r'⟩) hok hg
theorem Inv.turned{t':Nat}{it:Addr}(I:Inv X pins σ H s)(k:∀b o,b≠it->s.heap.get? b=some o->h'.get? b=some o)(hn:H it=none)(hL:it≠X.env.locals)
  (h1:it∈X.ex\/X.s₀.heap.objs.size<=it) (h2:∀x c,X.env.cells.lookup x=some c->c≠it) (h3:∀p∈X.pn++pins,p.1≠it):Inv X pins σ H {s with heap:=h',toks:=t'}:=by
 have nit:∀b u,H b=some u->b≠it:=λb u e z=>by rw[z,hn]at e;cases e
 refine I.step (g':=s.gens) (d':=s.drawn) (ch:=[it]) (λb hb=>?_) (λb o _ _ hc e _=>k b o (λz=>hc (by simp[z])) e) (λb o _ _ hc e _=>⟨o.slots,k b o (λz=>hc (by simp[z])) e⟩) (λ_ _ _ _ n=>n)
  (λb o hc e=>⟨o,k b o (λz=>hc (by simp[z])) e⟩) (λ_ _ e=>e) (λ_ _ _ e=>e) (λb ps e=>⟨#[],by rw[e];simp⟩) (λm hm=>?_) (λb u e=>?_) I.bare
 ·have e:b=it:=by simpa using hb
  subst e;exact⟨h1,hL,h2,h3⟩
 ·obtain⟨o,es,ep,ho,r⟩:=hm;exact⟨o,es,ep,k _ o (Ne.symm hL) ho,r⟩
 ·refine(I.hok b u e).stay (λc v hc q=>k c v ?_ q) (λ_ q=>q) λ_ _ q=>q
  rcases hc with z|z
  ·rw[z];exact nit b u e
  ·exact nit c _ z
theorem Inv.tok(I:Inv X pins σ H s)(t:Nat):Inv X pins σ H {s with toks:=t}:=I.un (h':=s.heap) (t':=t) Un.refl I.hok
theorem Inv.kept{t':Nat}(I:Inv X pins σ H s)(k:∀b u,s.heap.get? b=some u->h'.get? b=some u):Inv X pins σ H {s with heap:=h',toks:=t'}:=I.un (Un.kept k) (I.hok.kept k)
theorem Inv.laid{a:Addr}{o:HO}{t':Nat}(I:Inv X pins σ H s)(k:∀b u,s.heap.get? b=some u->h'.get? b=some u)(hp:s.heap.objs.size<=a)(new:zY X.prog X.w (upd H a o) h' a o) :
  Inv X pins σ (upd H a o) {s with heap:=h',toks:=t'}:=I.un (Un.laid k hp (I.hok.fresh hp)) (I.hok.laid k hp new)
theorem Inv.write{x e:Addr}{o:HO}{t':Nat}(I:Inv X pins σ H s)(mu:Mut (H x))(he:e=x\/H e=some (.own x))(k:∀b u,b≠e->s.heap.get? b=some u->h'.get? b=some u)(heo:∃u,h'.get? e=some u)
  (new:zY X.prog X.w (upd H x o) h' x o):Inv X pins σ (upd H x o) {s with heap:=h',toks:=t'}:=I.un (Un.write mu he k heo) (I.hok.write mu he k heo new)
theorem Inv.pins_of{pins':List (Addr×Obj)}(I:Inv X pins σ H s)(h:∀p∈pins',s.heap.get? p.1=some p.2/\H p.1=none/\p.1≠X.env.locals/\p.1∉X.fs/\∀v,p.2.data≠.cell v):Inv X pins' σ H s:=
 ⟨I.ok,I.os,I.bare,I.base,I.loc,I.cell,I.free,I.freeC,λp hp=>(List.mem_append.mp hp).elim (λz=>I.pin p (List.mem_append_left _ z)) (h p),I.hok,I.len⟩
theorem p8{N:List Str}(hN:N.Nodup){i j:Nat}{x:Str}(a:N[i]? = some x)(b:N[j]? = some x):i=j:=by
 obtain⟨h1,e1⟩:=List.getElem?_eq_some_iff.mp a;obtain⟨h2,e2⟩:=List.getElem?_eq_some_iff.mp b;exact(List.getElem_inj hN).mp (e1.trans e2.symm)
theorem mV{M:Model}{A:aC}{E:ae->af->Prop}{i:Nat}{x:Str}{v:V}{u:ae}{Q:Unit->af->Prop}(I:Inv X pins σ H s)(hN:X.N.Nodup)(hi:X.N[i]? = some x)(hx:Loc X.env.scope x)(r:RelV v u)
  (h:∀s',Inv X pins (σ.set i (some v)) H s'->(∃a,Heap.SameBut a s.heap s'.heap/\(a=X.env.locals\/X.env.cells.lookup x=some a))->Q () s') (hf:X.fn x=true\/X.env.scope.names.lookup x=some .local:=by first|exact .inl rfl|exact .inr rfl|assumption):ah M A (storeName X.env x u) Q E s:=by
 obtain⟨m,hn,hl⟩:=id I.loc;have hcls:(X.env.scope.kind==.class||(X.env.scope.kind==.module&&X.env.locals != X.env.globals))=false:=by rw[I.ok.kind];rfl
 have hiσ:i<σ.length:=by rw[I.len];exact(List.getElem?_eq_some_iff.mp hi).1
 have cne:=I.cne;have tracked:∀{a:Addr}{h':Heap},(∃o,s.heap.get? a=some o/\H a=none)->Heap.SameBut a s.heap h'->HOk X.prog X.w H h':=λ{a h'} ha hs b ob e=>by
  obtain⟨_,_,hfree⟩:=ha;refine(I.hok b ob e).stay (λc w' hc q=>(hs.2 c ?_).trans q) (λ_ q=>q) λ_ _ q=>q
  rintro rfl;rcases hc with rfl|hc
  ·rw[hfree]at e;cases e
  ·rw[hfree]at hc;cases hc
 rcases hx with hk|hk
 ·refine wpAny_storeName_local hk hn (λh' hn' hs=>?_) hcls;obtain⟨oL,_,_,hoL,_⟩:=id hn;refine h _ ⟨I.ok,I.os,I.bare,⟨λb o e n hb hx=>?_,λb o e n hb hx=>?_,I.base.free,λb o e hx=>?_,I.base.tups,I.base.frzs,I.base.tbls⟩,⟨_,hn',λj y v' e1 e2 e3=>?_⟩,λy c e=>?_,I.free,I.freeC,λp hp=>?_,tracked ⟨oL,hoL,I.free⟩ hs,by simpa using I.len⟩ ⟨_,hs,.inl rfl⟩
  ·exact(hs.2 b (a7 (bt (aI e) I.ok.above))).trans (I.base.keep b o e n hb hx)
  ·obtain⟨sl,e1⟩:=I.base.slot b o e n hb hx;exact⟨sl,(hs.2 b (a7 (bt (aI e) I.ok.above))).trans e1⟩
  ·obtain⟨o',e1⟩:=I.base.there b o e hx;exact⟨o',(hs.2 b (a7 (bt (aI e) I.ok.above))).trans e1⟩
  ·by_cases hj:j=i
   ·subst hj;rw[hi]at e1;cases e1;rw[List.getElem?_set_self hiσ]at e2;cases e2;exact⟨u,r,.inl ⟨hk,by simp⟩⟩
   ·rw[List.getElem?_set_ne (Ne.symm hj)]at e2;obtain⟨u',r',q⟩:=hl j y v' e1 e2 e3;refine⟨u',r',?_⟩;rcases q with ⟨k,e⟩|⟨k,c,e,z⟩
    ·refine .inl ⟨k,?_⟩;have:y≠x:=λe=>hj (p8 hN e1 (e▸hi))
     simp[this,e]
    ·exact .inr ⟨k,c,e,z.sameBut hs (cne y c e)⟩
  ·obtain⟨w',z⟩:=I.cell y c e;exact⟨w',z.sameBut hs (cne y c e)⟩
  ·obtain⟨e,n,ne,nf,d⟩:=I.pin p hp;exact⟨(hs.2 p.1 ne).trans e,n,ne,nf,d⟩
 ·have hfn:X.fn x=true:=by
   rcases hf with z|z
   ·exact z
   ·rw[z]at hk;cases hk
  obtain⟨c,hc⟩:=I.ok.has x (.inl hk);obtain⟨w',z⟩:=I.cell x c hc;refine wpAny_storeName_cell I.ok.kind hk hc z (λh' hc' hs=>?_);obtain⟨oc,hoc,hocd⟩:=id z;refine h {s with heap:=h'} ⟨I.ok,I.os,I.bare,⟨λb o e n hb hx=>?_,λb o e n hb hx=>?_,I.base.free,λb o e hx=>?_,I.base.tups,I.base.frzs,I.base.tbls⟩,⟨m,hn.sameBut hs (Ne.symm (cne x c hc)),λj y v' e1 e2 e3=>?_⟩,λy c' e=>?_,I.free,I.freeC,λp hp=>?_,tracked ⟨oc,hoc,I.freeC x c hc⟩ hs,by simpa using I.len⟩ ⟨c,hs,.inr hc⟩
  ·exact(hs.2 b (a7 (bt (aI e) (I.ok.cab x c hfn hc)))).trans (I.base.keep b o e n hb hx)
  ·obtain⟨sl,e1⟩:=I.base.slot b o e n hb hx;exact⟨sl,(hs.2 b (a7 (bt (aI e) (I.ok.cab x c hfn hc)))).trans e1⟩
  ·obtain⟨o',e1⟩:=I.base.there b o e hx;exact⟨o',(hs.2 b (a7 (bt (aI e) (I.ok.cab x c hfn hc)))).trans e1⟩
  ·by_cases hj:j=i
   ·subst hj;rw[hi]at e1;cases e1;rw[List.getElem?_set_self hiσ]at e2;cases e2;exact⟨u,r,.inr ⟨.inl hk,c,hc,hc'⟩⟩
   ·rw[List.getElem?_set_ne (Ne.symm hj)]at e2;obtain⟨u',r',q⟩:=hl j y v' e1 e2 e3;refine⟨u',r',?_⟩;rcases q with q|⟨k,c',e,z'⟩
    ·exact .inl q
    ·refine .inr ⟨k,c',e,z'.sameBut hs ?_⟩;rintro rfl;exact hj (p8 hN e1 (I.ok.inj _ _ _ e hc▸hi))
  ·by_cases hcc:c'=c
   ·subst hcc;exact⟨_,hc'⟩
   ·obtain⟨w2,z2⟩:=I.cell y c' e;exact⟨w2,z2.sameBut hs hcc⟩
  ·obtain⟨e,n,ne,nf,d⟩:=I.pin p hp;refine⟨(hs.2 p.1 ?_).trans e,n,ne,nf,d⟩;intro q;rw[q,hoc]at e;have q':oc=p.2:=bM e;exact d w' (by rw[<-q'];exact hocd)
theorem lC{M:Model}{A:aC}{E:ae->af->Prop}{i:Nat}{x:Str}{v:V}{u:ae}{Q:Unit->af->Prop}(I:Inv X pins σ H s)(hN:X.N.Nodup)(hi:X.N[i]? = some x)(hx:Loc X.env.scope x)(r:RelV v u)
  (h:∀s',Inv X pins (σ.set i (some v)) H s'->Q () s') (hf:X.fn x=true\/X.env.scope.names.lookup x=some .local:=by first|exact .inl rfl|exact .inr rfl|assumption):ah M A (storeName X.env x u) Q E s:=
 mV I hN hi hx r (λs' I' _=>h s' I') hf
theorem Inv.call'{s':af}{ch:List Addr}(I:Inv X pins σ H s)(ho:s'.os=s.os)(u:Un (frs X.stack) ch H H' s.heap s'.heap)(hok:HOk X.prog X.w H' s'.heap)(hg:AllBare s'.gens)
  (hch:∀b∈ch,(b∈X.ex\/X.s₀.heap.objs.size<=b)/\b≠X.env.locals/\(∀x c,X.env.cells.lookup x=some c->c≠b)/\∀p∈X.pn++pins,p.1≠b):Inv X pins σ H' s':=by
 obtain⟨h',g',d',t',o'⟩:=s';have e:o'=s.os:=ho;subst e;exact I.call (g':=g') (t':=t') (d':=d') u hok hg hch
end
abbrev XK:=ae->Option Addr->Hp->Prop
abbrev St:=List (Option V)
abbrev VK:=V->Hp->Prop
abbrev TE:=St->Hp->VK->Prop
abbrev TT:=St->Hp->(Bool->Hp->Prop)->Prop
abbrev TA:=St->Hp->(List V->Hp->Prop)->Prop
structure Ends where
 nx:St->Hp->Prop
 rt:VK
 bk:St->Hp->Prop:=λ_ _=>False
 ct:St->Hp->Prop:=λ_ _=>False
abbrev TS:=Ends->St->Hp->Prop
noncomputable def EP(X:Cx)(pins:List (Addr×Obj))(σ:St)(Q:VK)(u:ae)(s':af):Prop:=∃v H',Inv X pins σ H' s'/\RelV v u/\Q v H'
noncomputable def TP(X:Cx)(pins:List (Addr×Obj))(σ:St)(Q:Bool->Hp->Prop)(b:Bool)(s':af):Prop:=∃H',Inv X pins σ H' s'/\Q b H'
noncomputable def AP(X:Cx)(pins:List (Addr×Obj))(σ:St)(Q:List V->Hp->Prop)(us:List ae)(s':af):Prop:=∃vs H',Inv X pins σ H' s'/\Vals vs us/\Q vs H'
noncomputable def SP(X:Cx)(pins:List (Addr×Obj))(D:Ends)(f:Flow)(s':af):Prop:=
 match f with
 | .next=>∃σ' H',Inv X pins σ' H' s'/\D.nx σ' H'
 | .brk=>∃σ' H',Inv X pins σ' H' s'/\D.bk σ' H'
 | .cont=>∃σ' H',Inv X pins σ' H' s'/\D.ct σ' H'
 | .ret u=>∃v σ' H',Inv X pins σ' H' s'/\RelV v u/\D.rt v H'
noncomputable def PE(X:Cx)(e:Expr)(t:TE):Prop:=
 ∀(pins:List (Addr×Obj)) (s:af) (σ:St) (H:Hp) (Q:VK),Inv X pins σ H s->t σ H Q->ah (ak X.prog X.w) X.A (eval e X.env) (EP X pins σ Q) X.xe s
noncomputable def PT(X:Cx)(e:Expr)(t:TT):Prop:=
 ∀(pins:List (Addr×Obj)) (s:af) (σ:St) (H:Hp) (Q:Bool->Hp->Prop),Inv X pins σ H s->t σ H Q->ah (ak X.prog X.w) X.A (isTrue e X.env (eval e X.env)) (TP X pins σ Q) X.xe s
noncomputable def PW(X:Cx)(e:Expr)(t:TT):Prop:=
 ∀(whole:Sem ae) (pins:List (Addr×Obj)) (s:af) (σ:St) (H:Hp) (Q:Bool->Hp->Prop),Inv X pins σ H s->t σ H Q->ah (ak X.prog X.w) X.A (isTrue e X.env whole) (TP X pins σ Q) X.xe s
theorem PW.pt{X:Cx}{e:Expr}{t:TT}(h:PW X e t):PT X e t:=h _
noncomputable def PA(X:Cx)(es:List Expr)(t:TA):Prop:=
 ∀(pos:Pos) (pins:List (Addr×Obj)) (s:af) (σ:St) (H:Hp) (Q:List V->Hp->Prop),Inv X pins σ H s->t σ H Q->ah (ak X.prog X.w) X.A (spliced (backTo pos (aZ es X.env))) (AP X pins σ Q) X.xe s
noncomputable def PS(X:Cx)(st:Stmt)(t:TS):Prop:=
 ∀(pins:List (Addr×Obj)) (s:af) (σ:St) (H:Hp) (D:Ends),Inv X pins σ H s->t D σ H->ah (ak X.prog X.w) X.A (exec st X.env) (SP X pins D) X.xe s
noncomputable def PSs(X:Cx)(st:List Stmt)(t:TS):Prop:=
 ∀(pins:List (Addr×Obj)) (s:af) (σ:St) (H:Hp) (D:Ends),Inv X pins σ H s->t D σ H->ah (ak X.prog X.w) X.A (execs st X.env) (SP X pins D) X.xe s
theorem thn{α:Type}{t:Sem α}{Q Q':α->af->Prop}{M:Model}{A:aC}{E:ae->af->Prop}{s:af}(h:ah M A t Q E s)(hQ:∀a s,Q a s->Q' a s):ah M A t Q' E s:=bT h hQ λ_ _ x=>x
section
variable{X:Cx}
theorem bin{a b:Expr}{ta tb:TE}(ha:PE X a ta)(hb:PE X b tb){pins:List (Addr×Obj)}{s:af}{σ:St}{H:Hp}{R:V->V->Hp->Prop}(I:Inv X pins σ H s)(h:ta σ H λx H1=>tb σ H1 λy H2=>R x y H2)
  {α:Type}{Q:α->af->Prop}{f:ae->ae->Sem α}
  (hf:∀v u s2 x y H2,Inv X pins σ H2 s2->RelV x v->RelV y u->R x y H2->ah (ak X.prog X.w) X.A (f v u) Q X.xe s2) :
  ah (ak X.prog X.w) X.A (eval a X.env) (λv s₁=>ah (ak X.prog X.w) X.A (eval b X.env) (λu s₂=>ah (ak X.prog X.w) X.A (f v u) Q X.xe s₂) X.xe s₁) X.xe s:=by
 refine thn (ha pins s σ H _ I h) λv s1 ⟨x,H1,I1,r1,q1⟩=>?_
 refine thn (hb pins s1 σ H1 _ I1 q1) λu s2 ⟨y,H2,I2,r2,q2⟩=>?_
 exact hf v u s2 x y H2 I2 r1 r2 q2
noncomputable def iB(i:Nat):TE:=λσ H Q=>∃v,σ[i]? = some (some v)/\Q v H
noncomputable def tC(v:V):TE:=λ_ H Q=>Q v H
theorem jR{i:Nat}{x:Str}{pos:Pos}(hN:X.N[i]? = some x)(hv:gH X.env.scope x)(hd:(x==("__debug__" : Str))=false:=by decide)(hcd:(x==("__classdict__" : Str))=false:=by decide):PE X (.Name x pos) (iB i):=by
 intro pins s σ H Q I h;obtain⟨v,e,h⟩:=h;obtain⟨m,hn,hl⟩:=I.loc;obtain⟨u,r,l⟩:=hl i x v hN e hv;have fin:EP X pins σ Q u s:=⟨v,H,I,r,h⟩
 rcases l with ⟨hk,hm⟩|⟨hk,c,hc,hcell⟩
 ·exact wpAny_Name (wpAny_loadName_local I.ok.kind hk hn hm fin) hd
 ·rcases hk with hk|hk
  ·exact wpAny_Name (wpAny_loadName_cell I.ok.kind hk hc hcell fin) hd
  ·exact wpAny_Name (wpAny_loadName_free I.ok.kind hk hc hcell fin hcd) hd
theorem iQ{i j pos}:PE X (.Constant (.int i) j pos) (tC (.int i)):=λ_ _ _ H _ I h=>wpAny_Constant_int ⟨.int i,H,I.tok _,⟨_,rfl⟩,h⟩
theorem nS{b j pos}:PE X (.Constant (.bool b) j pos) (tC (.bl b)):=λ_ _ _ H _ I h=>Constant_bool ⟨.bl b,H,I,rfl,h⟩
theorem BJ{j pos}:PE X (.Constant .none j pos) (tC .non):=λ_ _ _ H _ I h=>Constant_none ⟨.non,H,I,rfl,h⟩
theorem lQ{x j pos}:PE X (.Constant (.str x) j pos) (tC (.str x)):=λ_ _ _ H _ I h=>Calls.Constant_str ⟨.str x,H,I.tok _,⟨_,rfl⟩,h⟩
noncomputable def Gl(X:Cx)(x:Str):Prop:=X.env.kindOf x=some .globalImplicit
theorem gW{E:ae->af->Prop}{pins:List (Addr×Obj)}{s:af}{σ:St}{H:Hp}{x:Str}{u:ae}{pos:Pos}{Q:ae->af->Prop}(I:Inv X pins σ H s)(hg:Gl X x)(hm:X.mg x=some u)(h:Q u s)
  (hd:(x==("__debug__" : Str))=false:=by decide):ah (ak X.prog X.w) X.A (eval (.Name x pos) X.env) Q E s:=
 Calls.Name_function_global I.ok.kind hg (Calls.loadGlobal_global (by rw[I.ok.glob];exact I.mod.glob.keeps I.bk) hm h) hd
theorem fR{E:ae->af->Prop}{pins:List (Addr×Obj)}{s:af}{σ:St}{H:Hp}{x:Str}{u:ae}{pos:Pos}{Q:ae->af->Prop}(I:Inv X pins σ H s)(hg:Gl X x)(hm:X.mg x=none)(hv:bO x=some u)(h:Q u s)
  (hn:x≠"__name__":=by decide) (hd:(x==("__debug__" : Str))=false:=by decide):ah (ak X.prog X.w) X.A (eval (.Name x pos) X.env) Q E s:=by
 obtain⟨mb,h1,h2⟩:=I.mod.blt;exact Calls.Name_function_global I.ok.kind hg (Calls.loadGlobal_builtin (by rw[I.ok.glob];exact I.mod.glob.keeps I.bk) hm (by rw[I.ok.blt];exact h1.keeps I.bk) ((h2 x hn).trans hv) h) hd
theorem mq{x:Str}{v:V}{u:ae}{pos:Pos}(hg:Gl X x)(hm:X.mg x=some u)(r:RelV v u)(hd:(x==("__debug__" : Str))=false:=by decide):PE X (.Name x pos) (tC v):=
 λ_ _ _ H _ I h=>gW I hg hm ⟨v,H,I,r,h⟩ hd
theorem vH{x:Str}{v:V}{u:ae}{pos:Pos}(hg:Gl X x)(hm:X.mg x=none)(hv:bO x=some u)(r:RelV v u)(hn:x≠"__name__":=by decide)(hd:(x==("__debug__" : Str))=false:=by decide):PE X (.Name x pos) (tC v):=
 λ_ _ _ H _ I h=>fR I hg hm hv ⟨v,H,I,r,h⟩ hn hd
variable{a b:Expr}{ta tb:TE}{pos:Pos}
variable{tA tB':TT}{rest:List Expr}
noncomputable def Ec(t u:TT):TT:=λσ H Q=>t σ H λc H1=>if c=true then u σ H1 Q else Q false H1
noncomputable def tOr(t u:TT):TT:=λσ H Q=>t σ H λc H1=>if c=true then Q true H1 else u σ H1 Q
noncomputable def Cf(t:TT):TT:=λσ H Q=>t σ H λc H1=>Q (!c) H1
theorem Ei(ha:PT X a tA):PW X (.BoolOp .And [a] pos) tA:=by
 intro wh pins s σ H Q I h;refine isTrue_and (thn (ha pins s σ H Q I h) λc s1 e=>?_);cases c with
 |true=>exact isTrue_and_nil e
 |false=>exact e
theorem xb(ha:PT X a tA):PW X (.BoolOp .Or [a] pos) tA:=by
 intro wh pins s σ H Q I h;refine isTrue_or (thn (ha pins s σ H Q I h) λc s1 e=>?_);cases c with
 |false=>exact isTrue_or_nil e
 |true=>exact e
theorem BK(ha:PT X a tA)(hb:PW X (.BoolOp .And (b::rest) pos) tB'):PW X (.BoolOp .And (a::b::rest) pos) (Ec tA tB'):=by
 intro wh pins s σ H Q I h;refine isTrue_and (thn (ha pins s σ H _ I h) λc s1 ⟨H1,I1,q1⟩=>?_);cases c with
 |true=>exact hb wh pins s1 σ H1 Q I1 q1
 |false=>exact⟨H1,I1,q1⟩
theorem AB(ha:PT X a tA)(hb:PW X (.BoolOp .Or (b::rest) pos) tB'):PW X (.BoolOp .Or (a::b::rest) pos) (tOr tA tB'):=by
 intro wh pins s σ H Q I h;refine isTrue_or (thn (ha pins s σ H _ I h) λc s1 ⟨H1,I1,q1⟩=>?_);cases c with
 |true=>exact⟨H1,I1,q1⟩
 |false=>exact hb wh pins s1 σ H1 Q I1 q1
theorem yz(ha:PT X a tA):PT X (.UnaryOp .Not a pos) (Cf tA):=by
 intro pins s σ H Q I h;exact isTrue_not (ha pins s σ H (λc H1=>Q (!c) H1) I h)
noncomputable def uo(ta tb:TE):TE:=λσ H Q=>ta σ H λx H1=>∃c,x=.bl c/\if c=true then tb σ H1 Q else Q (.bl false) H1
noncomputable def BI(ta tb:TE):TE:=λσ H Q=>ta σ H λx H1=>∃c,x=.bl c/\if c=true then Q (.bl true) H1 else tb σ H1 Q
noncomputable def wz(ta:TE):TE:=λσ H Q=>ta σ H λx H1=>∃c,x=.bl c/\Q (.bl (!c)) H1
theorem El{op}{t:TE}(h:PE X a t):PE X (.BoolOp op [a] pos) t:=λpins s σ H Q I hw=>BoolOp_one (h pins s σ H Q I hw)
theorem DK(ha:PE X a ta)(hb:PE X (.BoolOp .And (b::rest) pos) tb):PE X (.BoolOp .And (a::b::rest) pos) (uo ta tb):=by
 intro pins s σ H Q I h;refine BoolOp_and (thn (ha pins s σ H _ I h) λv s1 ⟨x,H1,I1,r1,q1⟩=>?_);obtain⟨c,rfl,q1⟩:=q1;cases r1;refine bJ ?_;cases c with
 |true=>exact hb pins s1 σ H1 Q I1 q1
 |false=>exact⟨.bl false,H1,I1,rfl,q1⟩
theorem Dv(ha:PE X a ta)(hb:PE X (.BoolOp .Or (b::rest) pos) tb):PE X (.BoolOp .Or (a::b::rest) pos) (BI ta tb):=by
 intro pins s σ H Q I h;refine BoolOp_or (thn (ha pins s σ H _ I h) λv s1 ⟨x,H1,I1,r1,q1⟩=>?_);obtain⟨c,rfl,q1⟩:=q1;cases r1;refine bJ ?_;cases c with
 |false=>exact hb pins s1 σ H1 Q I1 q1
 |true=>exact⟨.bl true,H1,I1,rfl,q1⟩
theorem yw(ha:PE X a ta):PE X (.UnaryOp .Not a pos) (wz ta):=by
 intro pins s σ H Q I h;refine UnaryOp_ (thn (ha pins s σ H _ I h) λv s1 ⟨x,H1,I1,r1,q1⟩=>?_);obtain⟨c,rfl,q1⟩:=q1;cases r1;exact not_of (bJ ⟨.bl (!c),H1,I1,rfl,q1⟩)
noncomputable def tIf(t:TT)(ta tb:TE):TE:=λσ H Q=>t σ H λc H1=>if c=true then ta σ H1 Q else tb σ H1 Q
theorem x6{c:Expr}(hc:PT X c tA)(ha:PE X a ta)(hb:PE X b tb):PE X (.IfExp c a b pos) (tIf tA ta tb):=by
 intro pins s σ H Q I h;refine wpAny_IfExp (thn (hc pins s σ H _ I h) λd s1 ⟨H1,I1,q1⟩=>?_);cases d with
 |true=>exact ha pins s1 σ H1 Q I1 q1
 |false=>exact hb pins s1 σ H1 Q I1 q1
end
noncomputable def SqL(K:ax)(H:Hp)(a:Addr)(xs:List V):Prop:=
 Rd H a (.lst xs) \/
  ∃(o:Obj) (its:Array ae) (n:Nat),K.lookup a=some o/\o.cls=.type "list"/\o.dict=none/\o.data=.seq its n/\its.size<=aL/\Vals xs its.toList
noncomputable def SqT(K:ax)(H:Hp)(a:Addr)(xs:List V):Prop:=
 Rd H a (.tup xs) \/
  ∃(o:Obj) (its:Array ae) (n:Nat),K.lookup a=some o/\o.cls=.type "tuple"/\o.data=.seq its n/\its.size<=aL/\Vals xs its.toList
noncomputable def vv:ae->Option V
 | .none=>some .non
 | .bool b=>some (.bl b)
 | .int i _=>some (.int i)
 | .str x _=>some (.str x)
 | .bytes b _=>some (.byt b)
 | .float b _=>some (.flt b)
 | .ref a=>some (.ref a)
 | .type n=>some (.ty n)
 |_=>none
theorem RelV.abs{x:V}{u:ae}(r:RelV x u):vv u=some x:=by
 cases x with
 |non=>cases r;rfl
 |bl _=>cases r;rfl
 |int _=>obtain⟨t,rfl⟩:=r;rfl
 |str _=>obtain⟨t,rfl⟩:=r;rfl
 |byt _=>obtain⟨t,rfl⟩:=r;rfl
 |flt _=>obtain⟨t,rfl⟩:=r;rfl
 |ref _=>cases r;rfl
 |ty _=>cases r;rfl
theorem RelV.inj{x y:V}{u:ae}(r:RelV x u)(q:RelV y u):x=y:=bM (r.abs.symm.trans q.abs)
theorem Vals.inj{xs ys:List V}{us:List ae}(h:Vals xs us)(h':Vals ys us):xs=ys:=by
 induction h generalizing ys with
 |nil=>cases h';rfl
 |cons r t ih=>cases h' with
  |cons r' t'=>rw[r.inj r',ih t']
section
variable{X:Cx}{pins:List (Addr×Obj)}{σ:St}{H:Hp}{s:af}{a:Addr}{xs ys:List V}
theorem SqL.of{K:ax}(h:H a=some (.lst xs)):SqL K H a xs:=.inl (.inl h)
theorem SqT.of{K:ax}(h:H a=some (.tup xs)):SqT K H a xs:=.inl (.inl h)
theorem Inv.list(I:Inv X pins σ H s)(h:SqL X.K H a xs):∃its:List ae,Vals xs its/\PlainL s.heap a its.toArray/\xs.length<=sizeLine:=by
 rcases h with h|⟨o,its,n,hk,hc,hd,hs,hz,r⟩
 ·obtain⟨z,its,n,r,e⟩:=h.ok I.hok;exact⟨its,r,⟨_,n,e,rfl,rfl,rfl⟩,z⟩
 ·refine⟨its.toList,r,⟨o,n,I.kIn a o hk,hc,hd,by simpa using hs⟩,?_⟩;have e:=r.length;simp only[bU]at e;lia
theorem Inv.tuple(I:Inv X pins σ H s)(h:SqT X.K H a xs):∃its:List ae,Vals xs its/\IsTup s.heap a its.toArray/\xs.length<=sizeLine:=by
 rcases h with h|⟨o,its,n,hk,hc,hs,hz,r⟩
 ·obtain⟨z,its,r,p⟩:=h.ok I.hok;exact⟨its,r,p,z⟩
 ·refine⟨its.toList,r,⟨o,I.kIn a o hk,hc,n,by simpa using hs⟩,?_⟩;have e:=r.length;simp only[bU]at e;lia
theorem Inv.list_inj(I:Inv X pins σ H s)(h:SqL X.K H a xs)(h':SqL X.K H a ys):xs=ys:=by
 obtain⟨its,r,⟨o,n,e,_,_,d⟩,_⟩:=I.list h;obtain⟨its',r',⟨o',n',e',_,_,d'⟩,_⟩:=I.list h';rw[e]at e';cases e';rw[d]at d';injection d' with d1 _
 have:its=its':=by simpa using congrArg Array.toList d1
 subst this;exact r.inj r'
theorem Inv.tuple_inj(I:Inv X pins σ H s)(h:SqT X.K H a xs)(h':SqT X.K H a ys):xs=ys:=by
 obtain⟨its,r,⟨o,e,_,n,d⟩,_⟩:=I.tuple h;obtain⟨its',r',⟨o',e',_,n',d'⟩,_⟩:=I.tuple h';rw[e]at e';cases e';rw[d]at d';injection d' with d1 _
 have:its=its':=by simpa using congrArg Array.toList d1
 subst this;exact r.inj r'
end
abbrev Cx.wish(X:Cx)(E:ae->af->Prop):Cx:={X with xe:=E}
abbrev Cx.nox(X:Cx):Cx:=X.wish λ_ _=>False
theorem Cx.Ok.wish{X:Cx}(ok:X.Ok)(E:ae->af->Prop):(X.wish E).Ok:=
 ⟨ok.mod,ok.kind,ok.glob,ok.blt,ok.above,ok.inj,ok.has,ok.cab,ok.hd,ok.frames,ok.stk,ok.exf,ok.bs,ok.bsz,ok.noex,ok.exfs,ok.funs,ok.frf⟩
theorem Cx.Ok.unwish{X:Cx}{E:ae->af->Prop}(ok:(X.wish E).Ok):X.Ok:=
 ⟨ok.mod,ok.kind,ok.glob,ok.blt,ok.above,ok.inj,ok.has,ok.cab,ok.hd,ok.frames,ok.stk,ok.exf,ok.bs,ok.bsz,ok.noex,ok.exfs,ok.funs,ok.frf⟩
section
variable{X:Cx}{pins:List (Addr×Obj)}{σ:St}{H:Hp}{s:af}{E:ae->af->Prop}
theorem Inv.wish(I:Inv X pins σ H s)(E:ae->af->Prop):Inv (X.wish E) pins σ H s:=⟨I.ok.wish E,I.os,I.bare,I.base,I.loc,I.cell,I.free,I.freeC,I.pin,I.hok,I.len⟩
theorem Inv.unwish(I:Inv (X.wish E) pins σ H s):Inv X pins σ H s:=⟨I.ok.unwish,I.os,I.bare,I.base,I.loc,I.cell,I.free,I.freeC,I.pin,I.hok,I.len⟩
theorem SP.unwish{D:Ends}{f:Flow}{s':af}(h:SP (X.wish E) pins D f s'):SP X pins D f s':=by
 cases f with
 |next=>obtain⟨σ',H',I,q⟩:=h;exact⟨σ',H',I.unwish,q⟩
 |brk=>obtain⟨σ',H',I,q⟩:=h;exact⟨σ',H',I.unwish,q⟩
 |cont=>obtain⟨σ',H',I,q⟩:=h;exact⟨σ',H',I.unwish,q⟩
 |ret u=>obtain⟨v,σ',H',I,r,q⟩:=h;exact⟨v,σ',H',I.unwish,r,q⟩
end
section
variable{X:Cx}{st:Stmt}{rest:List Stmt}{t u:TS}{e:Expr}{te:TE}{pos:Pos}
noncomputable def iX:TS:=λD σ H=>D.nx σ H
noncomputable def uI(t u:TS):TS:=λD σ H=>t {D with nx:=u D} σ H
theorem EK:PSs X [] iX:=λ_ _ σ H _ I h=>wpAny_execs_nil ⟨σ,H,I,h⟩
theorem Fy(h1:PS X st t)(h2:PSs X rest u):PSs X (st::rest) (uI t u):=by
 intro pins s σ H D I h;refine wpAny_execs_cons (thn (h1 pins s σ H {D with nx:=u D} I h) λf s1 q=>?_);cases f with
 |next=>
  obtain⟨σ',H',I',q⟩:=q;exact h2 pins s1 σ' H' D I' q
 |ret v=>exact q
 |brk=>exact q
 |cont=>exact q
noncomputable def Cr:TS:=λD σ H=>D.bk σ H
noncomputable def vX:TS:=λD σ H=>D.ct σ H
theorem AV:PS X (.Pass pos) iX:=λ_ _ σ H _ I h=>wpAny_Pass ⟨σ,H,I,h⟩
theorem CN:PS X (.Break pos) Cr:=λ_ _ σ H _ I h=>wpAny_Break ⟨σ,H,I,h⟩
theorem Fu:PS X (.Continue pos) vX:=λ_ _ σ H _ I h=>wpAny_Continue ⟨σ,H,I,h⟩
theorem Inv.quiet{pins:List (Addr×Obj)}{σ:St}{H:Hp}{s:af}(I:Inv X pins σ H s):interactive X.env=false:=by simp[interactive,I.ok.kind]
noncomputable def Eu(te:TE):TS:=λD σ H=>te σ H λ_ H1=>D.nx σ H1
theorem mR(he:PE X e te)(hs:swapsWith e none pos.line X.env=pure false:=by rfl):PS X (.Expr e pos) (Eu te):=by
 intro pins s σ H D I h;exact wpAny_Expr_any (thn (he pins s σ H _ I h) λv s1 ⟨x,H1,I1,r1,q1⟩=>⟨σ,H1,I1,q1⟩) I.quiet hs
noncomputable def Bg(te:TE):TS:=λD σ H=>te σ H D.rt
theorem pI(he:PE X e te):PS X (.Return (some e) pos) (Bg te):=by
 intro pins s σ H D I h;exact wpAny_Return_some (thn (he pins s σ H _ I h) λv s1 ⟨x,H1,I1,r1,q1⟩=>⟨x,σ,H1,I1,r1,q1⟩)
noncomputable def w6:TS:=λD _ H=>D.rt .non H
theorem CQ:PS X (.Return none pos) w6:=λ_ _ σ H _ I h=>wpAny_Return_none ⟨.non,σ,H,I,rfl,h⟩
noncomputable def jA(c:TT)(t u:TS):TS:=λD σ H=>c σ H λb H1=>if b=true then t D σ H1 else u D σ H1
theorem vY{c:Expr}{a b:List Stmt}{tc:TT}(hc:PT X c tc)(ha:PSs X a t)(hb:PSs X b u):PS X (.If c a b pos) (jA tc t u):=by
 intro pins s σ H D I h;refine wpAny_If (thn (hc pins s σ H _ I h) λd s1 ⟨H1,I1,q1⟩=>?_);cases d with
 |true=>exact ha pins s1 σ H1 D I1 q1
 |false=>exact hb pins s1 σ H1 D I1 q1
end
abbrev TG:=V->St->Hp->(St->Hp->Prop)->Prop
abbrev TGs:=List V->St->Hp->(St->Hp->Prop)->Prop
noncomputable def PG(X:Cx)(target:Expr)(t:TG):Prop:=
 ∀(pins:List (Addr×Obj)) (s:af) (σ:St) (H:Hp) (v:V) (u:ae) (Q:St->Hp->Prop),Inv X pins σ H s->RelV v u->t v σ H Q ->
  ah (ak X.prog X.w) X.A (assign target X.env u) (λ_ s'=>∃σ' H',Inv X pins σ' H' s'/\Q σ' H') X.xe s
noncomputable def PGs(X:Cx)(ts:List Expr)(t:TGs):Prop:=
 ∀(pins:List (Addr×Obj)) (s:af) (σ:St) (H:Hp) (vs:List V) (us:List ae) (Q:St->Hp->Prop),Inv X pins σ H s->Vals vs us->t vs σ H Q ->
  ah (ak X.prog X.w) X.A (assignInOrder ((assignEach ts X.env).map (·.2)) us) (λ_ s'=>∃σ' H',Inv X pins σ' H' s'/\Q σ' H') X.xe s
abbrev kH:=V->V->V->Hp->(Hp->Prop)->Prop
noncomputable def oV(X:Cx)(t:kH):Prop:=
 ∀(pins:List (Addr×Obj)) (s:af) (σ:St) (H:Hp) (o i v:V) (ov iv u:ae) (Q:Hp->Prop),Inv X pins σ H s->RelV o ov->RelV i iv->RelV v u->t o i v H Q ->
  ah (ak X.prog X.w) X.A (setItem ov iv u) (λ_ s'=>∃H',Inv X pins σ H' s'/\Q H') X.xe s
section
variable{X:Cx}{pos:Pos}
noncomputable def fJ(i:Nat):TG:=λv σ H Q=>Q (σ.set i (some v)) H
theorem Aj{i:Nat}{x:Str}(hN:X.N.Nodup)(hi:X.N[i]? = some x)(hx:Loc X.env.scope x)(hf:X.fn x=true\/X.env.scope.names.lookup x=some .local:=by first|exact .inl rfl|exact .inr rfl|assumption):PG X (.Name x pos) (fJ i):=by
 intro pins s σ H v u Q I r h;exact wpAny_assign_Name (lC I hN hi hx r (λs' I'=>⟨_,H,I',h⟩) hf)
noncomputable def oa:TGs:=λvs σ H Q=>vs=[]/\Q σ H
noncomputable def tX(t:TG)(u:TGs):TGs:=λvs σ H Q=>∃v r,vs=v::r/\t v σ H λσ' H'=>u r σ' H' Q
theorem Ci:PGs X [] oa:=by
 intro pins s σ H vs us Q I r h;obtain⟨e,h⟩:=h;subst e;cases r;exact assignInOrder_nil ⟨σ,H,I,h⟩
theorem xB{e:Expr}{es:List Expr}{t:TG}{u:TGs}(h1:PG X e t)(h2:PGs X es u)
  (hs:(assignEach (e::es) X.env).map (·.2)=assign e X.env::(assignEach es X.env).map (·.2):=by rfl):PGs X (e::es) (tX t u):=by
 intro pins s σ H vs us Q I r h;obtain⟨v,vr,e1,h⟩:=h;subst e1;cases r with
 |cons r rr=>
  rw[hs];refine assignInOrder_cons (thn (h1 pins s σ H _ _ _ I r h) λ_ s1 ⟨σ1,H1,I1,q1⟩=>?_);exact h2 pins s1 σ1 H1 _ _ Q I1 rr q1
noncomputable def oW(K:ax)(n:Nat)(t:TGs):TG:=λv σ H Q=>∃a xs,v=.ref a/\SqT K H a xs/\xs.length=n/\t xs σ H Q
theorem yk{es:List Expr}{k:Nat}{t:TGs}{n:Nat}(hc:X.calm=true)(h:PGs X es t)
  (hn:(assignEach es X.env).length=n:=by rfl) (hst:(assignEach es X.env).findIdx? (·.1)=none:=by rfl):PG X (.Tuple es k pos) (oW X.K n t):=by
 intro pins s σ H v u Q I r hw;obtain⟨a,xs,e1,hq,hl,hw⟩:=hw;subst e1;cases r;obtain⟨its,rv,ht,hz⟩:=I.tuple hq;refine assign_Tuple_tuple (I.ok.hd hc) ht (by simp[hn,<-hl,rv.length]) hst λh' hx=>?_
 have I1:Inv X pins σ H {s with heap:=h'}:=I.kept (t':=s.toks) λb o e=>hx b o (a7 (aI e)) e
 exact h pins _ σ H xs _ Q I1 (by simpa using rv) hw
noncomputable def pf(to ti:TE)(t:kH):TG:=λv σ H Q=>to σ H λo H1=>ti σ H1 λi H2=>t o i v H2 λH3=>Q σ H3
theorem yq{o i:Expr}{to ti:TE}{t:kH}(ho:PE X o to)(hi:PE X i ti)(hs:oV X t)
  (ha:∀v,assign (.Subscript o i pos) X.env v=(do
   let ov <-holding [v] (eval o X.env)
   let iv <-holding [v,ov] (eval i X.env)
   standAt pos
   holding [v,ov,iv] (setItem ov iv v)
   release [v,ov,iv] []):=by intro _;rfl):PG X (.Subscript o i pos) (pf to ti t):=by
 intro pins s σ H v u Q I r h;rw[ha];refine ag (bS (thn (ho pins s σ H _ I h) λov s1 ⟨x,H1,I1,r1,q1⟩=>?_));refine ag (bS (thn (hi pins s1 σ H1 _ I1 q1) λiv s2 ⟨y,H2,I2,r2,q2⟩=>?_));refine ag (wpAny_standAt (ag (bS (thn (hs pins s2 σ H2 x y v ov iv u _ I2 r1 r2 r q2) λ_ s3 ⟨H3,I3,q3⟩=>?_))));exact wpAny_release ⟨σ,H3,I3,q3⟩
noncomputable def ju(te:TE)(g:TG):TS:=λD σ H=>te σ H λx H1=>g x σ H1 D.nx
theorem tN{tg e:Expr}{te:TE}{g:TG}(he:PE X e te)(hg:PG X tg g)(hs:swapsWithSole [tg] e pos.line X.env=pure false:=by rfl)(hw:swappedStores [tg] e X.env=pure none:=by rfl)
  (h1:(assignEach [tg] X.env).map (·.2)=[assign tg X.env]:=by rfl):PS X (.Assign [tg] e pos) (ju te g):=by
 intro pins s σ H D I h;refine wpAny_Assign_stores (thn (he pins s σ H _ I h) λv s1 ⟨x,H1,I1,r1,q1⟩=>?_) hs hw;rw[h1];exact thn (hg pins s1 σ H1 x v _ I1 r1 q1) λ_ s2 q=>q
theorem pJ{i:Nat}{x:Str}{e:Expr}{te:TE}{pos':Pos}(hN:X.N.Nodup)(hi:X.N[i]? = some x)(hx:Loc X.env.scope x)(he:PE X e te)(hs:swapsWith e (some (.Name x pos')) pos.line X.env=pure false:=by rfl)(hf:X.fn x=true\/X.env.scope.names.lookup x=some .local:=by first|exact .inl rfl|exact .inr rfl|assumption) :
  PS X (.Assign [.Name x pos'] e pos) (ju te (fJ i)):=by
 intro pins s σ H D I h;refine wpAny_Assign_Name (thn (he pins s σ H _ I h) λv s1 ⟨y,H1,I1,r1,q1⟩=>?_) hs;exact lC I1 hN hi hx r1 (λs2 I2=>⟨_,H1,I2,q1⟩) hf
end
section
variable{X:Cx}{pos:Pos}
end
structure It where
 go:Nat->Hp->Prop
 yld:Nat->Hp->V->Hp->Prop
 stop:Nat->Hp->Prop
noncomputable def dJ(X:Cx)(pins:List (Addr×Obj))(H:Hp)(b:Addr):Prop:=
 H b=none/\b≠X.env.locals/\b∉X.fs/\(b∈X.ex\/X.s₀.heap.objs.size<=b)/\(∀x c,X.env.cells.lookup x=some c->c≠b)/\∀p∈X.pn++pins,p.1≠b
theorem Inv.fpOk{X:Cx}{pins:List (Addr×Obj)}{σ:St}{H H':Hp}{s:af}{b:Addr}(I:Inv X pins σ H s)(hb:s.heap.objs.size<=b)(hn:H' b=none):dJ X pins H' b:=by
 refine⟨hn,Nat.ne_of_gt (bt I.lt hb),I.nofs hb,.inr (bf I.sz hb),λx c e z=>?_,λp hp z=>?_⟩
 ·obtain⟨v,q⟩:=I.cell x c e;exact absurd (bt q.lt (by rw[z];exact hb)) (bN _)
 ·exact absurd (bt (aI (I.pin p hp).1) (by rw[z];exact hb)) (bN _)
structure Turn(P:aB)(w:aw)(K:ax)(tg:Expr)(J:It)(fp:List Addr)(it:Addr)(tn:Nat->Heap->Prop):Prop where
 mem:it∈fp
 obj:∀i h,tn i h->∀b∈fp,∃o,h.get? b=some o/\∀v,o.data≠.cell v
 keep:∀i h h',tn i h->(∀b∈fp,∀o,h.get? b=some o->h'.get? b=some o)->tn i h'
 item:∀(X:Cx),X.prog=P->X.w=w->X.K=K->X.calm=true->∀(i:Nat) (pins:List (Addr×Obj)) (s:af) (σ:St) (H:Hp) (E:ae->af->Prop),Inv X pins σ H s->(∀b∈fp,dJ X pins H b)->tn i s.heap->J.go i H ->
  ah (ak P w) X.A (pyNext (.ref it)) (λr s1=>∃u,r=some u /\
   ah (ak P w) X.A (letOwnedTupleGo tg (.ref it) u) (λ_ s2=>∃x H',Inv X pins σ H' s2/\RelV x u/\J.yld i H x H'/\tn (i+1) s2.heap/\∀b∈fp,H' b=none) E s1) E s
 done:∀(X:Cx),X.prog=P->X.w=w->X.K=K->X.calm=true->∀(i:Nat) (pins:List (Addr×Obj)) (s:af) (σ:St) (H:Hp) (E:ae->af->Prop),Inv X pins σ H s->(∀b∈fp,dJ X pins H b)->tn i s.heap->J.stop i H ->
  ah (ak P w) X.A (pyNext (.ref it)) (λr s1=>r=none/\Inv X pins σ H s1) E s
 self:∀(A:aC) (i:Nat) (s:af) (Q:ae->af->Prop) (E:ae->af->Prop),tn i s.heap->Q (.ref it) s->ah (ak P w) A (pyIter (.ref it)) Q E s
abbrev TI:=St->Hp->(It->Hp->Prop)->Prop
noncomputable def PIE(X:Cx)(pins:List (Addr×Obj))(σ:St)(tg:Expr)(R:It->Hp->Prop)(itv:ae)(s2:af):Prop:=
 ∃(it:Addr) (fp:List Addr) (tn:Nat->Heap->Prop) (J:It) (H':Hp),itv=.ref it/\Inv X pins σ H' s2/\Turn X.prog X.w X.K tg J fp it tn/\tn 0 s2.heap/\(∀b∈fp,dJ X pins H' b)/\R J H'
noncomputable def PI(X:Cx)(tg iter:Expr)(wi:TI):Prop:=
 ∀(pins:List (Addr×Obj)) (s:af) (σ:St) (H:Hp) (R:It->Hp->Prop),Inv X pins σ H s->wi σ H R ->
  ah (ak X.prog X.w) X.A (eval iter X.env) (λv s1=>ah (ak X.prog X.w) X.A (pyIter v) (PIE X pins σ tg R) X.xe s1) X.xe s
theorem i7{M:Model}{A:aC}{E:ae->af->Prop}{s:af}{tg:Expr}{it:Addr}{u:ae}{o:Obj}{n:String}{vs:Array ae}{Q:Unit->af->Prop}(ho:s.heap.get? it=some o)(hc:o.cls=.type n)(hd:o.data=.fields vs)
  (hn:["enumerate","zip","dict_itemiterator","dict_reverseitemiterator","odict_iterator","itertools.zip_longest","itertools.pairwise"].contains n=false) (hQ:Q () s):ah M A (letOwnedTupleGo tg (.ref it) u) Q E s:=by
 unfold letOwnedTupleGo;cases tg<;>first
  |exact aq hQ
  | (cases u<;>first
    |exact aq hQ
    | (refine ag (wpAny_load ho ?_)
       rw[hc,hd];show ah M A (if (["enumerate","zip","dict_itemiterator","dict_reverseitemiterator","odict_iterator","itertools.zip_longest","itertools.pairwise"].contains n&&vs[0]? == some (rawInt _))=true then _ else _) Q E s;rw[if_neg (by intro h;rw[hn,Bool.false_and]at h;cases h)];exact aq hQ))
noncomputable def Itl(K:ax)(a:Addr):It:=
 ⟨λi H=>∃xs x,SqL K H a xs/\xs[i]? = some x,λi H x H'=>H'=H/\∀xs,SqL K H a xs->xs[i]? = some x,λi H=>∃xs,SqL K H a xs/\xs.length<=i⟩
noncomputable def Itt(K:ax)(a:Addr):It:=
 ⟨λi H=>∃xs x,SqT K H a xs/\xs[i]? = some x,λi H x H'=>H'=H/\∀xs,SqT K H a xs->xs[i]? = some x,λi H=>∃xs,SqT K H a xs/\xs.length<=i⟩
noncomputable def Itr(lo:Int)(n:Nat):It:=⟨λi _=>i<n,λi H x H'=>H'=H/\x=.int (lo+i),λi _=>n<=i⟩
theorem xm{P:aB}{w:aw}{K:ax}{tg:Expr}(a it:Addr):Turn P w K tg (Itl K a) [it] it (λi h=>h.IsListIter it a i) where
 mem:=by simp
 obj:=λi h st b hb=>by
  have e:b=it:=by simpa using hb
  subst e;obtain⟨o,e,c,d⟩:=st;exact⟨o,e,λv z=>by rw[d]at z;cases z⟩
 keep:=λi h h' st k=>st.at λo e=>k it (by simp) o e
 item:=by
  intro X hP hw hK hc i pins s σ H E I hf st hg;subst hP hw hK;obtain⟨xs,x,hq,hx⟩:=hg;obtain⟨its,rv,p,hz⟩:=I.list hq;obtain⟨u,hu,ru⟩:=rv.get hx;obtain⟨f0,f1,f2,f3,f4,f5⟩:=hf it (by simp);refine wpAny_pyNext_list_item st p.isList (x:=u) (by simpa using hu) λh' st' sb=>?_
  have I1:Inv X pins σ H {s with heap:=h'}:=I.turned (t':=s.toks) (λb o hb e=>(sb.2 b hb).trans e) f0 f1 f3 f4 f5;obtain⟨o,e,c,d⟩:=id st';exact⟨u,rfl,i7 (s:={s with heap:=h'}) e c d (by decide) ⟨x,H,I1,ru,⟨rfl,λys hy=>by rw[I.list_inj hy hq];exact hx⟩,st',λb hb=>(hf b hb).1⟩⟩
 done:=by
  intro X hP hw hK hc i pins s σ H E I hf st hg;subst hP hw hK;obtain⟨xs,hq,hx⟩:=hg;obtain⟨its,rv,p,hz⟩:=I.list hq;obtain⟨f0,f1,f2,f3,f4,f5⟩:=hf it (by simp);have hl:=rv.length;exact wpAny_pyNext_list_end (I.ok.hd hc) st p.isList (by simp;lia) λh' eb=>⟨rfl,I.turned (t':=s.toks) (λb o hb e=>eb b o hb e) f0 f1 f3 f4 f5⟩
 self:=λ_ _ _ _ _ st h=>wpAny_pyIter_listiter st h
theorem yG{P:aB}{w:aw}{K:ax}{tg:Expr}(a it:Addr):Turn P w K tg (Itt K a) [it] it (λi h=>h.IsTupleIter it a i) where
 mem:=by simp
 obj:=λi h st b hb=>by
  have e:b=it:=by simpa using hb
  subst e;obtain⟨o,e,c,d⟩:=st;exact⟨o,e,λv z=>by rw[d]at z;cases z⟩
 keep:=λi h h' st k=>st.at λo e=>k it (by simp) o e
 item:=by
  intro X hP hw hK hc i pins s σ H E I hf st hg;subst hP hw hK;obtain⟨xs,x,hq,hx⟩:=hg;obtain⟨its,rv,p,hz⟩:=I.tuple hq;obtain⟨u,hu,ru⟩:=rv.get hx;obtain⟨f0,f1,f2,f3,f4,f5⟩:=hf it (by simp);refine wpAny_pyNext_tuple_item st (show s.heap.IsTuple a its.toArray from p) (x:=u) (by simpa using hu) λh' st' sb=>?_
  have I1:Inv X pins σ H {s with heap:=h'}:=I.turned (t':=s.toks) (λb o hb e=>(sb.2 b hb).trans e) f0 f1 f3 f4 f5;obtain⟨o,e,c,d⟩:=id st';exact⟨u,rfl,i7 (s:={s with heap:=h'}) e c d (by decide) ⟨x,H,I1,ru,⟨rfl,λys hy=>by rw[I.tuple_inj hy hq];exact hx⟩,st',λb hb=>(hf b hb).1⟩⟩
 done:=by
  intro X hP hw hK hc i pins s σ H E I hf st hg;subst hP hw hK;obtain⟨xs,hq,hx⟩:=hg;obtain⟨its,rv,p,hz⟩:=I.tuple hq;obtain⟨f0,f1,f2,f3,f4,f5⟩:=hf it (by simp);have hl:=rv.length;exact wpAny_pyNext_tuple_end (I.ok.hd hc) st (show s.heap.IsTuple a its.toArray from p) (by simp;lia) λh' eb=>⟨rfl,I.turned (t':=s.toks) (λb o hb e=>eb b o hb e) f0 f1 f3 f4 f5⟩
 self:=λ_ _ _ _ _ st h=>wpAny_pyIter_tupleiter st h
theorem vO{P:aB}{w:aw}{K:ax}{tg:Expr}(it:Addr)(lo:Int)(n:Nat):Turn P w K tg (Itr lo n) [it] it (λi h=>IsRangeIter h it (lo+(i:Nat) * 1) ((n:Int)-(i:Nat)) 1) where
 mem:=by simp
 obj:=λi h st b hb=>by
  have e:b=it:=by simpa using hb
  subst e;exact⟨_,st,λv z=>by
   have z':Data.fields _=Data.cell v:=z;cases z'⟩
 keep:=λi h h' st k=>k it (by simp) _ st
 item:=by
  intro X hP hw hK hc i pins s σ H E I hf st hg;subst hP hw hK;obtain⟨f0,f1,f2,f3,f4,f5⟩:=hf it (by simp);have W:=Walks.range (prog:=X.prog) (w:=X.w) (I.ok.hd hc) it lo 1 n;refine W.item i s _ _ hg st λv h' tk hv st' kk=>?_
  obtain⟨t,rfl⟩:=hv;have I1:Inv X pins σ H {s with heap:=h',toks:=tk}:=I.turned (λb o hb e=>kk b o (by simpa using hb) e) f0 f1 f3 f4 f5;refine⟨_,rfl,i7 (s:={s with heap:=h',toks:=tk}) (n:="range_iterator") st' rfl rfl (by decide) ⟨.int (lo+i),H,I1,⟨t,?_⟩,⟨rfl,rfl⟩,st',λb hb=>(hf b hb).1⟩⟩;rw[Int.mul_one]
 done:=by
  intro X hP hw hK hc i pins s σ H E I hf st hg;subst hP hw hK;obtain⟨f0,f1,f2,f3,f4,f5⟩:=hf it (by simp);exact wpAny_pyNext_range_end (I.ok.hd hc) st (by have:n<=i:=hg;lia) λh' eb=>⟨rfl,I.turned (t':=s.toks) (λb o hb e=>eb b o hb e) f0 f1 f3 f4 f5⟩
 self:=λ_ _ _ _ _ st h=>wpAny_pyIter_rangeiter st h
section
variable{X:Cx}{tg:Expr}
noncomputable def Fm(K:ax)(tl:TE):TI:=λσ H R=>tl σ H λx H1=>∃a,x=.ref a/\(∃xs,SqL K H1 a xs)/\R (Itl K a) H1
noncomputable def yo(K:ax)(tl:TE):TI:=λσ H R=>tl σ H λx H1=>∃a,x=.ref a/\(∃xs,SqT K H1 a xs)/\R (Itt K a) H1
theorem EN{l:Expr}{tl:TE}(hl:PE X l tl):PI X tg l (Fm X.K tl):=by
 intro pins s σ H R I h;refine thn (hl pins s σ H _ I h) λv s1 ⟨x,H1,I1,r1,q1⟩=>?_
 obtain⟨a,e,⟨xs,hq⟩,q⟩:=q1;subst e;cases r1;obtain⟨its,rv,p,hz⟩:=I1.list hq;refine wpAny_pyIter_list p.isList ?_;refine⟨s1.heap.objs.size,[s1.heap.objs.size],_,_,H1,rfl,I1.kept (t':=s1.toks) λb o e=>Heap.get?_push_of_some _ e,xm a _,⟨_,Heap.get?_push_size _ rfl,rfl,rfl⟩,λb hb=>?_,q⟩;have e:b=s1.heap.objs.size:=by simpa using hb
 subst e;exact I1.fpOk (aE _) (I1.hok.fresh (aE _))
theorem Ax{l:Expr}{tl:TE}(hl:PE X l tl):PI X tg l (yo X.K tl):=by
 intro pins s σ H R I h;refine thn (hl pins s σ H _ I h) λv s1 ⟨x,H1,I1,r1,q1⟩=>?_
 obtain⟨a,e,⟨xs,hq⟩,q⟩:=q1;subst e;cases r1;obtain⟨its,rv,p,hz⟩:=I1.tuple hq;refine wpAny_pyIter_tuple (show s1.heap.IsTuple a its.toArray from p) ?_;refine⟨s1.heap.objs.size,[s1.heap.objs.size],_,_,H1,rfl,I1.kept (t':=s1.toks) λb o e=>Heap.get?_push_of_some _ e,yG a _,⟨_,Heap.get?_push_size _ rfl,rfl,rfl⟩,λb hb=>?_,q⟩;have e:b=s1.heap.objs.size:=by simpa using hb
 subst e;exact I1.fpOk (aE _) (I1.hok.fresh (aE _))
theorem rR{pins:List (Addr×Obj)}{σ:St}{H:Hp}{s:af}{R:It->Hp->Prop}{E:ae->af->Prop}{lo hi:Int}{t u v:Tok}{tk:Nat}(I:Inv X pins σ H s)(h1:-(2^62)<=lo)(h2:lo<2^62)(h3:-(2^62)<=hi)(h4:hi<2^62)
  (q:R (Itr lo (hi-lo).toNat) H):ah (ak X.prog X.w) X.A (pyIter (.ref s.heap.objs.size)) (PIE X pins σ tg R) E {s with heap:=s.heap.push {cls:=.type "range",data:=.fields #[.int lo t,.int hi u,.int 1 v]},toks:=tk}:=by
 refine wpAny_pyIter_range (IsRange.new ..) (small_one h1 h2 h3 h4) ?_;have I1:Inv X pins σ H {s with heap:=s.heap.push {cls:=.type "range",data:=.fields #[.int lo t,.int hi u,.int 1 v]},toks:=tk}:=I.kept λb o e=>Heap.get?_push_of_some _ e
 refine⟨(s.heap.push {cls:=.type "range",data:=.fields #[.int lo t,.int hi u,.int 1 v]}).objs.size,[(s.heap.push {cls:=.type "range",data:=.fields #[.int lo t,.int hi u,.int 1 v]}).objs.size],_,_,H,rfl,
  I1.kept (t':=tk) λb o e=>Heap.get?_push_of_some _ e,vO _ lo (hi-lo).toNat,?_,λb hb=>?_,q⟩
 ·have e1:lo+((0:Nat):Int) * 1=lo:=by simp
  have e2:(((hi-lo).toNat:Nat):Int)-((0:Nat):Int)=Builtin.Range.rangeSize lo hi 1:=by rw[rangeSize_one];split<;>lia
  show IsRangeIter _ _ (lo+((0:Nat):Int) * 1) ((((hi-lo).toNat:Nat):Int)-((0:Nat):Int)) 1;rw[e1,e2];exact Heap.get?_push_size _ rfl
 ·have e:b=(s.heap.push {cls:=.type "range",data:=.fields #[.int lo t,.int hi u,.int 1 v]}).objs.size:=by simpa using hb
  subst e;exact I1.fpOk (aE _) (I1.hok.fresh (aE _))
noncomputable def uD(ta:TA):TI:=λσ H R=>ta σ H λvs H1=>∃j:Int,vs=[.int j]/\-(2^62)<=j/\j<2^62/\R (Itr 0 j.toNat) H1
noncomputable def yT(ta:TA):TI:=λσ H R=>ta σ H λvs H1=>∃i j:Int,vs=[.int i,.int j]/\(-(2^62)<=i/\i<2^62/\-(2^62)<=j/\j<2^62)/\R (Itr i (j-i).toNat) H1
theorem ue{a:Expr}{ta:TA}{p pos:Pos}(hg:Gl X "range")(hm:X.mg "range" = none)(ha:PA X [a] ta)(hs:aZ [a] X.env=[(false,eval a X.env)]:=by rfl):PI X tg (.Call (.Name "range" p) [a] [] pos) (uD ta):=by
 intro pins s σ H R I h;refine Call_ (fR I hg hm boot_range (fE (thn (ha pos pins s σ H _ I h) λus s1 ⟨vs,H1,I1,r1,q1⟩=>?_) hs rfl));obtain⟨j,e,q1,q2,q⟩:=q1;subst e;cases r1 with
 |cons r rr=>
  cases rr;obtain⟨t,rfl⟩:=r;exact call_range_1 (rR I1 (by lia) (by lia) q1 q2 (by simpa using q))
theorem u_{a b:Expr}{ta:TA}{p pos:Pos}(hg:Gl X "range")(hm:X.mg "range" = none)(ha:PA X [a,b] ta)(hs:aZ [a,b] X.env=[(false,eval a X.env),(false,eval b X.env)]:=by rfl)(hs2:aZ [b] X.env=[(false,eval b X.env)]:=by rfl) :
  PI X tg (.Call (.Name "range" p) [a,b] [] pos) (yT ta):=by
 intro pins s σ H R I h;refine Call_ (fR I hg hm boot_range (fE (thn (ha pos pins s σ H _ I h) λus s1 ⟨vs,H1,I1,r1,q1⟩=>?_) (by rw[hs,hs2]) (by rw[hs2];rfl)));obtain⟨i,j,e,⟨q1,q2,q3,q4⟩,q⟩:=q1;subst e;cases r1 with
 |cons r rr=>
  cases rr with
  |cons r' rr=>
   cases rr;obtain⟨t,rfl⟩:=r;obtain⟨t',rfl⟩:=r';exact call_range_2 (rR I1 q1 q2 q3 q4 q)
noncomputable def DQ(wi:TI)(g:TG)(tb:TS):TS:=λD σ H=>wi σ H λJ H1=>∃W:Nat->Nat->St->Hp->Prop,(∃m,W 0 m σ H1)/\∀i m σ H,W i m σ H ->
 (J.stop i H/\D.nx σ H)\/(J.go i H/\∃N:St->Hp->Prop,(∀σ' H',N σ' H'->∃m',m'<m/\W (i+1) m' σ' H')/\∀x H',J.yld i H x H'->g x σ H' λσ2 H2=>tb {D with nx:=N,ct:=N,bk:=D.nx} σ2 H2)
noncomputable def ij(fp:List Addr)(h:Heap):List (Addr×Obj):=fp.filterMap λb=>(h.get? b).map λo=>(b,o)
theorem jD{fp:List Addr}{h:Heap}{b:Addr}{o:Obj}(hb:b∈fp)(e:h.get? b=some o):(b,o)∈ij fp h:=List.mem_filterMap.mpr ⟨b,hb,by rw[e];rfl⟩
theorem xu{fp:List Addr}{h:Heap}{p:Addr×Obj}(hp:p∈ij fp h):p.1∈fp/\h.get? p.1=some p.2:=by
 obtain⟨b,hb,e⟩:=List.mem_filterMap.mp hp;cases q:h.get? b with
 |none=>rw[q]at e;cases e
 |some o=>
  rw[q]at e;have e':(b,o)=p:=bM e;subst e';exact⟨hb,q⟩
theorem Inv.pinned{pins:List (Addr×Obj)}{σ:St}{H:Hp}{s:af}{fp:List Addr}(I:Inv X pins σ H s)(hf:∀b∈fp,dJ X pins H b)(ho:∀b∈fp,∃o,s.heap.get? b=some o/\∀v,o.data≠.cell v):Inv X (pins++ij fp s.heap) σ H s:=
 I.pins_of λp hp=>(List.mem_append.mp hp).elim (λz=>I.pin p (cc _ z)) λz=>by
  obtain⟨hb,e⟩:=xu z;obtain⟨f0,f1,f2,_⟩:=hf p.1 hb;obtain⟨o,e',d⟩:=ho p.1 hb;rw[e]at e';cases e';exact⟨e,f0,f1,f2,d⟩
theorem Inv.unpinned{pins pl:List (Addr×Obj)}{σ:St}{H:Hp}{s:af}(I:Inv X (pins++pl) σ H s):Inv X pins σ H s:=I.pins_of λp hp=>I.pin p (cc _ (List.mem_append_left _ hp))
theorem wR{iter:Expr}{body:List Stmt}{wi:TI}{g:TG}{tb:TS}{pos:Pos}(hp:PassesOwn (ak X.prog X.w) X.A X.env X.xe)(hc:X.calm=true)(hi:PI X tg iter wi)(hg:PG X tg g)(hb:PSs X body tb)
  (hs:∀x,foldedSetIterable iter X.env x=pure x:=by intro _;rfl):PS X (.For tg iter body [] pos) (DQ wi g tb):=by
 intro pins s σ H D I h;refine wpAny_For (thn (hi pins s σ H _ I h) λv s1 h1=>thn h1 λitv s2 h2=>?_) hs;obtain⟨it,fp,tn,J,H2,e,I2,T,st2,f2,W,⟨m0,w0⟩,turn⟩:=h2;subst e
 -- what stays true of the iterator's objects through the loop
 have stat:∀{H':Hp},(∀b∈fp,H' b=none)->∀b∈fp,dJ X pins H' b:=λhn b hb=>⟨hn b hb,(f2 b hb).2⟩
 refine codeAny_forLoop_any (λn s'=>∃i σ' H',Inv X pins σ' H' s'/\tn i s'.heap/\(∀b∈fp,H' b=none)/\W i n σ' H') ?_ m0 ⟨0,σ,H2,I2,st2,λb hb=>(f2 b hb).1,w0⟩;rintro n s3 ⟨i,σ3,H3,I3,st3,fr3,w3⟩;rcases turn i n σ3 H3 w3 with ⟨stop,qn⟩|⟨go,N,hN,step⟩
 ·refine wpAny_passesOwn hp (thn (T.done X rfl rfl rfl hc i pins s3 σ3 H3 X.xe I3 (stat fr3) st3 stop) λr s4 ⟨hr,I4⟩=>?_);subst hr;exact wpAny_execs_nil ⟨σ3,H3,I4,qn⟩
 ·refine wpAny_passesOwn hp (thn (T.item X rfl rfl rfl hc i pins s3 σ3 H3 X.xe I3 (stat fr3) st3 go) λr s4 ⟨u,hr,h4⟩=>?_);subst hr;refine wpAny_passesOwn hp (thn h4 λ_ s5 ⟨x,H5,I5,r5,y5,st5,fr5⟩=>?_);have I5':=I5.pinned (stat fr5) (T.obj _ _ st5);refine wpAny_passesOwn hp (thn (hg _ s5 σ3 H5 x u _ I5' r5 (step x H5 y5)) λ_ s6 ⟨σ6,H6,I6,q6⟩=>?_);refine wpAny_passesOwn hp (thn (hb _ s6 σ6 H6 _ I6 q6) λf s7 q7=>?_);have again:∀{σ7:St}{H7:Hp},Inv X (pins++ij fp s5.heap) σ7 H7 s7->N σ7 H7->∃m,m<n/\∃i σ' H',Inv X pins σ' H' s7/\tn i s7.heap/\(∀b∈fp,H' b=none)/\W i m σ' H':=λ{σ7 H7} I7 n7=>by
   obtain⟨m',hm,w7⟩:=hN σ7 H7 n7;refine⟨m',hm,i+1,σ7,H7,I7.unpinned,T.keep _ _ _ st5 λb hb o e=>(I7.pin (b,o) (cc _ (cc _ (jD hb e)))).1,λb hb=>?_,w7⟩;obtain⟨o,e,d⟩:=T.obj _ _ st5 b hb;exact(I7.pin (b,o) (cc _ (cc _ (jD hb e)))).2.1
  cases f with
  |next=>obtain⟨σ7,H7,I7,n7⟩:=q7;exact again I7 n7
  |cont=>obtain⟨σ7,H7,I7,n7⟩:=q7;exact again I7 n7
  |brk=>obtain⟨σ7,H7,I7,q7⟩:=q7;exact⟨σ7,H7,I7.unpinned,q7⟩
  |ret v=>obtain⟨x7,σ7,H7,I7,r7,q7⟩:=q7;exact⟨x7,σ7,H7,I7.unpinned,r7,q7⟩
end
abbrev R2:=V->V->Hp->VK->Prop
noncomputable def OpR(X:Cx)(f:ae->ae->Sem ae)(r:R2):Prop:=
 ∀(pins:List (Addr×Obj)) (s:af) (σ:St) (H:Hp) (x y:V) (v u:ae) (Q:VK),Inv X pins σ H s->RelV x v->RelV y u->r x y H Q ->
  ah (ak X.prog X.w) X.A (f v u) (EP X pins σ Q) X.xe s
noncomputable def UnR(X:Cx)(f:ae->Sem ae)(r:V->Hp->VK->Prop):Prop:=
 ∀(pins:List (Addr×Obj)) (s:af) (σ:St) (H:Hp) (x:V) (v:ae) (Q:VK),Inv X pins σ H s->RelV x v->r x H Q ->
  ah (ak X.prog X.w) X.A (f v) (EP X pins σ Q) X.xe s
noncomputable def zv(X:Cx)(f:ae)(r:List V->Hp->VK->Prop):Prop:=
 ∀(pins:List (Addr×Obj)) (s:af) (σ:St) (H:Hp) (xs:List V) (us:List ae) (Q:VK),Inv X pins σ H s->Vals xs us->r xs H Q ->
  ah (ak X.prog X.w) X.A (call f us) (EP X pins σ Q) X.xe s
noncomputable def Al(X:Cx)(r:V->Hp->(Bool->Hp->Prop)->Prop):Prop:=
 ∀(pins:List (Addr×Obj)) (s:af) (σ:St) (H:Hp) (x:V) (v:ae) (Q:Bool->Hp->Prop),Inv X pins σ H s->RelV x v->r x H Q ->
  ah (ak X.prog X.w) X.A (truthy v) (TP X pins σ Q) X.xe s
noncomputable def tOp(r:R2)(ta tb:TE):TE:=λσ H Q=>ta σ H λx H1=>tb σ H1 λy H2=>r x y H2 Q
noncomputable def tUn(r:V->Hp->VK->Prop)(ta:TE):TE:=λσ H Q=>ta σ H λx H1=>r x H1 Q
noncomputable def rI(C:Int->Int->Prop)(g:Int->Int->V):R2:=λx y H Q=>∃i j,x=.int i/\y=.int j/\C i j/\Q (g i j) H
noncomputable def rI0(g:Int->Int->V):R2:=λx y H Q=>∃i j,x=.int i/\y=.int j/\Q (g i j) H
noncomputable def rU(g:Int->V):V->Hp->VK->Prop:=λx H Q=>∃i,x=.int i/\Q (g i) H
section
variable{X:Cx}{a b c:Expr}{ta tb tc:TE}{pos:Pos}
theorem ll(ha:PE X a ta)(hb:PE X b tb){pins:List (Addr×Obj)}{s:af}{σ:St}{H:Hp}{R:V->V->Hp->Prop}(I:Inv X pins σ H s)
  (h:ta σ H λx H1=>tb σ H1 λy H2=>R x y H2) {Q:ae->af->Prop}{f:ae->ae->Sem ae}
  (hf:∀v u s2 x y H2,Inv X pins σ H2 s2->RelV x v->RelV y u->R x y H2->ah (ak X.prog X.w) X.A (f v u) Q X.xe s2) :
  ah (ak X.prog X.w) X.A (eval a X.env) (λv s₁=>ah (ak X.prog X.w) X.A (eval b X.env) (λu s₂=>ah (ak X.prog X.w) X.A (f v u) Q X.xe s₂) X.xe s₁) X.xe s:=by
 refine thn (ha pins s σ H _ I h) λv s1 ⟨x,H1,I1,r1,q1⟩=>?_
 refine thn (hb pins s1 σ H1 _ I1 q1) λu s2 ⟨y,H2,I2,r2,q2⟩=>?_
 exact hf v u s2 x y H2 I2 r1 r2 q2
theorem sT{op:Operator}{r:R2}(ho:OpR X (binaryOp op) r)(ha:PE X a ta)(hb:PE X b tb):PE X (.BinOp a op b pos) (tOp r ta tb):=by
 intro pins s σ H Q I h;exact wpAny_BinOp (ll ha hb I h λv u s2 x y H2 I2 rx ry q=>ho pins s2 σ H2 x y v u Q I2 rx ry q)
theorem jY{op:UnaryOp}{r:V->Hp->VK->Prop}(ho:UnR X (unaryOp op) r)(ha:PE X a ta):PE X (.UnaryOp op a pos) (tUn r ta):=by
 intro pins s σ H Q I h;exact UnaryOp_ (thn (ha pins s σ H _ I h) λv s1 ⟨x,H1,I1,r1,q1⟩=>ho pins s1 σ H1 x v Q I1 r1 q1)
theorem opI{f:ae->ae->Sem ae}{C:Int->Int->Prop}{g:Int->Int->Int}
  (rule:∀(i j:Int) (t u:Tok) (s:af) (Q:ae->af->Prop) (E:ae->af->Prop),C i j->Q (.int (g i j) s.toks) {s with toks:=s.toks+1}->ah (ak X.prog X.w) X.A (f (.int i t) (.int j u)) Q E s) :
  OpR X f (rI C λi j=>.int (g i j)):=by
 intro pins s σ H x y v u Q I rx ry h;obtain⟨i,j,rfl,rfl,hc,q⟩:=h;obtain⟨t,rfl⟩:=rx;obtain⟨t',rfl⟩:=ry;exact rule i j t t' s _ _ hc ⟨.int (g i j),H,I.tok _,⟨_,rfl⟩,q⟩
theorem oB{f:ae->ae->Sem ae}{g:Int->Int->Int}
  (rule:∀(i j:Int) (t u:Tok) (s:af) (Q:ae->af->Prop) (E:ae->af->Prop),Q (.int (g i j) s.toks) {s with toks:=s.toks+1}->ah (ak X.prog X.w) X.A (f (.int i t) (.int j u)) Q E s) :
  OpR X f (rI0 λi j=>.int (g i j)):=by
 intro pins s σ H x y v u Q I rx ry h;obtain⟨i,j,rfl,rfl,q⟩:=h;obtain⟨t,rfl⟩:=rx;obtain⟨t',rfl⟩:=ry;exact rule i j t t' s _ _ ⟨.int (g i j),H,I.tok _,⟨_,rfl⟩,q⟩
theorem jx{f:ae->ae->Sem ae}{g:Int->Int->Bool}
  (rule:∀(i j:Int) (t u:Tok) (s:af) (Q:ae->af->Prop) (E:ae->af->Prop),Q (.bool (g i j)) s->ah (ak X.prog X.w) X.A (f (.int i t) (.int j u)) Q E s) :
  OpR X f (rI0 λi j=>.bl (g i j)):=by
 intro pins s σ H x y v u Q I rx ry h;obtain⟨i,j,rfl,rfl,q⟩:=h;obtain⟨t,rfl⟩:=rx;obtain⟨t',rfl⟩:=ry;exact rule i j t t' s _ _ ⟨.bl (g i j),H,I,rfl,q⟩
noncomputable def A_(i j:Int):Prop:=0<=j/\j<=1000000/\i.natAbs<2^64
noncomputable def mE(i j:Int):Prop:=(-(2^64)<i/\i<2^64)\/(-(2^64)<j/\j<2^64)
theorem mE.ok{i j:Int}(h:mE i j):IntMulOk i j:=by
 rcases h with ⟨h1,h2⟩|⟨h1,h2⟩
 ·exact .of_left (intBits_le_64 h1 h2)
 ·exact .of_right (intBits_le_64 h1 h2)
theorem CZ(k:Nat):(0:Int)<=2^k:=by
 rw[two_pow_cast];exact Int.natCast_nonneg _
theorem DO:OpR X (binaryOp .Add) (rI0 λi j=>.int (i+j)):=oB λ_ _ _ _ _ _ _ q=>add_int q
theorem xj:OpR X (binaryOp .Sub) (rI0 λi j=>.int (i-j)):=oB λ_ _ _ _ _ _ _ q=>sub_int q
theorem yg:OpR X (binaryOp .Mult) (rI mE λi j=>.int (i * j)):=opI λ_ _ _ _ _ _ _ hc q=>mul_int q hc.ok
theorem vz:OpR X (binaryOp .Mod) (rI (λ_ j=>0<j) λi j=>.int (i%j)):=opI λi j _ _ _ _ _ hc q=>by
 have h1:(0:Int)<j:=hc;exact mod_int' (by lia) (by rw[Int.fmod_eq_emod_of_nonneg i (by lia)];exact q)
theorem Bb:OpR X (binaryOp .Pow) (rI A_ λi j=>.int (i^j.toNat)):=opI λ_ _ _ _ _ _ _ hc q=>pow_int_small hc.1 hc.2.1 hc.2.2 q
theorem EX:OpR X (binaryOp .RShift) (rI (λ_ j=>0<=j) λi j=>.int (i/2^j.toNat)):=opI λi j _ _ _ _ _ hc q=>
 rshift_int hc (by rw[Int.fdiv_eq_ediv_of_nonneg i (CZ _)];exact q)
theorem unI{f:ae->Sem ae}{g:Int->Int}
  (rule:∀(i:Int) (t:Tok) (s:af) (Q:ae->af->Prop) (E:ae->af->Prop),Q (.int (g i) s.toks) {s with toks:=s.toks+1}->ah (ak X.prog X.w) X.A (f (.int i t)) Q E s) :
  UnR X f (rU λi=>.int (g i)):=by
 intro pins s σ H x v Q I rx h;obtain⟨i,rfl,q⟩:=h;obtain⟨t,rfl⟩:=rx;exact rule i t s _ _ ⟨.int (g i),H,I.tok _,⟨_,rfl⟩,q⟩
theorem kq:UnR X (unaryOp .USub) (rU λi=>.int (-i)):=unI λ_ _ _ _ _ q=>neg_int q
end
section
variable{X:Cx}{a b c:Expr}{ta tb tc:TE}{pos:Pos}
theorem gI{pins:List (Addr×Obj)}{σ:St}{H:Hp}{s:af}{Q:VK}{k k':Bool}(I:Inv X pins σ H s)(q:Q (.bl k) H)(e:k=k'):EP X pins σ Q (.bool k') s:=by
 subst e;exact⟨.bl k,H,I,rfl,q⟩
theorem ye:OpR X (ba .Lt) (rI0 λi j=>.bl (decide (i<j))):=jx λ_ _ _ _ _ _ _ q=>lt_int q
theorem uX:OpR X (ba .LtE) (rI0 λi j=>.bl (decide (i<=j))):=jx λ_ _ _ _ _ _ _ q=>le_int q
theorem vJ:OpR X (ba .Gt) (rI0 λi j=>.bl (decide (j<i))):=jx λ_ _ _ _ _ _ _ q=>gt_int q
theorem ud:OpR X (ba .GtE) (rI0 λi j=>.bl (decide (j<=i))):=jx λ_ _ _ _ _ _ _ q=>ge_int q
theorem xk:OpR X (ba .In) (λx y H Q=>∃i j,x=.str i/\y=.str j/\Q (.bl (!(Builtin.Str.occurrences j i 0 j.length 1).isEmpty)) H):=by
 intro pins s σ H x y v u Q I rx ry h;obtain⟨i,j,rfl,rfl,q⟩:=h;obtain⟨t,rfl⟩:=rx;obtain⟨t',rfl⟩:=ry;exact in_str (gI I q rfl)
theorem uu:OpR X (ba .Is) (λx y H Q=>y=.non/\Q (.bl (decide (x=.non))) H):=by
 intro pins s σ H x y v u Q I rx ry h;obtain⟨rfl,q⟩:=h;cases ry;refine is_none_gen (gI I q ?_);cases x<;>first
  | (cases rx;rfl)
  | (obtain⟨t,rfl⟩:=rx;rfl)
theorem vw:OpR X (ba .IsNot) (λx y H Q=>y=.non/\Q (.bl (!decide (x=.non))) H):=by
 intro pins s σ H x y v u Q I rx ry h;obtain⟨rfl,q⟩:=h;cases ry;refine isnot_none_gen (gI I q ?_);cases x<;>first
  | (cases rx;rfl)
  | (obtain⟨t,rfl⟩:=rx;rfl)
theorem vM:OpR X (ba .NotIn) (λx y H Q=>∃i j,x=.str i/\y=.str j/\Q (.bl (!(!(Builtin.Str.occurrences j i 0 j.length 1).isEmpty))) H):=by
 intro pins s σ H x y v u Q I rx ry h;obtain⟨i,j,rfl,rfl,q⟩:=h;obtain⟨t,rfl⟩:=rx;obtain⟨t',rfl⟩:=ry;exact notIn_str (gI I q rfl)
theorem OpR.or{f:ae->ae->Sem ae}{r r':R2}(h:OpR X f r)(h':OpR X f r'):OpR X f (λx y H Q=>r x y H Q\/r' x y H Q):=by
 intro pins s σ H x y v u Q I rx ry q;rcases q with q|q
 ·exact h pins s σ H x y v u Q I rx ry q
 ·exact h' pins s σ H x y v u Q I rx ry q
theorem Be{op:CmpOp}{r:R2}(ho:OpR X (ba op) r)(ha:PE X a ta)(hb:PE X b tb)(hm:behindInMarks op b=false):PE X (.Compare a [op] [b] pos) (tOp r ta tb):=by
 intro pins s σ H Q I h;exact wpAny_Compare1 (ll ha hb I h λv u s2 x y H2 I2 rx ry q=>ho pins s2 σ H2 x y v u Q I2 rx ry q) hm
noncomputable def mI(t:TE):TT:=λσ H Q=>t σ H λx H'=>∃k,x=.bl k/\Q k H'
theorem CY{op:CmpOp}{r:R2}(ho:OpR X (ba op) r)(ha:PE X a ta)(hb:PE X b tb)(hm:behindInMarks op b=false):PT X (.Compare a [op] [b] pos) (mI (tOp r ta tb)):=by
 intro pins s σ H Q I h;refine wpAny_isTrue_Compare1 (thn (ha pins s σ H _ I h) λv s1 ⟨x,H1,I1,r1,q1⟩=>thn (hb pins s1 σ H1 _ I1 q1) λu s2 ⟨y,H2,I2,r2,q2⟩=>
  thn (ho pins s2 σ H2 x y v u _ I2 r1 r2 q2) λc s3 ⟨z,H3,I3,r3,k,e,q3⟩=>?_) hm
 subst e;cases r3;exact bJ ⟨H3,I3,q3⟩
noncomputable def oj(r r':R2)(ta tb tc:TE):TE:=λσ H Q=>ta σ H λx H1=>tb σ H1 λy H2=>r x y H2 λz H3=>∃k,z=.bl k /\
 (if k=true then tc σ H3 λw' H4=>r' y w' H4 Q else Q (.bl false) H3)
theorem vE{op op':CmpOp}{r r':R2}(ho:OpR X (ba op) r)(ho':OpR X (ba op') r')(ha:PE X a ta)(hb:PE X b tb)(hc:PE X c tc)
  (hm:lastMarks [op,op'] [b,c]=false:=by with_unfolding_all rfl):PE X (.Compare a [op,op'] [b,c] pos) (oj r r' ta tb tc):=by
 intro pins s σ H Q I h;refine Compare_chain (thn (ha pins s σ H _ I h) λv s1 ⟨x,H1,I1,r1,q1⟩=>chain_link (thn (hb pins s1 σ H1 _ I1 q1) λu s2 ⟨y,H2,I2,r2,q2⟩=>
  thn (ho pins s2 σ H2 x y v u _ I2 r1 r2 q2) λd s3 ⟨z,H3,I3,r3,k,e,q3⟩=>?_)) hm
 subst e;cases r3;refine bJ ?_;cases k with
 |false=>exact ite_ff ⟨.bl false,H3,I3,rfl,q3⟩
 |true=>exact ite_tt (chain_last (thn (hc pins s3 σ H3 _ I3 q3) λw' s4 ⟨z',H4,I4,r4,q4⟩=>ho' pins s4 σ H4 y z' u w' Q I4 r2 r4 q4))
theorem BV{op op':CmpOp}{r r':R2}(ho:OpR X (ba op) r)(ho':OpR X (ba op') r')(ha:PE X a ta)(hb:PE X b tb)(hc:PE X c tc)
  (hm:lastMarks [op,op'] [b,c]=false:=by with_unfolding_all rfl):PT X (.Compare a [op,op'] [b,c] pos) (mI (oj r r' ta tb tc)):=by
 intro pins s σ H Q I h;refine isTrue_chain (thn (ha pins s σ H _ I h) λv s1 ⟨x,H1,I1,r1,q1⟩=>test_link (thn (hb pins s1 σ H1 _ I1 q1) λu s2 ⟨y,H2,I2,r2,q2⟩=>
  thn (ho pins s2 σ H2 x y v u _ I2 r1 r2 q2) λd s3 ⟨z,H3,I3,r3,k,e,q3⟩=>?_)) hm
 subst e;cases r3;refine bJ ?_;cases k with
 |false=>
  obtain⟨k',e',q'⟩:=q3;cases e';exact ite_ff ⟨H3,I3,q'⟩
 |true=>
  refine ite_tt (test_last (thn (hc pins s3 σ H3 _ I3 q3) λw' s4 ⟨z',H4,I4,r4,q4⟩=>thn (ho' pins s4 σ H4 y z' u w' _ I4 r2 r4 q4) λd' s5 ⟨z2,H5,I5,r5,k2,e2,q5⟩=>?_));subst e2;cases r5;exact bJ ⟨H5,I5,q5⟩
noncomputable def kI(K:ax)(x:V)(H:Hp)(k:Bool):Prop:=
 match x with
 | .non=>k=false
 | .bl b=>k=b
 | .int i=>k=(i != 0)
 | .str y=>y.length<=aL/\k=((y.length:Int) != 0)
 | .byt y=>y.size<=aL/\k=((y.size:Int) != 0)
 | .ref p=>(∃xs,SqL K H p xs/\k = !xs.isEmpty)\/(∃xs,SqT K H p xs/\k = !xs.isEmpty)\/∃kvs,H p=some (.dK kvs)/\k = !kvs.isEmpty
 |_=>False
theorem BF{κ:Type}{kvs:List (κ×V)}{vs:List (κ×ae)}(r:KV kvs vs):(!vs.isEmpty) = !kvs.isEmpty:=by
 cases r<;>rfl
theorem nM{xs:List V}{its:List ae}(r:Vals xs its):(!its.toArray.isEmpty) = !xs.isEmpty:=by
 cases r<;>simp
theorem gf:(aL:Nat)<2^63:=by rw[bA];decide
theorem uG:Al X (λx H Q=>∃k,kI X.K x H k/\Q k H):=by
 intro pins s σ H x v Q I rx h;obtain⟨k,e,q⟩:=h;have hl:=gf;have hs:aL=16777216:=bA;cases x with
 |non=>
  cases rx;have e':k=false:=e;subst e';exact truthy_none ⟨H,I,q⟩
 |bl b=>
  cases rx;have e':k=b:=e;subst e';exact bJ ⟨H,I,q⟩
 |int i=>
  obtain⟨t,rfl⟩:=rx;have e':k=(i != 0):=e;subst e';exact PySem.P.truthy_int ⟨H,I,q⟩
 |str y=>
  obtain⟨t,rfl⟩:=rx;obtain⟨hy,e'⟩:y.length<=aL/\k=((y.length:Int) != 0):=e;subst e';exact PySem.P.truthy_str (by lia) ⟨H,I.tok _,q⟩
 |byt y=>
  obtain⟨t,rfl⟩:=rx;obtain⟨hy,e'⟩:y.size<=aL/\k=((y.size:Int) != 0):=e;subst e';exact PySem.W.truthy_bytes (by lia) ⟨H,I.tok _,q⟩
 |ref p=>
  cases rx;have e':(∃xs,SqL X.K H p xs/\k = !xs.isEmpty)\/(∃xs,SqT X.K H p xs/\k = !xs.isEmpty)\/∃kvs,H p=some (.dK kvs)/\k = !kvs.isEmpty:=e;rcases e' with ⟨xs,hx,e'⟩|⟨xs,hx,e'⟩|⟨kvs,hx,e'⟩
  ·subst e';obtain⟨its,r,pl,hz⟩:=I.list hx;have hlen:=r.length;exact wpAny_truthy_list pl.isList (by simp only[aP];lia) ⟨H,I.tok _,by rw[nM r];exact q⟩
  ·subst e';obtain⟨its,r,pl,hz⟩:=I.tuple hx;have hlen:=r.length;exact truthy_tuple pl (by simp only[aP];lia) ⟨H,I.tok _,by rw[nM r];exact q⟩
  ·subst e';obtain⟨hz,hS,vs,r,m⟩:kvs.length<=aL/\(p==sysModules)=false/\∃vs,KV kvs vs/\s.heap.DictOf (lb X.prog X.w) p vs:=I.hok p _ hx;have hlen:kvs.length=vs.length:=Paired.length r;exact wpAny_truthy_dict hS m (by lia) ⟨H,I.tok _,by rw[BF r];exact q⟩
 |_=>exact(show False from e).elim
theorem Bz(ha:PE X a ta)(he:∀whole,isTrue a X.env whole=(do let v <-whole;standAt a.pos;holding [v] (truthy v))) :
  PT X a (λσ H Q=>ta σ H λx H'=>∃k,kI X.K x H' k/\Q k H'):=by
 intro pins s σ H Q I h;exact isTrue_plain (thn (ha pins s σ H _ I h) λv s1 ⟨x,H1,I1,r1,q1⟩=>uG pins s1 σ H1 x v Q I1 r1 q1) (he _)
theorem rO:OpR X (binaryOp .Add) (λx y H Q=>∃i j,x=.str i/\y=.str j/\i.length+j.length<=aL/\Q (.str (i++j)) H):=by
 intro pins s σ H x y v u Q I rx ry h;obtain⟨i,j,rfl,rfl,hz,q⟩:=h;obtain⟨t,rfl⟩:=rx;obtain⟨t',rfl⟩:=ry;exact add_str (λt' tk=>⟨.str (i++j),H,I.tok _,⟨_,rfl⟩,q⟩) hz
theorem vals1{x:V}{us:List ae}(r:Vals [x] us):∃u,us=[u]/\RelV x u:=by
 cases r with
 |cons r1 r2=>cases r2;exact⟨_,rfl,r1⟩
theorem vals2{x y:V}{us:List ae}(r:Vals [x,y] us):∃u w',us=[u,w']/\RelV x u/\RelV y w':=by
 cases r with
 |cons r1 r2=>
  cases r2 with
  |cons r3 r4=>cases r4;exact⟨_,_,rfl,r1,r3⟩
theorem Cv(hc:X.calm=true):zv X (.builtin "max") (λxs H Q=>∃i j,xs=[.int i,.int j]/\Q (.int (if j>i then j else i)) H):=by
 intro pins s σ H xs us Q I r h;obtain⟨i,j,rfl,q⟩:=h;obtain⟨u,w',rfl,⟨t,rfl⟩,⟨t',rfl⟩⟩:=vals2 r;refine max_two_ints (I.ok.hd hc) λh' tk k=>⟨_,H,I.kept k,?_,q⟩
 by_cases hj:j>i
 ·rw[if_pos hj,if_pos hj];exact⟨_,rfl⟩
 ·rw[if_neg hj,if_neg hj];exact⟨_,rfl⟩
theorem BO(hc:X.calm=true):zv X (.builtin "min") (λxs H Q=>∃i j,xs=[.int i,.int j]/\Q (.int (if j<i then j else i)) H):=by
 intro pins s σ H xs us Q I r h;obtain⟨i,j,rfl,q⟩:=h;obtain⟨u,w',rfl,⟨t,rfl⟩,⟨t',rfl⟩⟩:=vals2 r;refine min_two_ints (I.ok.hd hc) λh' tk k=>⟨_,H,I.kept k,?_,q⟩
 by_cases hj:j<i
 ·rw[if_pos hj,if_pos hj];exact⟨_,rfl⟩
 ·rw[if_neg hj,if_neg hj];exact⟨_,rfl⟩
theorem Cw:zv X (.type "int") (λxs H Q=>(∃i,xs=[.int i]/\Q (.int i) H)\/∃k,xs=[.bl k]/\Q (.int (if k then 1 else 0)) H):=by
 intro pins s σ H xs us Q I r h;rcases h with ⟨i,rfl,q⟩|⟨k,rfl,q⟩
 ·obtain⟨u,rfl,t,rfl⟩:=vals1 r;exact call_int_int ⟨.int i,H,I,⟨_,rfl⟩,q⟩
 ·obtain⟨u,rfl,r1⟩:=vals1 r;cases r1;exact call_int_bool ⟨.int (if k then 1 else 0),H,I.tok _,⟨_,rfl⟩,q⟩
theorem y6:zv X (.type "str") (λxs H Q=>∃i,xs=[.int i]/\i.natAbs.log2<1920/\Q (.str (toString i)) H):=by
 intro pins s σ H xs us Q I r h;obtain⟨i,rfl,hz,q⟩:=h;obtain⟨u,rfl,t,rfl⟩:=vals1 r;exact PySem.P.str_of_int hz ⟨.str _,H,I.tok _,⟨_,rfl⟩,q⟩
end
structure ly(h:Heap)(x dx C:Addr)(mA:Str->Option ae):Prop where
 obj:h.get? x=some (PySem.W.instObj C dx)
 ns:h.Ns1 dx mA
 ne:dx≠x
theorem wJ{h:Heap}{dx:Addr}{mA:Str->Option ae}(n:h.Ns1 dx mA):∃od,h.get? dx=some od/\∀name,PySem.W.lookIn name od=some (mA name):=by
 obtain⟨o,es,ep,ho,hd,hk,_,hm⟩:=n;refine⟨o,ho,λname=>?_⟩;have e:=hm name;unfold nsFind findBy at e;rw[<-Array.find?_toList]at e;unfold PySem.W.lookIn;rw[hd];dsimp only;split
 ·rename_i y q
  rw[q]at e;exact congrArg some e
 ·rename_i q
  rw[q]at e;have a:es.toList.any (·.refKey)=false:=by
   rw[List.any_eq_false];intro y hy;obtain⟨z,t,hkey⟩:=hk y (Array.mem_toList_iff.mp hy);simp[DictEntry.refKey,hkey]
  have a':¬ es.toList.any (·.refKey)=true:=by rw[a];exact cf
  rw[if_neg a'];exact congrArg some e
theorem ly.look{h:Heap}{x dx C:Addr}{mA:Str->Option ae}(I:ly h x dx C mA):∃od,PySem.W.InstAt h x (PySem.W.instObj C dx) C (some od)/\∀name,PySem.W.lookIn name od=some (mA name):=
 let ⟨od,ho,hl⟩:=wJ I.ns
 ⟨od,⟨I.obj,rfl,rfl,ho⟩,hl⟩
section
variable{prog:aB}{w:aw}{A:aC}{E:ae->af->Prop}{s:af}{K:ax}{x dx C f:Addr}{mA:Str->Option ae}{name:Str}{v:ae}
end
section
variable{P:aB}{w:aw}{H H':Hp}{h h':Heap}{a C dx:Addr}{fs fs':List (Str×V)}
theorem vo(hok:HOk P w H h)(e:H a=some (.ins C dx fs)):∃mA,ly h a dx C mA/\(∀f,l9 (fs.lookup f) (mA f))/\PySem.Within mA (fs.map (·.1))/\fs.length<=1000/\H dx=some (.own a):=by
 obtain⟨d,z,ne,ob,mA,n,r,q⟩:=(show zY P w H h a (.ins C dx fs)from hok a _ e)
 exact⟨mA,⟨ob,n,ne⟩,r,q,z,d⟩
end
structure Cls(K:ax)(C:Addr):Prop where
 pg:PySem.W.plainGet K C Str.empty=true
 hd:PySem.W.hasDictIn K C=true
 po:PySem.W.plainOver K C=true
 sa:PySem.W.findIn K (.ref C) "__setattr__" = some (some (.builtin "object.__setattr__"))
theorem Cls.get{K:ax}{C:Addr}(c:Cls K C)(f:Str):PySem.W.plainGet K C f=true:=c.pg
section
variable{X:Cx}{pins:List (Addr×Obj)}{σ:St}{H:Hp}{s:af}{a C dx:Addr}{fs:List (Str×V)}{f:Str}{v:V}{A:aC}{E:ae->af->Prop}
end
section
variable{X:Cx}{o e value:Expr}{f:Str}{pos pos' tpos:Pos}{ta tv:TE}
end
section
variable{X:Cx}{pins:List (Addr×Obj)}{σ:St}{H:Hp}{s:af}{A:aC}{E:ae->af->Prop}{Q:ae->af->Prop}{c:ae}{b:Bool}
inductive dO(K:ax)(H:Hp):V->ae->Prop where
 |non:dO K H .non (.type "NoneType")
 |bl (x:Bool):dO K H (.bl x) (.type "bool")
 |int (i:Int):dO K H (.int i) (.type "int")
 |str (x:Str):dO K H (.str x) (.type "str")
 |flt (x:UInt64):dO K H (.flt x) (.type "float")
 |lst {a:Addr}{xs:List V} (e:H a=some (.lst xs)):dO K H (.ref a) (.type "list")
 |frz {a:Addr}{o:Obj}{xs:List V} (e:H a=some (.frz o (.lst xs))):dO K H (.ref a) (.type "list")
 |tup {a:Addr}{xs:List V} (e:H a=some (.tup xs)):dO K H (.ref a) (.type "tuple")
 |dK {a:Addr}{kvs:List (Key×V)} (e:H a=some (.dK kvs)):dO K H (.ref a) (.type "dict")
 |dT {a:Addr}{kvs:List (List Key×V)} (e:H a=some (.dT kvs)):dO K H (.ref a) (.type "dict")
 |ins {a C dx:Addr}{fs:List (Str×V)} (e:H a=some (.ins C dx fs)) (cl:Cls K C) (ha:PySem.W.findIn K (.ref C) "__class__" = some (some (.builtin "object.__class__")))
   (hn:PySem.W.specialIn K (.builtin "object.__class__") "__get__" = some (some (.builtin "getset_descriptor.__get__"))) (htk:PySem.W.takesIn K (.builtin "object.__class__")=some true)
   (hm:PySem.W.mroIn K C (.type "object")=some true):dO K H (.ref a) (.ref C)
theorem gR{x:V}{u t:ae}(I:Inv X pins σ H s)(rx:RelV x u)(ty:dO X.K H x t)(e:bz X.K t c=some b)(h:∀tk,Q (.bool b) {s with toks:=tk}) :
  ah (ak X.prog X.w) A (call (.builtin "isinstance") [u,c]) Q E s:=by
 cases ty with
 |non=>cases (show u=bP from rx);exact bQ PySem.W.kitx_none I.kIn True.intro e (λz=>nomatch z) h
 |bl y=>cases (show u=bH y from rx);exact bQ PySem.W.kitx_bool I.kIn True.intro e (λz=>nomatch z) h
 |int i=>obtain⟨t,q⟩:=(show ∃t,u=ae.int i t from rx);cases q;exact bQ PySem.W.kitx_int I.kIn True.intro e (λz=>nomatch z) h
 |str y=>obtain⟨t,q⟩:=(show ∃t,u=ae.str y t from rx);cases q;exact bQ PySem.W.kitx_str I.kIn True.intro e (λz=>nomatch z) h
 |flt y=>obtain⟨t,q⟩:=(show ∃t,u=ae.float y t from rx);cases q;exact bQ PySem.W.kitx_float I.kIn True.intro e (λz=>nomatch z) h
 | @lst a xs ea=>
  cases (show u=bF a from rx);obtain⟨_,_,n,_,h1⟩:=(show zY X.prog X.w H s.heap a (.lst xs)from I.hok a _ ea)
  exact bQ PySem.W.kitx_list I.kIn ⟨_,h1,rfl⟩ e (λz=>nomatch z) h
 | @frz a ob xs ea=>
  cases (show u=bF a from rx);obtain⟨_,_,_,n,_,h1⟩:=(show zY X.prog X.w H s.heap a (.frz ob (.lst xs))from I.hok a _ ea)
  exact bQ PySem.W.kitx_list I.kIn ⟨_,h1,rfl⟩ e (λz=>nomatch z) h
 | @tup a xs ea=>
  cases (show u=bF a from rx);obtain⟨_,_,_,p⟩:=(show zY X.prog X.w H s.heap a (.tup xs)from I.hok a _ ea)
  obtain⟨o,h1,h2,_⟩:=p;exact bQ PySem.W.kitx_tuple I.kIn ⟨o,h1,h2⟩ e (λz=>nomatch z) h
 | @dK a kvs ea=>
  cases (show u=bF a from rx);obtain⟨_,_,vs,_,p⟩:=(show zY X.prog X.w H s.heap a (.dK kvs)from I.hok a _ ea)
  obtain⟨o,es,ep,h1,h2,_⟩:=p;exact bQ PySem.W.kitx_dict I.kIn ⟨o,h1,h2.1⟩ e (λz=>nomatch z) h
 | @dT a kvs ea=>
  cases (show u=bF a from rx);obtain⟨_,_,xs,_,o,es,ep,h1,h2,_⟩:=(show zY X.prog X.w H s.heap a (.dT kvs)from I.hok a _ ea)
  exact bQ PySem.W.kitx_dict I.kIn ⟨o,h1,h2.1⟩ e (λz=>nomatch z) h
 | @ins a C dx fs ea cl ha hn htk hm=>
  cases (show u=bF a from rx);obtain⟨mA,O,_⟩:=vo I.hok ea;obtain⟨od,J,_⟩:=O.look;exact bQ (PySem.W.kitx_own (cl.get _) cl.hd ha hn htk hm) I.kIn J e (λz=>nomatch z) h
end
structure ck(k:Nat)(A:aC):Prop where
 hd:A.handled=none
 dp:A.depth+3 * k+5<recursionLimit
 un:A.units+16 * k+200<cLine
theorem ck.deeper{k:Nat}{A:aC}(r:ck (k+1) A)(env:Env):ck k (A.deeper env):=
 ⟨r.hd,by have:=r.dp;show A.depth+1+3 * k+5<_;lia,by have:=r.un;show A.units+3+16 * k+200<_;lia⟩
theorem ck.depth{k:Nat}{A:aC}(r:ck k A):A.depth<recursionLimit:=by have:=r.dp;lia
theorem ck.units{k:Nat}{A:aC}(r:ck k A):A.units+64<cLine:=by have:=r.un;lia
noncomputable def gP:TA:=λ_ H Q=>Q [] H
noncomputable def gb(ta:TE)(tr:TA):TA:=λσ H Q=>ta σ H λx H1=>tr σ H1 λxs H2=>Q (x::xs) H2
section
variable{X:Cx}{e:Expr}{es:List Expr}{te:TE}{t:TA}{pos:Pos}
theorem cM:PA X [] gP:=λ_ _ _ _ H Q I h=>Calls.spliced_nil ⟨[],H,I,.nil,h⟩
theorem zA(ha:PE X e te)(hr:PA X es t)(hs:aZ (e::es) X.env=(false,eval e X.env)::aZ es X.env:=by rfl):PA X (e::es) (gb te t):=by
 intro pos pins s σ H Q I h;rw[hs];show ah _ _ (spliced ((false,eval e X.env)::backTo pos (aZ es X.env))) _ _ s;refine Calls.spliced_cons (thn (ha pins s σ H _ I h) λu s1 ⟨x,H1,I1,r1,q1⟩=>?_);exact thn (hr pos pins s1 σ H1 _ I1 q1) λus s2 ⟨xs,H2,I2,r2,q2⟩=>⟨x::xs,H2,I2,.cons r1 r2,q2⟩
noncomputable def D7(t:TA):TE:=λσ H Q=>t σ H λxs H1=>xs.length<=aL/\∀p,H1 p=none->Q (.ref p) (upd H1 p (.tup xs))
noncomputable def vU(t:TA):TE:=λσ H Q=>t σ H λxs H1=>xs.length<=aL/\∀p,H1 p=none->Q (.ref p) (upd H1 p (.lst xs))
theorem uc{x1}(h:PA X es t):PE X (.Tuple es x1 pos) (D7 t):=by
 intro pins s σ H Q I hq;refine wpAny_Tuple_spliced (thn (h pos pins s σ H _ I hq) λus s1 ⟨xs,H1,I1,r,z,q⟩=>⟨by rw[<-r.length];exact z,?_⟩);have hf:H1 s1.heap.objs.size=none:=I1.hok.fresh (aE _);refine⟨.ref s1.heap.objs.size,upd H1 s1.heap.objs.size (.tup xs),I1.laid (t':=s1.toks) (λb u e=>Heap.get?_push_of_some _ e) (aE _) ?_,rfl,q _ hf⟩;exact⟨z,us,r,⟨_,Heap.get?_push_size _ rfl,rfl,_,rfl⟩⟩
theorem wC(h:PA X es t):PE X (.List es pos) (vU t):=by
 intro pins s σ H Q I hq;refine wpAny_List_spliced (thn (h pos pins s σ H _ I hq) λus s1 ⟨xs,H1,I1,r,z,q⟩=>⟨by rw[<-r.length];exact z,?_⟩);have hf:H1 s1.heap.objs.size=none:=I1.hok.fresh (aE _);refine⟨.ref s1.heap.objs.size,upd H1 s1.heap.objs.size (.lst xs),I1.laid (t':=s1.toks) (λb u e=>Heap.get?_push_of_some _ e) (aE _) ?_,rfl,q _ hf⟩;exact⟨z,us,0,r,Heap.get?_push_size _ rfl⟩
end
abbrev Sp:=List V->Hp->VK->XK->Prop
abbrev CXT:=List Env->Hp->af->XK->ae->af->Prop
structure f_(P:aB)(w:aw)(K:ax)(mg:Str->Option ae)(base:Heap)(A:aC)(outer:List Env)(s:af)(H:Hp):Prop where
 frames:A.frames=some outer
 mod:Mod K mg base
 bs:∀b o,base.get? b=some o->s.heap.get? b=some o/\H b=none
 bsz:base.objs.size<=s.heap.objs.size
 funs:s.heap.FunFrames base outer
 frf:∀b∈frs outer,H b=none
 hok:HOk P w H s.heap
 bare:AllBare s.gens
noncomputable def CE(outer:List Env)(P:aB)(w:aw)(H:Hp)(s:af)(Q:VK)(u:ae)(s':af):Prop:=
 ∃v H',s'.os=s.os/\AllBare s'.gens/\Un (frs outer) [] H H' s.heap s'.heap/\HOk P w H' s'.heap/\RelV v u/\Q v H'
noncomputable def CR(CX:CXT)(outer:List Env)(P:aB)(w:aw)(H:Hp)(s:af)(Q:VK)(E:XK)(r:Result)(s':af):Prop:=
 match r with
 | .ok (.ret u)=>CE outer P w H s Q u s'
 | .ok _=>False
 | .error e=>CX outer H s E e s'
structure fN(P:aB)(w:aw)(K:ax)(mg:Str->Option ae)(base:Heap)(CX:CXT)(k:Nat)(f:Addr)(fd:bI)(ps:List Str)(sp:Sp):Prop where
 len:∀vs H Q E,sp vs H Q E->vs.length=ps.length
 run:∀(A:aC) (outer:List Env) (s:af) (H:Hp) (args:Args) (us:List ae) (vs:List V) (Q:VK) (E:XK),ck k A->f_ P w K mg base A outer s H->BindsTo s fd args (ps.zip us)->Vals vs us->sp vs H Q E ->
  codeAny (ak P w) A (.call (.ref f) args) (CR CX outer P w H s Q E) s
section
variable{X:Cx}{pins:List (Addr×Obj)}{σ:St}{H:Hp}{s s':af}
theorem Inv.env0(I:Inv X pins σ H s):f_ X.prog X.w X.K X.mg X.base X.A X.stack s H:=
 ⟨I.ok.frames,I.ok.mod,I.bs,bf I.ok.bsz I.sz,I.stack,I.stkFree,I.hok,I.bare⟩
theorem Inv.after{Q:VK}{u:ae}(I:Inv X pins σ H s)(h:CE X.stack X.prog X.w H s Q u s'):EP X pins σ Q u s':=by
 obtain⟨v,H',os,bare,un,hok,r,q⟩:=h;obtain⟨hh,g,d,t,os'⟩:=s';obtain rfl:os'=s.os:=os;exact⟨v,H',I.call (h':=hh) (g':=g) (d':=d) (t':=t) (ch:=[]) un hok bare (λb z=>absurd z (by simp)),r,q⟩
end
noncomputable def mv(sp:Sp)(dvs:List V)(E:XK)(t:TA):TE:=λσ H Q=>t σ H λvs H1=>sp (vs++dvs) H1 Q E
noncomputable def Binds(K:ax)(fd:bI)(ps:List Str)(ds:List ae):Prop:=
 ∀(s:af) (us:List ae),K.In s.heap->(us++ds).length=ps.length->BindsTo s fd ⟨us,[]⟩ (ps.zip (us++ds))
theorem Binds.all{K:ax}{fd:bI}{ps:List Str}(h:∀us:List ae,us.length=ps.length->bindArgs fd ⟨us,[]⟩=pure (ps.zip us)):Binds K fd ps []:=λs us _ hl=>by
 rw[dD]at hl ⊢;exact .of_eq (h us hl)
noncomputable def Passes(CX:CXT)(X:Cx)(E:XK):Prop:=∀(pins:List (Addr×Obj)) (σ:St) (H:Hp) (s:af) (e:ae) (s':af),Inv X pins σ H s->CX X.stack H s E e s'->X.xe e s'
section
variable{X:Cx}{CX:CXT}{k:Nat}{f C:Addr}{fd:bI}{ps:List Str}{sp:Sp}{dvs:List V}{ds:List ae}{E:XK}{x m:Str}{p pos apos:Pos}{e o:Expr}{es:List Expr}{ta:TE}{t:TA}
theorem Dh{pins:List (Addr×Obj)}{σ:St}{H:Hp}{s:af}{Q:VK}{us:List ae}{vs:List V}(F:fN X.prog X.w X.K X.mg X.base CX k f fd ps sp)(hr:ck k X.A)(hb:Binds X.K fd ps ds)(hd:Vals dvs ds)(hx:Passes CX X E)
  (I:Inv X pins σ H s) (r:Vals vs us) (h:sp (vs++dvs) H Q E):ah (ak X.prog X.w) X.A (call (.ref f) us) (EP X pins σ Q) X.xe s:=by
 have r2:Vals (vs++dvs) (us++ds):=r.append hd;have hl:(us++ds).length=ps.length:=by rw[<-r2.length];exact F.len _ _ _ _ h
 refine wpAny_call (codeAny_mono (F.run X.A X.stack s H ⟨us,[]⟩ (us++ds) (vs++dvs) Q E hr I.env0 (hb s us I.kIn hl) r2 h) λr s' hq=>?_);cases r with
 |error e=>exact hx pins σ H s e s' I hq
 |ok fl=>
  cases fl with
  |ret u=>exact I.after hq
  |next=>exact a9 hq
  |brk=>exact a9 hq
  |cont=>exact a9 hq
theorem wW(F:fN X.prog X.w X.K X.mg X.base CX k f fd ps sp)(hr:ck k X.A)(hg:Gl X x)(hm:X.mg x=some (.ref f))(hk:cx X.K (.ref f)=true)(hb:Binds X.K fd ps ds)(hd:Vals dvs ds)(hx:Passes CX X E)
  (ha:PA X (e::es) t) (hdb:(x==("__debug__" : Str))=false:=by decide) (he:aZ (e::es) X.env=(false,eval e X.env)::aZ es X.env:=by rfl) (hpl:(backTo pos (aZ es X.env)).any (·.1)=false:=by rfl) :
  PE X (.Call (.Name x p) (e::es) [] pos) (mv sp dvs E t):=by
 intro pins s σ H Q I h;refine wpAny_Call_Name_kw (gW I hg hm ?_ hdb);refine PySem.W.callWith_K (h₀:=X.base) I.ok.mod.kin hk (thn (ha pos pins s σ H _ I h) λus s1 ⟨vs,H1,I1,r,q⟩=>⟨I1.kIn,?_⟩) he hpl;exact Dh F hr hb hd hx I1 r q
end
section
variable{X:Cx}{CX:CXT}{k:Nat}{f C:Addr}{fd:bI}{ps ks:List Str}{sp:Sp}{E:XK}{x m:Str}{p pos apos kpos:Pos}{e o:Expr}{es:List Expr}{kws:List Keyword}{te ta:TE}{t tk:TA}{nm:Option Str}
variable{g:List ae->List ae->List ae}{gV:List V->List V->List V}
end
structure fX(N P:List Str)(sc:aY):Prop where
 kind:sc.kind=.function
 co:sc.isCoroutine=false
 gen:sc.isGenerator=false
 nd:N.Nodup
 pre:N.take P.length=P
 par:∀x∈P,sc.names.lookup x=some .local\/sc.names.lookup x=some .cell
 nofree:∀y∈sc.names,y.2≠.free
theorem pF{kindOf:Str->Option aU}{x:Str}:∀{binds:List (Str×ae)}{m:Str->Option ae},(∀v,(x,v)∉binds)->bindL kindOf binds m x=m x
 | [],_,_=>rfl
 | (n,v)::r,m,h=>by
  unfold bindL;rw[pF λw hw=>h w (aK _ hw)];split
  ·have:x≠n:=by rintro rfl;exact h v aO
   simp[this]
  ·rfl
theorem sG{kindOf:Str->Option aU}{x:Str}:∀{binds:List (Str×ae)}{m:Str->Option ae},(∀v,(x,v)∉binds)->bindC kindOf binds m x=m x
 | [],_,_=>rfl
 | (n,v)::r,m,h=>by
  unfold bindC;rw[sG λw hw=>h w (aK _ hw)];split
  ·rfl
  ·have:x≠n:=by rintro rfl;exact h v aO
   simp[this]
theorem sW{kindOf:Str->Option aU}{x:Str}{v:ae}:∀{P:List Str}{vs:List ae}{i:Nat}{m:Str->Option ae},P.Nodup->P[i]? = some x->vs[i]? = some v->kindOf x=some .local ->
  bindL kindOf (P.zip vs) m x=some v
 | [],_,_,_,_,h,_,_=>by simp at h
 |_::_,[],_,_,_,_,h,_=>by simp at h
 |p::P,w::vs,0,m,nd,h1,h2,hk=>by
  simp at h1 h2;subst h1;subst h2;show bindL kindOf ((p,w)::P.zip vs) m p=_;unfold bindL;rw[pF λv hv=>(List.nodup_cons.mp nd).1 (List.of_mem_zip hv).1,if_pos hk];simp
 |p::P,w::vs,i+1,m,nd,h1,h2,hk=>by
  show bindL kindOf ((p,w)::P.zip vs) m x=_;unfold bindL;exact sW (i:=i) (List.nodup_cons.mp nd).2 (by simpa using h1) (by simpa using h2) hk
theorem tm{kindOf:Str->Option aU}{x:Str}{v:ae}:∀{P:List Str}{vs:List ae}{i:Nat}{m:Str->Option ae},P.Nodup->P[i]? = some x->vs[i]? = some v->kindOf x≠some .local ->
  bindC kindOf (P.zip vs) m x=some v
 | [],_,_,_,_,h,_,_=>by simp at h
 |_::_,[],_,_,_,_,h,_=>by simp at h
 |p::P,w::vs,0,m,nd,h1,h2,hk=>by
  simp at h1 h2;subst h1;subst h2;show bindC kindOf ((p,w)::P.zip vs) m p=_;unfold bindC;rw[sG λv hv=>(List.nodup_cons.mp nd).1 (List.of_mem_zip hv).1,if_neg hk];simp
 |p::P,w::vs,i+1,m,nd,h1,h2,hk=>by
  show bindC kindOf ((p,w)::P.zip vs) m x=_;unfold bindC;exact tm (i:=i) (List.nodup_cons.mp nd).2 (by simpa using h1) (by simpa using h2) hk
noncomputable def start(N:List Str)(vs:List V):St:=vs.map some++bW (N.length-vs.length) none
noncomputable def eu(CX:CXT)(P:aB)(w:aw)(K:ax)(mg:Str->Option ae)(base:Heap)(N:List Str)(qual:Str)(scope:aY)(f:Addr)(cd:ae)(A:aC)(outer:List Env)(s:af)(H:Hp)(E:XK):Cx where
 prog:=P
 w:=w
 K:=K
 mg:=mg
 base:=base
 A:=A.deeper (envOfC qual scope s.heap.objs.size f cd)
 N:=N
 s₀:=s
 H₀:=H
 env:=envOfC qual scope s.heap.objs.size f cd
 outer:=outer
 stack:=envOfC qual scope s.heap.objs.size f cd::outer
 ex:=[]
 calm:=true
 fn:=λ_=>true
 pn:=[]
 xe:=λe s'=>ah (ak P w) (A.deeper (envOfC qual scope s.heap.objs.size f cd)) (leaving (envOfC qual scope s.heap.objs.size f cd) e) (λ_ s''=>CX outer H s E e s'') (λe' s''=>CX outer H s E e' s'') s'
theorem j6{sc:aY}{n:Nat}{x:Str}(h:sc.names.lookup x=some .cell):∃c,(bh n sc.names []).lookup x=some c:=by
 have q:=PySem.W.cellsFrom_some sc.names n [] (.inl h);exact Option.isSome_iff_exists.mp q
theorem tq{CX:CXT}{P:aB}{w:aw}{K:ax}{mg:Str->Option ae}{base:Heap}{N ps:List Str}{qual:Str}{scope:aY}{f:Addr}{cd:ae}{A:aC}{outer:List Env}{s s1:af}{H:Hp}{E:XK}{us:List ae}{vs:List V}
  (S:fX N ps scope) (hd:A.handled=none) (e0:f_ P w K mg base A outer s H) (hl:vs.length=ps.length) (r:Vals vs us)
  (x:InCallC s s.heap.objs.size (bindL (envOfC qual scope s.heap.objs.size f cd).kindOf (ps.zip us) λ_=>none) (bh (s.heap.objs.size+1) scope.names []) (bindC (envOfC qual scope s.heap.objs.size f cd).kindOf (ps.zip us) λ_=>none) s1) :
  Inv (eu CX P w K mg base N qual scope f cd A outer s H E) [] (start N vs) H s1:=by
 have hpl:ps.length<=N.length:=by have:=congrArg List.length S.pre;rw[dZ]at this;lia
 obtain⟨h1,tk,rfl,hk⟩:=x.done;have noA:∀b:Addr,b∉(eu CX P w K mg base N qual scope f cd A outer s H E).ex:=λb z=>absurd (show b∈([]:List Addr)from z) (by simp)
 refine⟨⟨e0.mod,S.kind,rfl,rfl,aE _,λy z c h1 h2=>?_,λy hy=>?_,λy c _ h=>?_,λ_=>hd,aC.frames_deeper e0.frames,.inr ⟨rfl,rfl⟩,λb z=>absurd z (noA b),e0.bs,e0.bsz,λb _ _=>noA b,λb z=>absurd z (noA b),e0.funs,e0.frf⟩,
  rfl,e0.bare,Un.kept hk,⟨_,x.toInCall.ns,λi y v h1 h2 h3=>?_⟩,λy c h=>⟨_,x.cell y c h⟩,e0.hok.fresh (aE _),λy c h=>?_,λp hp=>absurd (show p∈([]:List (Addr×Obj))from hp) (by simp),e0.hok.kept hk,?_⟩
 ·exact name_of_addr x.apart (cw h1) (cw h2)
 ·have hy:scope.names.lookup y=some .cell\/scope.names.lookup y=some .free:=hy;rcases hy with hy|hy
  ·exact j6 hy
  ·exact absurd rfl (S.nofree _ (cw hy))
 ·exact Nat.le_of_lt (x.above y c (cw h))
 ·have hi:i<vs.length:=by
   unfold start at h2;by_cases hi:i<vs.length
   ·exact hi
   ·rw[List.getElem?_append_right (by simpa using hi)]at h2;rw[List.getElem?_replicate]at h2;split at h2<;>cases h2
  have ha:vs[i]? = some v:=by
   unfold start at h2;rw[List.getElem?_append_left (by simpa using hi),List.getElem?_map]at h2;cases e:vs[i]? with
   |none=>rw[e]at h2;cases h2
   |some a=>rw[e]at h2;cases h2;rfl
  obtain⟨u,hu,rv⟩:=r.get ha;have hp:ps[i]? = some y:=by
   rw[<-S.pre,List.getElem?_take_of_lt (by lia)];exact h1
  have ndP:ps.Nodup:=by rw[<-S.pre];exact S.nd.sublist (List.take_sublist _ _)
  refine⟨u,rv,?_⟩;rcases S.par y (List.mem_of_getElem? hp)with k|k
  ·exact .inl ⟨k,sW ndP hp hu k⟩
  ·obtain⟨c,e⟩:=j6 (n:=s.heap.objs.size+1) k;refine .inr ⟨.inl k,c,e,?_⟩;have q:=x.cell y c e;rw[tm ndP hp hu (by show scope.names.lookup y≠_;rw[k];decide)]at q;exact q
 ·exact e0.hok.fresh (Nat.le_of_lt (x.above y c (cw h)))
 ·unfold start;show _=N.length;rw[List.length_append,aQ,List.length_replicate];lia
theorem AR{CX:CXT}{P:aB}{w:aw}{K:ax}{mg:Str->Option ae}{base:Heap}{k:Nat}{f:Addr}{name qual:Str}{params:Arguments}{body:List Stmt}{scope:aY}{dV kV doc pm cdv ct oc:ae}{an od:Option Addr}
  {osl:Array (Option ae)}{N ps:List Str}{sp:Sp} (lk:K.lookup f=some ⟨oc,od,.func (b7 name qual params body scope dV kV doc pm an cdv ct),osl⟩) (hcd:PySem.W.codeIn K cdv qual=true) (S:fX N ps scope)
  (len:∀vs H Q E,sp vs H Q E->vs.length=ps.length)
  (hbody:∀(A:aC) (outer:List Env) (s:af) (H:Hp) (vs:List V) (Q:VK) (E:XK),ck k (A.deeper (envOfC qual scope s.heap.objs.size f cdv))->sp vs H Q E ->
   ∃t,PSs (eu CX P w K mg base N qual scope f cdv A outer s H E) body t/\t {nx:=λ_ H'=>Q .non H',rt:=Q} (start N vs) H) :
  fN P w K mg base CX (k+1) f (b7 name qual params body scope dV kV doc pm an cdv ct) ps sp:=by
 refine⟨len,λA outer s H args us vs Q E hr e0 hb r hsp=>?_⟩;have hl:=len _ _ _ _ hsp;have KX:K.In s.heap:=e0.mod.kin.keeps λb o e=>(e0.bs b o e).1
 have lim:s.heap.NoLimit:=e0.mod.nolimit.keeps λb o e=>(e0.bs b o e).1
 have hkind:∀y∈ps.zip us,scope.names.lookup y.1=some .local\/(scope.names.lookup y.1=some .cell/\((bh (s.heap.objs.size+1) scope.names []).lookup y.1).isSome=true):=λ⟨n,v⟩ hy=>by
  rcases S.par n (List.of_mem_zip hy).1 with q|q
  ·exact .inl q
  ·exact .inr ⟨q,PySem.W.cellsFrom_some _ _ _ (.inl q)⟩
 refine codeAny_call_function hr.depth (KX _ _ lk) rfl S.co S.gen rfl (PySem.W.codeRec_of KX hcd) (hb _ _ _ _ ?_);refine wpAny_newFunctionEnv_cells S.kind hkind λenv he s1 x=>?_
 subst he;refine⟨lim.keeps x.toInCall.keep,codeAny_func ?_⟩;obtain⟨t,ht,hq⟩:=hbody A outer s H vs Q E (hr.deeper _) hsp;have I:Inv (eu CX P w K mg base N qual scope f cdv A outer s H E) [] (start N vs) H s1:=tq S hr.hd e0 hl r x;refine bT (ht [] s1 (start N vs) H _ I hq) (λfl s' hs=>?_) λe s' hs=>hs
 have fin:∀{σ':St}{H':Hp}{v:V}{u:ae},Inv (eu CX P w K mg base N qual scope f cdv A outer s H E) [] σ' H' s'->RelV v u->Q v H'->CE outer P w H s Q u s':=
  λ{σ' H' v u} J rv q=>⟨v,H',J.os,J.bare,J.base,J.hok,rv,q⟩
 cases fl with
 |ret u=>
  obtain⟨v,σ',H',J,rv,q⟩:=hs;exact fin J rv q
 |next=>
  obtain⟨σ',H',J,q⟩:=hs;exact fin (v:=V.non) (u:=bP) J rfl q
 |brk=>
  obtain⟨_,_,_,q⟩:=hs;exact a9 q
 |cont=>
  obtain⟨_,_,_,q⟩:=hs;exact a9 q
section
variable{X:Cx}{x:Str}{p pos:Pos}{e:Expr}{es:List Expr}{t:TA}{id T:String}{r:List V->Hp->VK->Prop}
noncomputable def tCB(r:List V->Hp->VK->Prop)(t:TA):TE:=λσ H Q=>t σ H λvs H1=>r vs H1 Q
theorem mj(hc:zv X (.builtin id) r)(hg:Gl X x)(hm:X.mg x=none)(hv:bO x=some (.builtin id))(ha:PA X (e::es) t)(hn:x≠"__name__":=by decide)(hdb:(x==("__debug__" : Str))=false:=by decide)
  (he:aZ (e::es) X.env=(false,eval e X.env)::aZ es X.env:=by rfl) (hpl:(backTo pos (aZ es X.env)).any (·.1)=false:=by rfl):PE X (.Call (.Name x p) (e::es) [] pos) (tCB r t):=by
 intro pins s σ H Q I h;refine wpAny_Call_Name_kw (fR I hg hm hv ?_ hn hdb);exact PyProof.Rows.callWith_builtin1 (thn (ha pos pins s σ H _ I h) λus s1 ⟨vs,H1,I1,r1,q1⟩=>hc pins s1 σ H1 vs us Q I1 r1 q1) he hpl
theorem lM(hc:zv X (.type T) r)(hg:Gl X x)(hm:X.mg x=none)(hv:bO x=some (.type T))(ha:PA X (e::es) t)(hn:x≠"__name__":=by decide)(hdb:(x==("__debug__" : Str))=false:=by decide)
  (he:aZ (e::es) X.env=(false,eval e X.env)::aZ es X.env:=by rfl) (hpl:(backTo pos (aZ es X.env)).any (·.1)=false:=by rfl):PE X (.Call (.Name x p) (e::es) [] pos) (tCB r t):=by
 intro pins s σ H Q I h;refine wpAny_Call_Name_kw (fR I hg hm hv ?_ hn hdb);exact fE (thn (ha pos pins s σ H _ I h) λus s1 ⟨vs,H1,I1,r1,q1⟩=>hc pins s1 σ H1 vs us Q I1 r1 q1) he hpl
end
end L2
namespace HT
open PySem PyProof.Rows
noncomputable def lexLt:List Int->List Int->Bool
 | [],[]=>false
 | [],_::_=>true
 |_::_,[]=>false
 |x::xs,y::ys=>if x=y then lexLt xs ys else decide (x<y)
theorem sL(x y:Int)(xs ys:List Int):lexLt (x::xs) (y::ys)=if x=y then lexLt xs ys else decide (x<y):=rfl
theorem sj:lexLt [] []=false:=rfl
theorem m6(y:Int)(ys:List Int):lexLt [] (y::ys)=true:=rfl
theorem mU(x:Int)(xs:List Int):lexLt (x::xs) []=false:=rfl
theorem wu(A:aC)(s:af)(a:Int)(t:Tok)(c:Int)(u:Tok):∃e,SeqAt.EqAt A s (.int a t) (.int c u) e/\(e=true↔a=c):=
 ⟨(a==c),SeqAt.EqAt.int_int a t c u,by simp⟩
theorem Fb(A:aC)(s:af)(a:Int)(t:Tok)(c:Int)(u:Tok)(prog:aB)(w:aw)(E:ae->af->Prop)(Q:ae->af->Prop)(h:Q (.bool (decide (a<c))) s) :
  ah (ak prog w) A (richCompare .Lt (.int a t) (.int c u)) Q E s:=
 (PyProof.Rows.lt_int h:ah (ak prog w) A (ba .Lt (.int a t) (.int c u)) Q E s)
section
open PySem.SeqAt
open PySem.AutoSeq1 (wpAny_loadPart')
open PySem.MeetsSeq PySem.MeetsSeq2 PySem.MeetsSeq3
theorem nO(l b:Addr)(items items2:Array ae)(n n2:Nat)(dd dd2:Option Addr)(sl sl2:Array (Option ae))(ns ms:List Int)(hi:bq items.toList ns)(hj:bq items2.toList ms) :
  Meets (Builtin.«tuple.__lt__» ⟨[.ref l,.ref b],[]⟩)
   (λ_ R s=>s.heap.get? l=some {cls:=.type "tuple",dict:=dd,data:=.seq items n,slots:=sl}/\s.heap.get? b=some {cls:=.type "tuple",dict:=dd2,data:=.seq items2 n2,slots:=sl2} /\
    R (.ok (.ret (.bool (lexLt ns ms)))) s):=
 .of_wp λprog w A R s h=>by
  obtain⟨hp,g,d,tk,os⟩:=s;obtain⟨hl,hb,h⟩:=h;have f2:=AutoSeq1.sub_tuple_tuple;have z1:items.size=ns.length:=by rw[<-hi.length];simp
  have z2:items2.size=ms.length:=by rw[<-hj.length];simp
  wp_walk using wpAny_loadPart' hl,wpAny_loadPart' hb,wpAny_forIn_list _ (λrest b s'=>b.1=none/\s'=⟨hp,g,d,tk,os⟩/\∃(vs ws:List ae) (ns' ms':List Int),rest=vs.zip ws /\
   bq vs ns'/\bq ws ms'/\ns'.length+items2.size=ms'.length+items.size/\R (.ok (.ret (.bool (lexLt ns' ms')))) ⟨hp,g,d,tk,os⟩) _
  case turn=>
   rintro⟨y,x⟩ rest b s' ⟨hb',rfl,vs,ws,ns',ms',hz,hvi,hwi,hlen,hR⟩;cases hvi with
   |nil=>rw[List.zip_nil_left]at hz;cases hz
   |cons a t hvi'=>
    cases hwi with
    |nil=>rw[List.zip_nil_right]at hz;cases hz
    |cons c u hwi'=>
     rw[List.zip_cons_cons]at hz;injection hz with hyx hrest
     injection hyx with hy hx
     subst hy hx;rw[sL]at hR;simp only[bZ]at hlen;obtain⟨e,he,hiff⟩:=wu A.in1 ⟨hp,g,d,tk,os⟩ a t c u;refine ag (he prog w _ _ ?_);cases e with
     |true=>
      rw[if_pos (hiff.mp rfl)]at hR
      wp_walk
      exact⟨rfl,rfl,_,_,_,_,hrest,hvi',hwi',by lia,hR⟩
     |false=>
      rw[if_neg (λq=>absurd (hiff.mpr q) cf)]at hR;have hri:=Fb A.in1 ⟨hp,g,d,tk,os⟩ a t c u prog w
      wp_walk using hri
      exact⟨_,rfl,by simpa using hR⟩
  case fin=>
   rintro⟨b1,b2⟩ s' ⟨hb',rfl,vs,ws,ns',ms',hz,hvi,hwi,hlen,hR⟩;simp only at hb';subst hb';have hv:lexLt ns' ms'=decide (items.size<items2.size):=by
    cases hvi with
    |nil=>
     cases hwi with
     |nil=>
      simp only[List.length_nil]at hlen;rw[sj];exact(decide_eq_false (by lia)).symm
     |cons c u hw=>
      simp only[List.length_nil,bZ]at hlen;rw[m6];exact(decide_eq_true (by lia)).symm
    |cons a t hv=>
     cases hwi with
     |nil=>
      simp only[List.length_nil,bZ]at hlen;rw[mU];exact(decide_eq_false (by lia)).symm
     |cons c u hw=>
      rw[List.zip_cons_cons]at hz;cases hz
   rw[hv]at hR
   wp_walk
   exact⟨_,rfl,by simpa[Builtin.Tuple.tupleCompareSizes]using hR⟩
  case h=>
   exact⟨rfl,rfl,items.toList,items2.toList,ns,ms,rfl,hi,hj,by lia,h⟩
end
section
variable{prog:aB}{w:aw}{A:aC}{E:ae->af->Prop}{s:af}
theorem Aa{l b:Addr}{items items2:Array ae}{ns ms:List Int}{Q:ae->af->Prop}(hl:IsTup s.heap l items)(hb:IsTup s.heap b items2)(hi:bq items.toList ns)(hj:bq items2.toList ms)
  (hu:A.units<cLine) (h:Q (.bool (lexLt ns ms)) s):ah (ak prog w) A (ba .Lt (.ref l) (.ref b)) Q E s:=by
 obtain⟨⟨cls,dd,data,sl⟩,ho,hc,n,hd⟩:=id hl;obtain⟨⟨cls2,dd2,data2,sl2⟩,ho2,hc2,n2,hd2⟩:=id hb;simp only at hc hd hc2 hd2;subst hc hd hc2 hd2;exact richCompare_meets_room (op:=.Lt) ⟨_,ho,rfl⟩ ⟨_,ho2,rfl⟩ PySem.F.slot_tuple_lt PySem.F.entry_tuple_lt (PySem.F.args_tuple_lt_2 _ _) (nO l b items items2 n n2 dd dd2 sl sl2 ns ms hi hj)
  ⟨ho,ho2,show bH (lexLt ns ms)≠ae.notImplemented/\Q (.bool (lexLt ns ms)) s from ⟨(λx=>nomatch x),h⟩⟩ hu
theorem ur{t b:Addr}{vs ws:List ae}{Q:ae->af->Prop}(ht:IsTup s.heap t vs.toArray)(hb:IsTup s.heap b ws.toArray)(hv:vs≠[])
  (h1:ws=[]->Q (.ref t) s) (h2:ws≠[]->Q (.ref s.heap.objs.size) {s with heap:=s.heap.push {cls:=.type "tuple",data:=.seq (vs++ws).toArray}})
  (hsz:vs.length+ws.length<=aL):ah (ak prog w) A (binaryOp .Add (.ref t) (.ref b)) Q E s:=by
 obtain⟨⟨cls,dd,data,sl⟩,ho,hc,n,hd⟩:=id ht;obtain⟨⟨cls2,dd2,data2,sl2⟩,ho2,hc2,n2,hd2⟩:=id hb;simp only at hc hd hc2 hd2;subst hc hd hc2 hd2;have e:vs.toArray++ws.toArray=(vs++ws).toArray:=by simp
 by_cases hw:ws=[]
 ·exact concat_meets ⟨_,ho,rfl⟩ ⟨_,ho2,rfl⟩ noFill_tuple_add seq_tuple_add PySem.F.slot_tuple_add PySem.F.entry_tuple_add (PySem.F.args_tuple_add_2 _ _)
   (tuple_addW1 t b vs.toArray ws.toArray n n2 dd dd2 sl sl2 (by simpa using hv) (by simp[hw])) ⟨ho,ho2,h1 hw⟩
 ·refine concat_meets ⟨_,ho,rfl⟩ ⟨_,ho2,rfl⟩ noFill_tuple_add seq_tuple_add PySem.F.slot_tuple_add PySem.F.entry_tuple_add (PySem.F.args_tuple_add_2 _ _)
   (tuple_addW2 t b vs.toArray ws.toArray n n2 dd dd2 sl sl2 (by simpa using hv) (by simpa using hw) (by rw[aP,aP];exact hsz)) ⟨ho,ho2,?_⟩
  rw[e];exact h2 hw
noncomputable def sIx(n d:Nat):Option Int->Nat
 |none=>d
 |some v=>if v<0 then (v+(n:Int)).toNat else min v.toNat n
theorem BQ(n d:Nat):sIx n d none=d:=rfl
theorem ku(n d k:Nat):sIx n d (some (k:Int))=min k n:=by
 show (if (k:Int)<0 then ((k:Int)+(n:Int)).toNat else min (k:Int).toNat n)=min k n;rw[if_neg (by lia),Int.toNat_natCast]
theorem AS(n d:Nat)(hd:d<=n)(o:Option Int):sIx n d o<=n:=by
 cases o with
 |none=>exact hd
 |some v=>
  show (if v<0 then (v+(n:Int)).toNat else min v.toNat n)<=n;by_cases hv:v<0
  ·rw[if_pos hv];lia
  ·rw[if_neg hv];exact Nat.min_le_right _ _
theorem rm(v:Int)(n d:Nat):(if v<0 then max (v+(n:Int)) 0 else min v (n:Int))=((sIx n d (some v):Nat):Int):=by
 show (if v<0 then max (v+(n:Int)) 0 else min v (n:Int))=(((if v<0 then (v+(n:Int)).toNat else min v.toNat n):Nat):Int)
 by_cases hv:v<0
 ·simp only[if_pos hv];lia
 ·simp only[if_neg hv];lia
theorem wa(lo hi:Option Int)(n:Nat):eM lo hi 1 (n:Int)=(((sIx n 0 lo:Nat):Int),((sIx n n hi:Nat):Int)):=by
 have h1:¬ ((1:Int)<0):=by lia
 unfold eM;simp only[h1,if_false];refine Prod.ext ?_ ?_
 ·cases lo with
  |none=>rfl
  |some v=>exact rm v n 0
 ·cases hi with
  |none=>rfl
  |some v=>exact rm v n n
theorem w_(i j:Nat):dw (i:Int) (j:Int) 1=j-i:=by
 unfold dw;have h1:(1:Int)>0:=by lia
 simp only[h1,if_true,Int.ediv_one];split<;>lia
theorem oQ{v:ae}{o:Option Int}{Q:Option Int->af->Prop}(p:IsPart v o)(h:Q o s):ah (ak prog w) A (Builtin.Slice.slicePartIndex v) Q E s:=by
 cases p with
 |none=>exact slicePart_none h
 |int i t=>exact slicePart_int h
theorem pW{sl:Addr}{vl vu:ae}{lo hi:Option Int}{n:Nat}{Q:Int×Int×Nat->af->Prop}(hs:s.heap.IsSliceOf sl vl vu .none)(pl:IsPart vl lo)(pu:IsPart vu hi)
  (h:Q (((sIx n 0 lo:Nat):Int),1,sIx n n hi-sIx n 0 lo) s):ah (ak prog w) A (Builtin.Slice.sliceApplied (.ref sl) (pure (n:Int))) Q E s:=by
 obtain⟨os,hos,hcs,hds⟩:=id hs;unfold Builtin.Slice.sliceApplied Builtin.Slice.sliceFields;refine ag (ag (bD hos hds (x:=vl) rfl (ag (bD hos hds (x:=vu) rfl (ag (bD hos hds (x:=.none) rfl (aq ?_)))))));refine ag (slicePart_none ?_);show ah _ _ (if ((1:Int)==0)=true then _ else _) _ _ s;rw[if_neg (by decide)];refine ag (oQ pl (ag (oQ pu (ag (aq ?_)))));show ah _ _ (match eM lo hi 1 (n:Int)with|(lo,hi)=>pure (lo,(1:Int),dw lo hi 1)) _ _ s;rw[wa lo hi n];show ah _ _ (pure (((sIx n 0 lo:Nat):Int),(1:Int),dw ((sIx n 0 lo:Nat):Int) ((sIx n n hi:Nat):Int) 1)) _ _ s;rw[w_];exact aq h
theorem xq(xs:Array ae)(i k:Nat):((a_ k).filterMap λ(m:Nat)=>xs[((i:Int)+(m:Int) * 1).toNat]?).toArray=((xs.toList.drop i).take k).toArray:=by
 have e:(λ(m:Nat)=>xs[((i:Int)+(m:Int) * 1).toNat]?)=λm=>xs[i+m]?:=by
  funext m;have:((i:Int)+(m:Int) * 1).toNat=i+m:=by lia
  rw[this]
 rw[e];have:=pick_run xs i k;rw[List.filterMap_map]at this;have e2:((λx=>xs[x]?)∘λx=>i+x)=λm=>xs[i+m]?:=rfl
 rw[e2]at this;rw[this]
theorem xO{t sl:Addr}{items:Array ae}{vl vu:ae}{lo hi:Option Int}{Q:ae->af->Prop}(ht:IsTup s.heap t items)(hs:s.heap.IsSliceOf sl vl vu .none)(pl:IsPart vl lo)(pu:IsPart vu hi)
  (hw:¬ (sIx items.size 0 lo=0/\sIx items.size items.size hi=items.size))
  (h:Q (.ref s.heap.objs.size) {s with heap:=s.heap.push {cls:=.type "tuple",data:=.seq ((items.toList.drop (sIx items.size 0 lo)).take (sIx items.size items.size hi-sIx items.size 0 lo)).toArray}})
  (hsz:items.size<=aL):ah (ak prog w) A (getItem (.ref t) (.ref sl)) Q E s:=by
 have htake:sizeOk (.seq ((items.toList.drop (sIx items.size 0 lo)).take (sIx items.size items.size hi-sIx items.size 0 lo)).toArray):=by
  show ((items.toList.drop (sIx items.size 0 lo)).take (sIx items.size items.size hi-sIx items.size 0 lo)).toArray.size<=aL;rw[aP,dZ,List.length_drop,bU];lia
 have hj:sIx items.size items.size hi<=items.size:=AS _ _ (aE _) hi;obtain⟨os,hos,hcs,hds⟩:=id hs;have hTs:s.TypeIs (.ref sl) "slice":=⟨os,hos,hcs⟩
 unfold getItem
 try with_reducible refine bS ?_
 first|refine ag (aq ?_)|skip
 refine ag (wpAny_sequenceKey ht.typeIs (by decide) ?_);refine ag (wpAny_callSpecial?_slot (name:=ao "__getitem__") ht.typeIs eK
  (b5 eK ht.typeIs entry_tuple_getitem ?_ (args_tuple_getitem _ _)))
 show ah _ _ (Builtin.Tuple.tupleItemsOf (.ref t)>>=_) _ _ s;refine ag (tupleItemsOf_ ht ?_);refine ag (wpAny_typeOf hTs ?_);rw[if_pos (by decide)];refine ag (pW hs pl pu ?_);have hno:¬ ((((sIx items.size 0 lo:Nat):Int)==0&&(1:Int)==1&&(sIx items.size items.size hi-sIx items.size 0 lo)==items.size)=true):=by
  intro q;rw[aJ,aJ]at q;have q1:((sIx items.size 0 lo:Nat):Int)=0:=eq_of_beq q.1.1;have q2:sIx items.size items.size hi-sIx items.size 0 lo=items.size:=eq_of_beq q.2;exact hw ⟨by lia,by lia⟩
 show ah _ _ (if (((sIx items.size 0 lo:Nat):Int)==0&&(1:Int)==1&&(sIx items.size items.size hi-sIx items.size 0 lo)==items.size)=true then _ else _) _ _ s;rw[if_neg hno,xq]
 first
  |exact ag (m:=dy _) (bK (aq ⟨_,rfl,aq h⟩) htake)
  |exact ag (m:=dy _) (bK (ag (aq (aq ⟨_,rfl,aq h⟩))) htake)
  |exact ag (ag (m:=dy _) (bK (aq (aq ⟨_,rfl,aq h⟩)) htake))
  |exact ag (ag (m:=dy _) (bK (aq ⟨_,rfl,aq h⟩) htake))
end
end HT
namespace L2
open PySem PySem.Spec PyProof.Rows
abbrev TO:=St->Hp->(Option Int->Hp->Prop)->Prop
noncomputable def PO(X:Cx)(e:Option Expr)(t:TO):Prop:=
 ∀(pins:List (Addr×Obj)) (s:af) (σ:St) (H:Hp) (Q:Option Int->Hp->Prop),Inv X pins σ H s->t σ H Q ->
  ah (ak X.prog X.w) X.A (evalPart e X.env) (λu s'=>∃o H',Inv X pins σ H' s'/\IsPart u o/\Q o H') X.xe s
noncomputable def DR:TO:=λ_ H Q=>Q none H
noncomputable def ya(t:TE):TO:=λσ H Q=>t σ H λx H1=>∃i,x=.int i/\Q (some i) H1
theorem intsAre_of{ns:List Int}:∀{us:List ae},Vals (ns.map V.int) us->bq us ns:=by
 induction ns with
 |nil=>intro us r;rw[List.map_nil]at r;cases r;exact .nil
 |cons n ns ih=>
  intro us r;rw[aM]at r;cases r with
  |cons r1 r2=>
   obtain⟨t,e⟩:=r1;subst e;exact .cons n t (ih r2)
section
variable{X:Cx}{e:Expr}{te:TE}{lo hi:Option Expr}{tl th:TO}{pos p2:Pos}
theorem AY:PO X none DR:=by
 intro pins s σ H Q I h;rw[evalPart_none];exact aq ⟨none,H,I,.none,h⟩
theorem Ca(h:PE X e te):PO X (some e) (ya te):=by
 intro pins s σ H Q I hw;rw[evalPart_some];refine thn (h pins s σ H _ I hw) λu s1 ⟨x,H1,I1,r1,q1⟩=>?_
 obtain⟨i,rfl,q⟩:=q1;obtain⟨t,rfl⟩:=r1;exact⟨some i,H1,I1,.int i t,q⟩
noncomputable def SlR(X:Cx)(r:V->Option Int->Option Int->Hp->VK->Prop):Prop:=
 ∀(pins:List (Addr×Obj)) (s:af) (σ:St) (H:Hp) (x:V) (v vl vu:ae) (lo hi:Option Int) (sl:Addr) (Q:VK),Inv X pins σ H s->RelV x v->s.heap.IsSliceOf sl vl vu .none->IsPart vl lo->IsPart vu hi->r x lo hi H Q ->
  ∃T id,typeLookup (.type T) "__getitem__" = pure (some (.builtin id))/\s.TypeIs v T/\ah (ak X.prog X.w) X.A (getItem v (.ref sl)) (EP X pins σ Q) X.xe s
noncomputable def tSl(r:V->Option Int->Option Int->Hp->VK->Prop)(te:TE)(tl th:TO):TE:=λσ H Q=>te σ H λx H1=>tl σ H1 λl H2=>th σ H2 λu H3=>r x l u H3 Q
theorem yX{r:V->Option Int->Option Int->Hp->VK->Prop}(hr:SlR X r)(he:PE X e te)(hl:PO X lo tl)(hu:PO X hi th):PE X (.Subscript e (.Slice lo hi none p2) pos) (tSl r te tl th):=by
 intro pins s σ H Q I h;refine Subscript_ (thn (he pins s σ H _ I h) λv s1 ⟨x,H1,I1,r1,q1⟩=>?_);refine wpAny_Slice (thn (hl pins s1 σ H1 _ I1 q1) λvl s2 ⟨l,H2,I2,pl,q2⟩=>thn (hu pins s2 σ H2 _ I2 q2) λvu s3 ⟨u,H3,I3,pu,q3⟩=>?_);rw[evalPart_none];refine aq ?_;have I4:Inv X pins σ H3 {s3 with heap:=s3.heap.push {cls:=.type "slice",data:=.fields #[vl,vu,.none]}}:=I3.kept (t':=s3.toks) λb ob q=>Heap.get?_push_of_some _ q
 obtain⟨T,id,hT,ht,hg⟩:=hr pins {s3 with heap:=s3.heap.push {cls:=.type "slice",data:=.fields #[vl,vu,.none]}} σ H3 x v vl vu l u s3.heap.objs.size Q I4 r1 (Heap.IsSliceOf.new ..) pl pu q3;show ah (ak X.prog X.w) X.A (subscriptTail e (.Slice lo hi none p2) v (.ref s3.heap.objs.size)) (EP X pins σ Q) X.xe {s3 with heap:=s3.heap.push {cls:=.type "slice",data:=.fields #[vl,vu,.none]}};exact tail_any (ops:=[.ref s3.heap.objs.size,v]) ht hT hg (by with_unfolding_all rfl)
noncomputable def fL(xs:List V)(lo hi:Option Int):List V:=(xs.drop (HT.sIx xs.length 0 lo)).take (HT.sIx xs.length xs.length hi-HT.sIx xs.length 0 lo)
theorem oS(xs:List V)(lo hi:Option Int):(fL xs lo hi).length<=xs.length:=by
 unfold fL;rw[dZ,List.length_drop];lia
noncomputable def vL(K:ax):V->Option Int->Option Int->Hp->VK->Prop:=λx lo hi H Q=>∃a xs,x=.ref a/\SqT K H a xs /\
 ¬ (HT.sIx xs.length 0 lo=0/\HT.sIx xs.length xs.length hi=xs.length)/\∀p,H p=none->Q (.ref p) (upd H p (.tup (fL xs lo hi)))
theorem vC:SlR X (vL X.K):=by
 intro pins s σ H x v vl vu lo hi sl Q I rx hs pl pu h;obtain⟨a,xs,rfl,hx,hw,q⟩:=h;cases rx;obtain⟨its,r,ht,hz⟩:=I.tuple hx;have hlen:its.toArray.size=xs.length:=by rw[aP];exact r.length.symm
 refine⟨"tuple",_,eK.lookup,ht.typeIs,?_⟩;refine HT.xO ht hs pl pu (by rw[hlen];exact hw) ?_ (by rw[hlen];exact hz);rw[hlen];refine⟨.ref s.heap.objs.size,_,I.laid (t':=s.toks) (o:=.tup (fL xs lo hi)) (λb ob q=>Heap.get?_push_of_some _ q) (aE _) ?_,rfl,q _ (I.hok.fresh (aE _))⟩;exact⟨bf (oS xs lo hi) hz,_,(r.drop (HT.sIx xs.length 0 lo)).take (HT.sIx xs.length xs.length hi-HT.sIx xs.length 0 lo),IsTup.new _ _⟩
noncomputable def Bs(K:ax):R2:=λx y H Q=>∃a b ns ms,x=.ref a/\y=.ref b/\SqT K H a (ns.map V.int)/\SqT K H b (ms.map V.int)/\Q (.bl (HT.lexLt ns ms)) H
theorem Cn(hu:X.A.units<cLine):OpR X (ba .Lt) (Bs X.K):=by
 intro pins s σ H x y v u Q I rx ry h;obtain⟨a,b,ns,ms,rfl,rfl,ha,hb,q⟩:=h;cases rx;cases ry;obtain⟨its,r1,p1,_⟩:=I.tuple ha;obtain⟨its2,r2,p2,_⟩:=I.tuple hb;have i1:bq its.toArray.toList ns:=intsAre_of r1;have i2:bq its2.toArray.toList ms:=intsAre_of r2;exact HT.Aa p1 p2 i1 i2 hu ⟨.bl (HT.lexLt ns ms),H,I,rfl,q⟩
noncomputable def xW(K:ax):R2:=λx y H Q=>∃a b xs ys,x=.ref a/\y=.ref b/\SqT K H a xs/\SqT K H b ys/\xs≠[]/\xs.length+ys.length<=aL /\
 (ys=[]->Q (.ref a) H)/\(ys≠[]->∀p,H p=none->Q (.ref p) (upd H p (.tup (xs++ys))))
theorem Vals.nil_iff{xs:List V}{us:List ae}(r:Vals xs us):us=[]↔xs=[]:=by
 cases r with
 |nil=>simp
 |cons _ _=>simp
theorem DN:OpR X (binaryOp .Add) (xW X.K):=by
 intro pins s σ H x y v u Q I rx ry h;obtain⟨a,b,xs,ys,rfl,rfl,ha,hb,hx,hz,q1,q2⟩:=h;cases rx;cases ry;obtain⟨its,r1,p1,_⟩:=I.tuple ha;obtain⟨its2,r2,p2,_⟩:=I.tuple hb;refine HT.ur p1 p2 (λz=>hx (r1.nil_iff.mp z)) (λz=>⟨.ref a,H,I,rfl,q1 (r2.nil_iff.mp z)⟩) (λz=>?_) (by rw[<-r1.length,<-r2.length];exact hz);refine⟨.ref s.heap.objs.size,_,I.laid (t':=s.toks) (o:=.tup (xs++ys)) (λb ob q=>Heap.get?_push_of_some _ q) (aE _) ?_,rfl,q2 (λw=>z (r2.nil_iff.mpr w)) _ (I.hok.fresh (aE _))⟩;exact⟨by rw[List.length_append];exact hz,_,r1.append r2,IsTup.new _ _⟩
end
noncomputable def ixN(n:Nat)(i:Int):Option Nat:=if 0<=i then (if i<n then some i.toNat else none)else if -(n:Int)<=i then some (i+n).toNat else none
noncomputable def atI{α:Type}(xs:List α)(i:Int):Option α:=(ixN xs.length i).bind λj=>xs[j]?
theorem tY{n:Nat}{i:Int}{j:Nat}(h:ixN n i=some j):seqIndex? i n=some j/\j<n/\-(n:Int)<=i/\i<n:=by
 unfold ixN at h;by_cases h0:0<=i
 ·rw[if_pos h0]at h;by_cases h1:i<n
  ·rw[if_pos h1]at h;have e:i.toNat=j:=bM h;exact⟨by rw[seqIndex_of h0 h1,e],by lia,by lia,h1⟩
  ·rw[if_neg h1]at h;cases h
 ·rw[if_neg h0]at h;by_cases h1:-(n:Int)<=i
  ·rw[if_pos h1]at h;have e:(i+n).toNat=j:=bM h;exact⟨by rw[seqIndex_neg (by lia) h1,e],by lia,h1,by lia⟩
  ·rw[if_neg h1]at h;cases h
theorem mG{α:Type}{xs:List α}{i:Int}{v:α}(h:atI xs i=some v):∃j,seqIndex? i xs.length=some j/\xs[j]? = some v/\j<xs.length/\-(xs.length:Int)<=i/\i<xs.length:=by
 unfold atI at h;cases e:ixN xs.length i with
 |none=>rw[e]at h;cases h
 |some j=>
  rw[e]at h;obtain⟨h1,h2,h3,h4⟩:=tY e;exact⟨j,h1,h,h2,h3,h4⟩
noncomputable def pV(b:Expr):Prop:=∀o i,subscripted b false o i=operate [o,i] (getItem o i)
noncomputable def IxR(X:Cx)(r:R2):Prop:=
 ∀(value slice:Expr) (pins:List (Addr×Obj)) (s:af) (σ:St) (H:Hp) (x y:V) (v u:ae) (Q:VK),Inv X pins σ H s->RelV x v->RelV y u->r x y H Q ->
  subscripted slice false v u=operate [v,u] (getItem v u)->ah (ak X.prog X.w) X.A (subscriptTail value slice v u) (EP X pins σ Q) X.xe s
noncomputable def MtR(X:Cx)(id:String)(r:V->List V->Hp->VK->Prop):Prop:=
 ∀(pins:List (Addr×Obj)) (s:af) (σ:St) (H:Hp) (x:V) (xs:List V) (v:ae) (us:List ae) (Q:VK),Inv X pins σ H s->RelV x v->Vals xs us->r x xs H Q ->
  ah (ak X.prog X.w) X.A (call (.builtin id) (v::us)) (EP X pins σ Q) X.xe s
section
variable{X:Cx}{a b:Expr}{ta tb:TE}{pos:Pos}
theorem IxR.or{r r':R2}(h:IxR X r)(h':IxR X r'):IxR X (λx y H Q=>r x y H Q\/r' x y H Q):=by
 intro value slice pins s σ H x y v u Q I rx ry q hs;rcases q with q|q
 ·exact h value slice pins s σ H x y v u Q I rx ry q hs
 ·exact h' value slice pins s σ H x y v u Q I rx ry q hs
theorem Dg{r:R2}(hr:IxR X r)(ha:PE X a ta)(hb:PE X b tb)(hs:pV b):PE X (.Subscript a b pos) (tOp r ta tb):=by
 intro pins s σ H Q I h;exact Subscript_ (ll ha hb I h λv u s2 x y H2 I2 rx ry q=>hr a b pins s2 σ H2 x y v u Q I2 rx ry q (hs _ _))
noncomputable def pK(K:ax):R2:=λx y H Q=>∃p xs i v,x=.ref p/\y=.int i/\SqL K H p xs/\atI xs i=some v/\Q v H
noncomputable def mW(K:ax):R2:=λx y H Q=>∃p xs i v,x=.ref p/\y=.int i/\SqT K H p xs/\atI xs i=some v/\Q v H
noncomputable def nF:R2:=λx y H Q=>∃z i c,x=.str z/\y=.int i/\z.length<=aL/\atI z.cps.toList i=some c/\Q (.str ⟨#[c]⟩) H
theorem A7:IxR X (pK X.K):=by
 intro value slice pins s σ H x y v u Q I rx ry h hs;obtain⟨p,xs,i,z,rfl,rfl,hq,he,q⟩:=h;cases rx;obtain⟨t,rfl⟩:=ry;obtain⟨its,r,pl,hz⟩:=I.list hq;obtain⟨j,h1,h2,h3,h4,h5⟩:=mG he;obtain⟨w,ew,rw'⟩:=r.get h2;have hl:=r.length;have hn:=gf;have fin:EP X pins σ Q w s:=⟨z,H,I,rw',q⟩
 by_cases h0:0<=i
 ·have hj:i.toNat=j:=by
   rw[seqIndex_of h0 h5]at h1;exact bM h1
  exact item_listR pl.isList h0 (by lia) (by rw[hj];simpa using ew) fin hs
 ·have hj:(i+(its.toArray.size:Int)).toNat=j:=by
   rw[seqIndex_neg (by lia) h4]at h1;rw[aP,<-hl];exact bM h1
  exact subscriptTail_builtinR (x:=w) pl.isList.typeIs slot_list_getitem.lookup
   (wpAny_getItem_list_neg (Q:=λr s'=>r=w/\EP X pins σ Q r s') pl.isList (by lia) (by rw[aP]<;>lia) (by lia) (by rw[hj];simpa using ew) ⟨rfl,fin⟩) hs
theorem Fw:IxR X (mW X.K):=by
 intro value slice pins s σ H x y v u Q I rx ry h hs;obtain⟨p,xs,i,z,rfl,rfl,hq,he,q⟩:=h;cases rx;obtain⟨t,rfl⟩:=ry;obtain⟨its,r,pl,hz⟩:=I.tuple hq;obtain⟨j,h1,h2,h3,h4,h5⟩:=mG he;obtain⟨w,ew,rw'⟩:=r.get h2;have hl:=r.length;have hn:=gf;have fin:EP X pins σ Q w s:=⟨z,H,I,rw',q⟩
 exact subscriptTail_builtinR (x:=w) pl.typeIs slot_tuple_getitem.lookup
  (getItem_tuple (j:=j) (Q:=λr s'=>r=w/\EP X pins σ Q r s') pl (by lia) (by lia) (by rw[aP,<-hl];exact h1) (by simpa using ew) ⟨rfl,fin⟩) hs
theorem Ek:IxR X nF:=by
 intro value slice pins s σ H x y v u Q I rx ry h hs;obtain⟨z,i,c,rfl,rfl,hz,he,q⟩:=h;obtain⟨t,rfl⟩:=rx;obtain⟨t',rfl⟩:=ry;obtain⟨j,h1,h2,h3,h4,h5⟩:=mG he;have hl:z.cps.toList.length=z.length:=by simp[Str.length]
 rw[hl]at h1 h4 h5;have hn:=gf;exact tail_any (typeIs_str s z t) slot_str_getitem.lookup (getItem_str (c:=c) (by
  have e1:decide (i < -(2^63:Int))=false:=decide_eq_false (by lia);have e2:decide (i >= 2^63)=false:=decide_eq_false (by lia);rw[e1,e2,Bool.or_false]) (by rw[h1];simpa using h2) ⟨.str ⟨#[c]⟩,H,I.tok _,⟨_,rfl⟩,q⟩) hs
theorem Dt(its:List ae)(n j:Nat)(u:ae):bB (·.setIfInBounds j u) {cls:=.type "list",data:=.seq its.toArray n}={cls:=.type "list",data:=.seq (its.set j u).toArray n}:=by
 simp[bB]
theorem Inv.lst{pins:List (Addr×Obj)}{σ:St}{H:Hp}{s:af}{p:Addr}{xs:List V}(I:Inv X pins σ H s)(h:H p=some (.lst xs)) :
  ∃(its:List ae) (n:Nat),Vals xs its/\s.heap.get? p=some {cls:=.type "list",data:=.seq its.toArray n}/\xs.length<=sizeLine:=by
 obtain⟨z,its,n,r,e⟩:=I.hok p _ h;exact⟨its,n,r,e,z⟩
theorem Inv.lstUpd{pins:List (Addr×Obj)}{σ:St}{H:Hp}{s:af}{p:Addr}{xs ys:List V}{its its':List ae}{n n':Nat}{f:Obj->Obj}(I:Inv X pins σ H s)(h:H p=some (.lst xs))
  (ho:s.heap.get? p=some {cls:=.type "list",data:=.seq its.toArray n}) (hf:f {cls:=.type "list",data:=.seq its.toArray n}={cls:=.type "list",data:=.seq its'.toArray n'}) (r:Vals ys its') (hz:ys.length<=aL) (t:Nat) :
  Inv X pins σ (upd H p (.lst ys)) {s with heap:=s.heap.update p f,toks:=t}:=by
 have e:(s.heap.update p f).get? p=some {cls:=.type "list",data:=.seq its'.toArray n'}:=by
  rw[Heap.get?_update_self f ho (by rw[hf]<;>rfl),hf]
 refine I.write (x:=p) (e:=p) (by rw[h];trivial) (.inl rfl) (λb u hb q=>(Heap.get?_update_other _ _ (Ne.symm hb)).trans q) ⟨_,e⟩ ?_;exact⟨hz,its',n',r,e⟩
noncomputable def rN:V->V->V->Hp->(Hp->Prop)->Prop:=λo i v H Q=>∃p xs k j,o=.ref p/\i=.int k/\H p=some (.lst xs)/\ixN xs.length k=some j/\Q (upd H p (.lst (xs.set j v)))
theorem set_list:oV X rN:=by
 intro pins s σ H o i v ov iv u Q I ro ri rv h;obtain⟨p,xs,k,j,rfl,rfl,hp,hj,q⟩:=h;cases ro;obtain⟨t,rfl⟩:=ri;obtain⟨its,n,r,ho,hz⟩:=I.lst hp;obtain⟨h1,h2,h3,h4⟩:=tY hj;have hl:=r.length;have hn:=gf;have I':Inv X pins σ (upd H p (.lst (xs.set j v))) {s with heap:=s.heap.update p (bB (·.setIfInBounds j u))}:=
  I.lstUpd hp ho (Dt its n j u) (r.set rv j) (by rw[List.length_set];exact hz) s.toks
 by_cases h0:0<=k
 ·have hk:k.toNat=j:=by
   rw[seqIndex_of h0 h4]at h1;exact bM h1
  exact PySem.W.ki_setAt ho h0 (by lia) (by rw[aP,<-hl];exact h4) (by rw[hk];exact⟨_,I',q⟩)
 ·have hk:(k+(its.toArray.size:Int)).toNat=j:=by
   rw[seqIndex_neg (by lia) h3]at h1;rw[aP,<-hl];exact bM h1
  exact PySem.W.ki_setBack ho (by lia) (by rw[aP,<-hl];exact h3) (by lia) (by rw[hk];exact⟨_,I',q⟩)
theorem BY(lo hi:Option Int)(n:Nat):(sliceBounds lo hi none n).1=((HT.sIx n 0 lo:Nat):Int)/\(sliceBounds lo hi none n).2.1=((HT.sIx n n hi:Nat):Int)/\(sliceBounds lo hi none n).2.2=1:=by
 refine⟨?_,?_,rfl⟩
 ·cases lo with
  |none=>simp[sliceBounds,HT.sIx]
  |some i=>
   simp only[sliceBounds,HT.sIx,Option.getD_none,show (1:Int)>0 by decide,if_true];by_cases h:i<0
   ·simp only[h,if_true]<;>lia
   ·simp only[h,if_false]<;>lia
 ·cases hi with
  |none=>simp[sliceBounds,HT.sIx]
  |some i=>
   simp only[sliceBounds,HT.sIx,Option.getD_none,show (1:Int)>0 by decide,if_true];by_cases h:i<0
   ·simp only[h,if_true]<;>lia
   ·simp only[h,if_false]<;>lia
theorem BH(its:List ae)(lo hi:Option Int):slicePick its.toArray lo hi none=((its.drop (HT.sIx its.length 0 lo)).take (HT.sIx its.length its.length hi-HT.sIx its.length 0 lo)).toArray:=by
 obtain⟨h1,h2,h3⟩:=BY lo hi its.toArray.size;unfold slicePick;rw[h1,h2,h3];simp only[sliceRange_one,pick_run,aP]<;>rfl
noncomputable def xJ(K:ax):V->Option Int->Option Int->Hp->VK->Prop:=λx lo hi H Q=>∃a xs,x=.ref a/\SqL K H a xs/\∀p,H p=none->Q (.ref p) (upd H p (.lst (fL xs lo hi)))
theorem Ft:SlR X (xJ X.K):=by
 intro pins s σ H x v vl vu lo hi sl Q I rx hs pl pu h;obtain⟨a,xs,rfl,hx,q⟩:=h;cases rx;obtain⟨its,r,ht,hz⟩:=I.list hx;have hlen:=r.length;refine⟨"list",_,slot_list_getitem.lookup,ht.isList.typeIs,?_⟩;refine wpAny_getItem_list_slice ht.isList hs pl pu .none (by simp) ?_ (by rw[aP]<;>lia);rw[BH,<-hlen];refine⟨.ref s.heap.objs.size,_,I.laid (t':=s.toks) (o:=.lst (fL xs lo hi)) (λb ob q=>Heap.get?_push_of_some _ q) (aE _) ?_,rfl,q _ (I.hok.fresh (aE _))⟩;exact⟨bf (oS xs lo hi) hz,_,0,(r.drop (HT.sIx xs.length 0 lo)).take (HT.sIx xs.length xs.length hi-HT.sIx xs.length 0 lo),Heap.get?_push_size _ rfl⟩
theorem Cj:zv X (.builtin "len") (λxs H Q=>∃p ys,xs=[.ref p]/\(SqL X.K H p ys\/SqT X.K H p ys)/\Q (.int ys.length) H):=by
 intro pins s σ H xs us Q I r h;obtain⟨p,ys,rfl,hq,q⟩:=h;obtain⟨u,rfl,rx⟩:=vals1 r;cases rx;have hn:=gf;rcases hq with hq|hq
 ·obtain⟨its,r',pl,hz⟩:=I.list hq;have hlen:=r'.length;exact Calls.call_len_list pl.isList (by simp only[aP]<;>lia) ⟨.int ys.length,H,I.tok _,⟨s.toks+1,by rw[aP,hlen]⟩,q⟩
 ·obtain⟨its,r',pl,hz⟩:=I.tuple hq;have hlen:=r'.length;exact len_tuple pl (by simp only[aP]<;>lia) ⟨.int ys.length,H,I.tok _,⟨s.toks+1,by rw[aP,hlen]⟩,q⟩
theorem uC:zv X (.builtin "len") (λxs H Q=>∃z,xs=[.str z]/\z.length<=aL/\Q (.int z.length) H):=by
 intro pins s σ H xs us Q I r h;obtain⟨z,rfl,hz,q⟩:=h;obtain⟨u,rfl,t,rfl⟩:=vals1 r;have hn:=gf;exact len_str (by lia) ⟨.int z.length,H,I.tok _,⟨_,rfl⟩,q⟩
theorem zv.or{f:ae}{r r':List V->Hp->VK->Prop}(h:zv X f r)(h':zv X f r'):zv X f (λxs H Q=>r xs H Q\/r' xs H Q):=by
 intro pins s σ H xs us Q I rs q;rcases q with q|q
 ·exact h pins s σ H xs us Q I rs q
 ·exact h' pins s σ H xs us Q I rs q
theorem C_:zv X (.type "tuple") (λxs H Q=>∃p ys,xs=[.ref p]/\((SqL X.K H p ys/\∀l,H l=none->Q (.ref l) (upd H l (.tup ys)))\/(SqT X.K H p ys/\Q (.ref p) H))):=by
 intro pins s σ H xs us Q I r h;obtain⟨p,ys,rfl,h⟩:=h;obtain⟨u,rfl,rx⟩:=vals1 r;cases rx;rcases h with ⟨hq,q⟩|⟨hq,q⟩
 ·obtain⟨its,r',pl,hz⟩:=I.list hq;have hlen:=r'.length;refine call_tuple_list pl.isList (λh' kp=>?_) (by simp only[aP]<;>lia);have I1:Inv X pins σ H {s with heap:=h'}:=I.kept (t':=s.toks) kp;have I2:Inv X pins σ (upd H h'.objs.size (.tup ys)) {s with heap:=h'.push {cls:=.type "tuple",data:=.seq its.toArray}}:=
   I1.laid (t':=s.toks) (λb o e=>Heap.get?_push_of_some _ e) (aE _) (show zY X.prog X.w _ _ _ (.tup ys)from ⟨hz,its,r',IsTup.new _ _⟩)
  exact⟨.ref h'.objs.size,_,I2,rfl,q _ (I1.hok.fresh (aE _))⟩
 ·obtain⟨its,r',pl,hz⟩:=I.tuple hq;exact call_tuple_same pl ⟨.ref p,H,I,rfl,q⟩
noncomputable def tyV(K:ax)(T:String)(x:V)(H:Hp):Prop:=match x with
 | .str _=>T = "str"
 | .int _=>T = "int"
 | .ref p=>(T = "list"/\∃xs,SqL K H p xs)\/(T = "tuple"/\∃o,K.lookup p=some o/\o.cls=.type "tuple"/\o.dict=none) \/
   (T = "dict"/\((∃kvs,H p=some (.dK kvs))\/∃kvs,H p=some (.dT kvs)))\/(T = "set"/\∃S n,H p=some (.set S n))
 |_=>False
theorem vj{pins:List (Addr×Obj)}{σ:St}{H:Hp}{s:af}{T:String}{x:V}{v:ae}(I:Inv X pins σ H s)(r:RelV x v)(ty:tyV X.K T x H) :
  s.TypeIs v T/\∀a,v=.ref a->∃ob,s.heap.get? a=some ob/\ob.dict=none:=by
 cases x with
 |str z=>
  obtain⟨t,rfl⟩:=r;cases (show T = "str" from ty);exact⟨typeIs_str s z t,λ_ e=>nomatch e⟩
 |int i=>
  obtain⟨t,rfl⟩:=r;cases (show T = "int" from ty);exact⟨typeIs_int s i t,λ_ e=>nomatch e⟩
 |ref p=>
  cases r;rcases ty with ⟨rfl,xs,hq⟩|⟨rfl,o,hk,hc,hd⟩|⟨rfl,hk⟩|⟨rfl,S,n,hk⟩
  ·obtain⟨its,_,pl,_⟩:=I.list hq;refine⟨pl.isList.typeIs,λa e=>?_⟩;cases e;obtain⟨o,n,e,c,hd,_⟩:=pl;exact⟨o,e,hd⟩
  ·refine⟨⟨o,I.kIn p o hk,hc⟩,λa e=>?_⟩;cases e;exact⟨o,I.kIn _ o hk,hd⟩
  ·have z:∃o,s.heap.get? p=some o/\o.ExactDict:=by
    rcases hk with ⟨kvs,hk⟩|⟨kvs,hk⟩
    ·obtain⟨_,_,_,_,o,_,_,e,ex,_⟩:=I.hok p _ hk;exact⟨o,e,ex⟩
    ·obtain⟨_,_,_,_,o,_,_,e,ex,_⟩:=I.hok p _ hk;exact⟨o,e,ex⟩
   obtain⟨o,e,ex⟩:=z;refine⟨⟨o,e,ex.1⟩,λa e2=>?_⟩;cases e2;exact⟨o,e,ex.2.1⟩
  ·obtain⟨o,_,_,_,e,ex,_⟩:=I.hok p _ hk;refine⟨⟨o,e,ex.1⟩,λa e2=>?_⟩;cases e2;exact⟨o,e,ex.2.1⟩
 |_=>exact a9 ty
noncomputable def tBM(K:ax)(T:String)(r:V->List V->Hp->VK->Prop)(to:TE)(t:TA):TE:=λσ H Q=>to σ H λx H1=>tyV K T x H1/\t σ H1 λxs H2=>r x xs H2 Q
variable{o e:Expr}{es:List Expr}{to:TE}{t:TA}{name:Str}{apos cpos:Pos}{T id:String}{r:V->List V->Hp->VK->Prop}
theorem gQ(pa:PlainAttrs T)(slot:Slot T name id)(hty:typeOf (.builtin id)=pure (.type "method_descriptor"))(hm:MtR X id r)(ho:PE X o to)(ha:PA X (e::es) t)
  (hbase:attributeBase o name X.env (eval o X.env)=eval o X.env:=by rfl)
  (hfew:((backTo cpos (aZ (e::es) X.env)).all (λx=>!x.1)&&(backToKw cpos (keywordEach [] X.env)).all (λx=>x.1.isSome)
   && decide ((e::es).length+([]:List Keyword).length+(if ([]:List Keyword).isEmpty then 0 else 1)<30))=true:=by rfl)
  (hline:(apos.endLine==cpos.line)=true:=by rfl) (hs:aZ (e::es) X.env=(false,eval e X.env)::aZ es X.env:=by rfl) (hplain:(backTo cpos (aZ es X.env)).any (·.1)=false:=by rfl) :
  PE X (.Call (.Attribute o name apos) (e::es) [] cpos) (tBM X.K T r to t):=by
 intro pins s σ H Q I h;refine wpAny_Call_method_late hbase hfew hline rfl (thn (ho pins s σ H _ I h) λv s1 ⟨x,H1,I1,r1,ty,q1⟩=>?_);obtain⟨h1,h2⟩:=vj I1 r1 ty;refine⟨T,id,pa,slot,hty,h1,h2,?_⟩;have hA:=ha cpos pins s1 σ H1 _ I1 q1;rw[hs]at hA ⊢;refine Calls.callWith_builtin (by show (false||(backTo cpos (aZ es X.env)).any (·.1))=false;rw[hplain]<;>rfl) (Calls.evalArgs_plain ?_);exact thn hA λus s2 ⟨vs,H2,I2,r2,q2⟩=>hm pins s2 σ H2 x vs v us Q I2 r1 r2 q2
/- xs.append(e), list.index on a module's tuple .. are MtR facts of 06m -/
end
noncomputable def MtM(X:Cx)(id:String)(r:V->List V->Hp->VK->Prop):Prop:=
 ∀(pins:List (Addr×Obj)) (s:af) (σ:St) (H:Hp) (x:V) (xs:List V) (v:ae) (us:List ae) (Q:VK),Inv X pins σ H s->RelV x v->Vals xs us->r x xs H Q ->
  ah (ak X.prog X.w) X.A (call (.builtin id) (v::us)) (EP X pins σ Q) X.xe s
theorem Vals.one{x:V}{us:List ae}(h:Vals [x] us):∃u,us=[u]/\RelV x u:=by
 cases h with
 |cons r h=>cases h;exact⟨_,rfl,r⟩
theorem Vals.two{x y:V}{us:List ae}(h:Vals [x,y] us):∃u v,us=[u,v]/\RelV x u/\RelV y v:=by
 cases h with
 |cons r h=>cases h with
  |cons q h=>cases h;exact⟨_,_,rfl,r,q⟩
theorem Vals.zero:∀{us:List ae},Vals [] us->us=[]
 |_,.nil=>rfl
section
variable{X:Cx}{pins:List (Addr×Obj)}{σ:St}{H:Hp}{s:af}{l b:Addr}{xs ys zs:List V}
theorem Inv.lset{its its':List ae}{n:Nat}{f:Array ae->Array ae}{t':Nat}(I:Inv X pins σ H s)(hH:H l=some (.lst xs))
  (e:s.heap.get? l=some {cls:=.type "list",data:=.seq its.toArray n}) (hf:f its.toArray=its'.toArray) (hv:Vals ys its') (hz:ys.length<=aL) :
  Inv X pins σ (upd H l (.lst ys)) {s with heap:=s.heap.update l (bB f),toks:=t'}:=by
 have q:=PySem.IsL.update e f;rw[hf]at q;refine I.write (x:=l) (e:=l) (by rw[hH];exact trivial) (.inl rfl) (λb' u hb hu=>(Heap.get?_update_other s.heap (bB f) (Ne.symm hb)).trans hu) ⟨_,q⟩ ?_;exact⟨hz,its',_,hv,q⟩
theorem Inv.lnew{its:List ae}{t':Nat}(I:Inv X pins σ H s)(hv:Vals ys its)(hz:ys.length<=aL) :
  Inv X pins σ (upd H s.heap.objs.size (.lst ys)) {s with heap:=s.heap.push {cls:=.type "list",data:=.seq its.toArray},toks:=t'}:=
 I.laid (λ_ _ q=>Heap.get?_push_of_some _ q) (aE _) ⟨hz,its,0,hv,Heap.get?_push_size _ rfl⟩
theorem Inv.fresh(I:Inv X pins σ H s):H s.heap.objs.size=none:=I.hok.fresh (aE _)
theorem Inv.lstM(I:Inv X pins σ H s)(hH:H l=some (.lst xs)):xs.length<=aL/\∃(its:List ae) (n:Nat),Vals xs its/\xs.length=its.length/\s.heap.get? l=some {cls:=.type "list",data:=.seq its.toArray n}:=by
 obtain⟨z,its,n,r,e⟩:=I.hok l _ hH;exact⟨z,its,n,r,r.length,e⟩
end
section
variable{X:Cx}
noncomputable def DV:V->List V->Hp->VK->Prop:=λx vs H Q=>∃l xs y,x=.ref l/\vs=[y]/\H l=some (.lst xs)/\xs.length<aL/\Q .non (upd H l (.lst (xs++[y])))
theorem p5:MtM X "list.append" DV:=by
 intro pins s σ H x vs v us Q I rx rv h;obtain⟨l,xs,y,rfl,rfl,hH,hz,q⟩:=h;cases rx;obtain⟨u,rfl,ru⟩:=rv.one;obtain⟨z,its,n,r,hl,e⟩:=I.lstM hH;refine call_meets F.slot_list_append ⟨_,e,rfl⟩ F.entry_list_append (F.args_list_append_2 _ _) (PySem.list_append l its.toArray n u (by rw[aP];lia)) ⟨e,?_⟩;refine⟨.non,_,I.lset (its':=its++[u]) hH e (by simp) (r.append (.cons ru .nil)) ?_,rfl,q⟩;rw[List.length_append,List.length_singleton];lia
end
section
variable{prog:aB}{w:aw}{A:aC}{E:ae->af->Prop}{s:af}
set_option maxRecDepth 100000 in
end
section
variable{X:Cx}
end
end L2
namespace Att
open PySem PySem.W PySem.Calls PyProof.Rows
theorem xw{P:Params}{h:Heap}:∀(ns:List Int) (vs:List ae),WellAll P h vs (ns.map WData.int)->bq vs ns:=by
 intro ns
 induction ns with
 |nil=>
  intro vs w;rw[List.map_nil]at w;cases w;exact .nil
 |cons n ns ih=>
  intro vs w;rw[aM]at w;cases w with
  |cons a b=>
   cases a;exact .cons _ _ (ih _ b)
theorem Cs{l:OpenLaw}{n:Nat}(hn:l.most=some n){P:Params}{h:Heap}{args:List WData}{vals:List ae}
  (hpre:l.row.toRowW.claim.pre args=true) (hwl:WellAll P h vals args) :
  ∃a vs ns,vals=[bF a]/\args=[WData.list (ns.map WData.int)]/\h.get? a=some {cls:=.type "list",data:=.seq vs.toArray}/\bq vs ns/\ns.length<=n:=by
 have hsh:WShape.hasAll [] args [.list .int]=true:=(pre_splitW hpre).1;have hc:l.pre.holds [] {args:=args}=true:=(pre_splitW hpre).2;obtain⟨d,r,rfl,h1,h2⟩:=hasAllW_cons hsh;obtain rfl:=hasAllW_nil h2;obtain⟨xs,rfl,h3⟩:=hasW_list h1;obtain⟨ns,rfl⟩:=items_int h3;have hlen:ns.length<=n:=by
  unfold OpenLaw.pre at hc;have h4:(WTm.not (.lt (.lit (.int (n:Int))) (.len (.arg 0)))).holds [] {args:=[.list (ns.map .int)]}=true:=by
   have h4:=(holds_andW hc).1;rw[hn]at h4;exact h4
  have h5:=condW_of h4 (w_not (w_lt w_lit (w_len_list (w_arg rfl))));rw[aQ]at h5;refine dA λq=>?_
  have q':(n:Int)<((ns.length:Nat):Int):=by lia
  first
   | (rw[decide_eq_true q']at h5;exact absurd h5 (by decide))
   | (simp at h5;lia)
 cases hwl with
 |cons w1 w2=>
  cases w2;cases w1 with
  |list ho hall=>exact⟨_,_,ns,rfl,rfl,ho,xw ns _ hall,hlen⟩
theorem Aw(l:OpenLaw)(args:List WData):l.row.toRowW.claim.post args (.bool true) args=true:=
 postW_of (r:=l.row.toRowW) (X:=(true==true))
  (show WShape.has [] (.bool true) .bool=true by first|rfl|decide|simp[WShape.has,WShape.arms,WShape.armsAll])
  (show (WTm.eq .res (.lit (.bool true))).value [] {args:=args,res:=some (.bool true),after:=args}=some (.bool (true==true))from w_eq_bool (w_res rfl) w_lit) rfl
theorem Bh{l:OpenLaw}{n:Nat}{q:aB}{loose:List Str}{XP:(Str->Option ae)->Heap->Prop}{YP:aw->Heap->Prop}{d:DefRec}
  (hn:l.most=some n) (hdf:d.params.defaults=[])
  (call:∀(w:aw) (s₀ s₁:af) (mg mb:Str->Option ae) (fa:Addr) (o:Obj) (pm cd doc:ae) (a:Addr) (vs:List ae) (ns:List Int),
   Ground q loose [] XP w s₀ mg mb s₁.heap->YP w s₁.heap ->
   s₁.heap.get? fa=some o->o.data=.func (docDef d.name d.params d.body d.scope pm cd doc)->s₁.heap.CodeRec cd d.name->mg d.name=some (.ref fa) ->
   s₁.heap.get? a=some {cls:=.type "list",data:=.seq vs.toArray}->bq vs ns->ns.length<=n->s₁.gens = #[] ->
   codeAny (ak l.prog w) callerA (.call (.ref fa) ⟨[.ref a],[]⟩) (λr s'=>r=.ok (.ret (.bool true))/\OldK s₁.heap s'.heap/\s'.os=s₁.os/\AllBare s'.gens) s₁) :
  WalkO q loose XP YP l.row.toRowW d [] (λf vs=>PySem.call f vs):=by
 intro w s₀ s₁ mg mb G Y fa o pm cd doc dV kV ho hd hcd hD hmg hg args vals as hpre hlay hrd hwl hlo;obtain rfl:dV=.none:=Dflts.none hD hdf;obtain rfl:kV=.none:=Dflts.noKw hD;obtain⟨a,vs,ns,rfl,rfl,hobj,hints,hlen⟩:=Cs hn hpre hwl;refine enter_call (codeAny_mono (call w s₀ s₁ mg mb fa o pm cd doc a vs ns G Y ho (fd_plain hd) hcd hmg hobj hints hlen hg) λr s' hq=>?_);obtain⟨rfl,h2,h3,h4⟩:=hq;exact⟨.inl ⟨.bool true,.bool true,[],rfl,λ_=>rfl,.bool true,Aw l _,λ_=>⟨List.Pairwise.nil,λ_ hm=>(nomatch hm)⟩⟩,h2,h3,h4⟩
section
variable{prog:aB}{w:aw}{A:aC}{E:ae->af->Prop}{s:af}{K:Frag}
end
end Att
namespace L2
open PySem PySem.Spec PyProof.Rows
theorem pQ:∀{vs:List ae}{ns:List Int},bq vs ns->Vals (ns.map V.int) vs
 |_,_,.nil=>.nil
 |_,_,.cons n t h=>.cons ⟨t,rfl⟩ (pQ h)
noncomputable def mH(H:Hp):Prop:=∀b,H b=none\/∃o xs,H b=some (.frz o (.lst xs))
theorem uS{P:aB}{w:aw}{K:ax}{mg mb:Str->Option ae}{CX:CXT}{k:Nat}{fa a:Addr}{fd:bI}{x:Str}{sp:Sp}{s₁:af}{vs:List ae}{ns:List Int}
  (KX:K.In s₁.heap) (hns:s₁.heap.Ns ar mg) (hb:s₁.heap.Ns builtinsNs mb) (hbb:∀x:Str,x≠"__name__"->mb x=bO x) (hlim:s₁.heap.NoLimit) (hg:s₁.gens = #[])
  (ha:s₁.heap.get? a=some {cls:=.type "list",data:=.seq vs.toArray}) (hi:bq vs ns) (hl:ns.length<=aL) (hr:ck k callerA)
  (F:∀base:Heap,K.In base->base.Ns ar mg->fN P w K mg base CX k fa fd [x] sp) (hbind:∀(s:af) (u:ae),BindsTo s fd ⟨[u],[]⟩ [(x,u)])
  (hsp:∀H:Hp,mH H->SqL K H a (ns.map V.int)->sp [.ref a] H (λv _=>v=.bl true) λ_ _ _=>False)
  (hCX:∀H e s',CX [] H s₁ (λ_ _ _=>False) e s'->False) :
  codeAny (ak P w) callerA (.call (.ref fa) ⟨[.ref a],[]⟩) (λr s'=>r=.ok (.ret (.bool true))/\OldK s₁.heap s'.heap/\s'.os=s₁.os/\AllBare s'.gens) s₁:=by
 have rv:=pQ hi;have lenV:=hi.length
 -- from an abstract heap in which nothing but the script may be tracked
 have core:∀H:Hp,mH H->SqL K H a (ns.map V.int)->HOk P w H s₁.heap->(∀b,H b≠none->b=a)->(H a≠none->K.lookup a=none) ->
   codeAny (ak P w) callerA (.call (.ref fa) ⟨[.ref a],[]⟩) (λr s'=>r=.ok (.ret (.bool true))/\OldK s₁.heap s'.heap/\s'.os=s₁.os/\AllBare s'.gens) s₁:=by
  intro H hO hS hok hA hK;have base_of:∀{b:Addr}{o:Obj},s₁.heap.get? b=some o->H b=none->(fo s₁.heap H).get? b=some o:=λe n=>vF e n
  have noA:∀{b:Addr}{o:Obj}{es:Array DictEntry}{ep:Nat},s₁.heap.get? b=some o->o.data=.dict es ep->H b=none:=λ{b o es ep} e d=>by
   cases q:H b with
   |none=>rfl
   |some u=>
    have e':b=a:=hA b (by rw[q];simp);subst e';rw[ha]at e;cases e;have d':Data.seq vs.toArray _=Data.dict es ep:=d;cases d'
  have nsK:∀{b:Addr}{m:Str->Option ae},s₁.heap.Ns b m->(fo s₁.heap H).Ns b m:=λ{b m} ⟨o,es,ep,e,d,r⟩=>⟨o,es,ep,base_of e (noA e d),d,r⟩
  have hKb:K.In (fo s₁.heap H):=λb o e=>base_of (KX b o e) (by
   cases q:H b with
   |none=>rfl
   |some u=>
    have e':b=a:=hA b (by rw[q];simp);subst e';rw[hK (by rw[q];simp)]at e;cases e)
  have hM:Mod K mg (fo s₁.heap H):=⟨hKb,nsK hns,⟨mb,nsK hb,hbb⟩,let ⟨mc,h1,h2⟩:=hlim;⟨mc,nsK h1,h2⟩⟩
  have e0:f_ P w K mg (fo s₁.heap H) callerA [] s₁ H:=⟨rfl,hM,λb o e=>y8 e,Nat.le_of_eq (AJ _ _),trivial,λb hb=>absurd (show b∈([]:List Addr)from hb) (by simp),hok,.of_eq hg⟩
  refine codeAny_mono ((F _ hKb (nsK hns)).run callerA [] s₁ H ⟨[.ref a],[]⟩ [.ref a] [.ref a] _ _ hr e0 (hbind s₁ (.ref a)) (.cons rfl .nil) (hsp H hO hS)) λr s' h=>?_
  cases r with
  |error e=>exact(hCX H e s' h).elim
  |ok fl=>
   cases fl with
   |next=>exact a9 h
   |brk=>exact a9 h
   |cont=>exact a9 h
   |ret u=>
    obtain⟨v,H',os,bare,un,hok',r',q⟩:=h;have q':v=.bl true:=q;subst q';obtain rfl:u=bH true:=r';refine⟨rfl,OldK.of_keep λb o e=>?_,os,bare⟩;cases q:H b with
    |none=>exact un.keep b o e q (by intro z;exact absurd (show b∈([]:List Addr)from z) (by simp)) (by simp)
    |some u=>
     rcases hO b with z|⟨ob,xs,z⟩
     ·rw[q]at z;cases z
     ·have z2:=un.frzs b ob _ z;obtain⟨e1,_⟩:=hok b _ z;obtain⟨e2,_⟩:=hok' b _ z2;rw[e]at e1;cases e1;exact e2
 cases hk:K.lookup a with
 |some o=>
  -- the script is one of the module's own objects
  have e:=KX a o hk;rw[ha]at e;cases e;refine core (λ_=>none) (λ_=>.inl rfl) (.inr ⟨_,vs.toArray,_,hk,rfl,rfl,rfl,by rw[aP,lenV];exact hl,by simpa using rv⟩) (λb u z=>by have z':(none:Option HO)=some u:=z;cases z') (λb z=>absurd rfl z) λz=>absurd rfl z
 |none=>
  refine core (λb=>if b=a then some (.frz {cls:=.type "list",data:=.seq vs.toArray} (.lst (ns.map V.int)))else none) (λb=>?_) (.inl (.inr ⟨{cls:=.type "list",data:=.seq vs.toArray},if_pos rfl⟩)) (λb u z=>?_) (λb z=>?_) λ_=>hk
  ·by_cases hb:b=a
   ·exact .inr ⟨_,_,if_pos hb⟩
   ·exact .inl (if_neg hb)
  ·by_cases hb:b=a
   ·have z':=(if_pos hb).symm.trans z;cases z';subst hb;exact⟨ha,by rw[aQ];exact hl,vs,_,rv,ha⟩
   ·have z':=(if_neg hb).symm.trans z;cases z'
  ·by_cases hb:b=a
   ·exact hb
   ·exact absurd (if_neg hb) z
theorem xU{l:PySem.W.OpenLaw}{n k:Nat}{q:aB}{loose:List Str}{XP:(Str->Option ae)->Heap->Prop}{YP:aw->Heap->Prop}{d:DefRec}{K:Params->ax}{CX:aw->CXT}{sp:aw->Sp}{x:Str}
  (hn:l.most=some n) (hn2:n<=aL) (hdf:d.params.defaults=[]) (hr:ck k callerA)
  (hY:∀(w:aw) (h:Heap),YP w h->(K w.params).In h)
  (F:∀(w:aw) (mg:Str->Option ae) (fa:Addr) (h:Heap),(K w.params).In h->h.Ns ar mg->mg d.name=some (.ref fa) ->
   ∃fd:bI,(∀(s:af) (u:ae),BindsTo s fd ⟨[u],[]⟩ [(x,u)]) /\
    ∀base:Heap,(K w.params).In base->base.Ns ar mg->fN l.prog w (K w.params) mg base (CX w) k fa fd [x] (sp w))
  (hsp:∀(w:aw) (H:Hp) (a:Addr) (ns:List Int),ns.length<=n->mH H->SqL (K w.params) H a (ns.map V.int)->sp w [.ref a] H (λv _=>v=.bl true) λ_ _ _=>False)
  (hCX:∀(w:aw) (H:Hp) (s:af) (e:ae) (s':af),CX w [] H s (λ_ _ _=>False) e s'->False) :
  PySem.W.WalkO q loose XP YP l.row.toRowW d [] (λf vs=>PySem.call f vs):=by
 refine Att.Bh hn hdf λw s₀ s₁ mg mb fa o pm cd doc a vs ns G Y ho hd hcd hmg hobj hints hlen hg=>?_
 have KX:=hY w _ Y;obtain⟨fd,hb,hF⟩:=F w mg fa _ KX G.T.g hmg;exact uS KX G.T.g G.T.b G.T.builtins G.T.nolimit hg hobj hints (bf hlen hn2) hr hF hb (λH hO hS=>hsp w H a ns hlen hO hS) λH e s'=>hCX w H s₁ e s'
end L2
/- THE LAST THEOREM (shape; LID, My.* are yours):
   My.Adr: a structure of the addresses that your layer names (classes, functions); My.Txt K t: a structure (Prop) of the equations over K;
   My.txt_mk : {K} {implicit addresses ..} (e1 : nsIn K mainGlobals "law" = some (some (.ref f))) (e2 : K.lookup f = some ⟨oc, od, .func (fnOf "law" "law" params body scope dV kV doc pm an cdv ct), sl⟩) (e3 : codeIn K cdv "law" = true) .. : ∃ t, My.Txt K t
set_option maxRecDepth 100000 in
set_option maxHeartbeats 0 in
theorem PySem.Challenge.cw_LID_holds : PySem.Challenge.rw_LID.Holds := by
 w_on; o_law; k_head; (case hw => w_witness2)
 k_fill
 refine L2.walk_of (l := PySem.Challenge.rw_LID) (n := 63) (k := 40) (x := "script") (CX := fun w => ..) (sp := fun _ => My.sp_law) rfl (by decide) rfl ⟨rfl, by decide, by decide⟩ (fun w h Y => PySem.W.kIn_of Y) ?F ?S ?C
 case F =>
  intro w mg fa h KX G hmg;have T : ∃ t, My.Txt (L2.KOf KX) t := by
   dsimp only [L2.KOf]                          -- K must stand as «<heap const> w.params» for k_is
   refine' My.txt_mk ?e1 ?e2 ?e3 ..
   (case e1 => PySem.W.k_is)                    -- in the order: a name -> its address -> its object -> its parts
   (case e2 => PySem.W.k_is)
   ..
  obtain ⟨t, T⟩ := T;have e0 := hmg.symm.trans (PySem.W.mg_of KX G T.law);cases e0                                       -- fa is the law's own address
  exact ⟨_, fun s u => .of_eq rfl, fun base kb nb => My.law_fn T kb nb⟩     -- if «.of_eq rfl» comes too early: refine' ⟨_, ?b, fun base kb nb => My.law_fn T kb nb⟩; exact fun s u => .of_eq rfl
 case S => exact fun w H a ns hl hO hS => ..
 case C => exact ..
(the tactic k_is has no namespace: write k_is) -/
namespace L2
open PySem PySem.Spec PyProof.Rows
noncomputable def zd(s:Stmt):Arguments:=match s with
 | .FunctionDef _ a _ _ _ _ _ _ _ _=>a
 |_=>{posonlyargs:=[],args:=[],vararg:=none,kwonlyargs:=[],kw_defaults:=[],kwarg:=none,defaults:=[]}
noncomputable def dR(s:Stmt):List Stmt:=match s with
 | .FunctionDef _ _ b _ _ _ _ _ _ _=>b
 |_=>[]
noncomputable def zc(s:Stmt):Scope:=match s with
 | .FunctionDef _ _ _ _ _ _ sc _ _ _=>sc
 |_=>{kind:=.function,names:=[],isGenerator:=false,isCoroutine:=false}
abbrev E0:XK:=λ_ _ _=>False
structure Fun(K:ax)(x qual:Str)(st:Stmt)(f:Addr)(fd:bI):Prop where
 ex:∃(oc:ae) (od:Option Addr) (kV doc pm:ae) (an:Option Addr) (cdv ct:ae) (osl:Array (Option ae)),
  fd=b7 x qual (zd st) (dR st) (zc st) .none kV doc pm an cdv ct/\K.lookup f=some ⟨oc,od,.func fd,osl⟩/\PySem.W.codeIn K cdv qual=true
 kp:cx K (.ref f)=true
section
variable{P:aB}{w:aw}{K:ax}{mg:Str->Option ae}{base:Heap}
theorem Fun.binds{x qual:Str}{st:Stmt}{f:Addr}{fd:bI}{ps:List Str}(F:Fun K x qual st f fd)
  (h:∀(kV doc pm:ae) (an:Option Addr) (cdv ct:ae) (us:List ae),us.length=ps.length->bindArgs (b7 x qual (zd st) (dR st) (zc st) .none kV doc pm an cdv ct) ⟨us,[]⟩=pure (ps.zip us)):Binds K fd ps []:=by
 obtain⟨oc,od,kV,doc,pm,an,cdv,ct,osl,rfl,lk,hcd⟩:=F.ex;exact .all (h kV doc pm an cdv ct)
theorem pC{x qual:Str}{st:Stmt}{f:Addr}{oc:ae}{od an:Option Addr}{osl:Array (Option ae)}{kV doc pm cdv ct:ae}(l:K.lookup f=some ⟨oc,od,.func (b7 x qual (zd st) (dR st) (zc st) .none kV doc pm an cdv ct),osl⟩)
  (c:PySem.W.codeIn K cdv qual=true) (k:cx K (.ref f)=true):Fun K x qual st f (b7 x qual (zd st) (dR st) (zc st) .none kV doc pm an cdv ct):=⟨⟨oc,od,kV,doc,pm,an,cdv,ct,osl,rfl,l,c⟩,k⟩
end
section
variable{X:Cx}
end
noncomputable def qh(H H':Hp):Prop:=∀b o,H b=some o->H' b=some o
theorem qh.refl(H:Hp):qh H H:=λ_ _ h=>h
theorem qh.trans{H H1 H2:Hp}(a:qh H H1)(b:qh H1 H2):qh H H2:=λc o h=>b c o (a c o h)
theorem qh.free{H H':Hp}(e:qh H H'){l:Addr}(h:H' l=Option.none):H l=Option.none:=by
 cases q:H l with
 |none=>rfl
 |some o=>
  rw[e l o q]at h;cases h
theorem qh.seq{K:ax}{H H':Hp}{a:Addr}{xs:List V}(e:qh H H')(h:SqL K H a xs):SqL K H' a xs:=by
 rcases h with (h|⟨o,h⟩)|h
 ·exact .inl (.inl (e _ _ h))
 ·exact .inl (.inr ⟨o,e _ _ h⟩)
 ·exact .inr h
noncomputable def fv(elt:Expr)(gens:List cy)(scope:aY)(pos:Pos)(d:Nat)(acc:ae)(env:Env):Sem Unit:=
 match gens[d+1]? with
 |some g'=>do
  let x <-eval g'.iter env
  standAt g'.iter.pos
  let x <-foldedSetIterable g'.iter env x
  let _ <-runOwn (.compStart (.ListComp elt gens scope pos) (d+1) (<-holding [x] (pyIter x)) acc env) env
  pure ()
 |none=>do
  let _ <-call (.builtin "list.append") [acc,<-eval elt env]
  pure ()
theorem xr{elt:Expr}{gens:List cy}{scope:aY}{pos:Pos}{d:Nat}{g:cy}{it acc:ae}{env:Env}(hg:gens[d]? = some g)(ha:g.is_async=0)
  (hn:∀g',gens[d+1]? = some g'->g'.is_async=0) :
  compTurn (.ListComp elt gens scope pos) d it acc env=(do
   standAt g.iter.pos
   match <-pyNext it with
   |none=>pure (.done .next)
   |some v=>
    letOwnedTupleGo g.target it v
    assign g.target env v
    let ok <-(forIn g.ifs true λc r=>if r=true then do let ok <-isTrue c env (eval c env);pure (dE ok)else pure (dE r))
    if ok then
     fv elt gens scope pos d acc env
     again (.compLoop (.ListComp elt gens scope pos) d it acc env)
    else again (.compLoop (.ListComp elt gens scope pos) d it acc env)):=by
 unfold compTurn;cases e:gens[d+1]? with
 |none=>
  simp only[hg,ha,e,fv]
  rfl
 |some g'=>
  have ha':=hn g' e;simp only[hg,ha,e,ha',fv];simp only[bne_self_eq_false,aR,if_false,bind_assoc,pure_bind]
  rfl
theorem xA{prog:aB}{w:aw}{A:aC}{R:Result->af->Prop}{s:af}{elt:Expr}{gens:List cy}{scope:aY}{pos:Pos}{d:Nat}{g:cy}{it acc:ae}{env:Env}
  (hg:gens[d]? = some g) (ha:g.is_async=0)
  (h0:codeAny (ak prog w) A (.compLoop (.ListComp elt gens scope pos) d it acc env) R s)
  (h:ah (ak prog w) A (pyIter it) (λit' s'=>codeAny (ak prog w) A (.compLoop (.ListComp elt gens scope pos) d it' acc env) R s')
   (notedBy (ak prog w) A env λx s'=>R (.error x) s') s) :
  codeAny (ak prog w) A (.compStart (.ListComp elt gens scope pos) d it acc env) R s:=by
 refine codeAny_of_tree ?_;show ah _ _ ((compStart (.ListComp elt gens scope pos) d it acc env).onRaise (λx=>do noteFrame x env;standAt theWindowsPlace)) _ _ s;refine wpAny_notedAt ?_;unfold compStart;have e2:(clausesOf (.ListComp elt gens scope pos))[d]? = some g:=hg;simp only[e2];rw[if_neg (by show ¬ (g.is_async != 0)=true;simp[ha])];show ah _ _ (ask>>=_) _ _ s;refine ag (wpAny_askSetting (wpAny_ite ?_));split
 ·first
   |exact ag (aq (aq (ay rfl h0)))
   |exact aq (ay rfl h0)
 ·first
   |exact ag (wpAny_rule (ag (wpAny_standAt (ag (bT h (λit' s' h'=>aq (ay rfl h')) λ_ _ x=>x)))))
   | (refine ag (wpAny_rule ?_);show ah _ _ (standAt g.iter.pos>>=_) _ _ s;exact ag (wpAny_standAt (ag (bT h (λit' s' h'=>aq (ay rfl h')) λ_ _ x=>x))))
noncomputable def PTs(Y:Cx)(ifs:List Expr)(t:TT):Prop:=
 ∀(pins:List (Addr×Obj)) (s:af) (σ:St) (H:Hp) (Q:Bool->Hp->Prop),Inv Y pins σ H s->t σ H Q ->
  ah (ak Y.prog Y.w) Y.A (forIn ifs true λc r=>if r=true then do let ok <-isTrue c Y.env (eval c Y.env);pure (dE ok)else pure (dE r)) (TP Y pins σ Q) Y.xe s
noncomputable def wX:TT:=λ_ H Q=>Q true H
theorem Fc{Y:Cx}:PTs Y [] wX:=λ_ _ _ H _ I h=>wpAny_tests_nil ⟨H,I,h⟩
theorem yb{Y:Cx}{c:Expr}{t:TT}(hc:PT Y c t):PTs Y [c] t:=λpins s σ H Q I h=>wpAny_tests_one (hc pins s σ H Q I h)
noncomputable def PB(Y:Cx)(m:Sem Unit)(t:TS):Prop:=
 ∀(pins:List (Addr×Obj)) (s:af) (σ:St) (H:Hp) (D:Ends),Inv Y pins σ H s->t D σ H ->
  ah (ak Y.prog Y.w) Y.A m (λ_ s'=>∃σ' H',Inv Y pins σ' H' s'/\D.nx σ' H') Y.xe s
section
variable{Y:Cx}{elt:Expr}{gens:List cy}{scope:aY}{pos:Pos}{d:Nat}
noncomputable def jN(acc:Addr)(te:TE):TS:=λD σ H=>te σ H λy H1=>∃xs,H1 acc=some (.lst xs)/\xs.length<aL/\D.nx σ (upd H1 acc (.lst (xs++[y])))
theorem nk{acc:Addr}{te:TE}(hn:gens[d+1]? = none)(he:PE Y elt te):PB Y (fv elt gens scope pos d (.ref acc) Y.env) (jN acc te):=by
 intro pins s σ H D I h;unfold fv;rw[hn];refine ag (thn (he pins s σ H _ I h) λu s1 ⟨y,H1,I1,r1,xs,hx,hz,q⟩=>?_);refine ag (thn (p5 pins s1 σ H1 (.ref acc) [y] (.ref acc) [u] (λ_ H'=>D.nx σ H') I1 rfl (.cons r1 .nil) ⟨acc,xs,y,rfl,rfl,hx,hz,q⟩) λ_ s2 ⟨_,H2,I2,_,q2⟩=>?_);exact aq ⟨σ,H2,I2,q2⟩
theorem AG{g:cy}{it:Addr}{acc:ae}{fp:List Addr}{tn:Nat->Heap->Prop}{J:It}{tg:TG}{tt:TT}{tb:TS}(hc:Y.calm=true)(hx:∀e s,¬ Y.xe e s)(hg:gens[d]? = some g)(ha:g.is_async=0)
  (hn:∀g',gens[d+1]? = some g'->g'.is_async=0) (T:Turn Y.prog Y.w Y.K g.target J fp it tn) (pg:PG Y g.target tg) (pt:PTs Y g.ifs tt) (pb:PB Y (fv elt gens scope pos d acc Y.env) tb)
  {pins:List (Addr×Obj)}{s:af}{σ:St}{H:Hp}{D:Ends} (I:Inv Y pins σ H s) (st:tn 0 s.heap) (fr:∀b∈fp,dJ Y pins H b)
  (h:∃W:Nat->Nat->St->Hp->Prop,(∃m,W 0 m σ H)/\∀i m σ H,W i m σ H ->
   (J.stop i H/\D.nx σ H)\/(J.go i H/\∃N:St->Hp->Prop,(∀σ' H',N σ' H'->∃m',m'<m/\W (i+1) m' σ' H')/\∀x H',J.yld i H x H'->tg x σ H' λσ2 H2=>jA tt tb iX {D with nx:=N,ct:=N,bk:=D.nx} σ2 H2)) :
  codeAny (ak Y.prog Y.w) Y.A (.compLoop (.ListComp elt gens scope pos) d (.ref it) acc Y.env) (λr s'=>r=.ok .next/\∃σ' H',Inv Y pins σ' H' s'/\D.nx σ' H') s:=by
 obtain⟨W,⟨m0,w0⟩,turn⟩:=h;have stat:∀{H':Hp},(∀b∈fp,H' b=none)->∀b∈fp,dJ Y pins H' b:=λhn b hb=>⟨hn b hb,(fr b hb).2⟩
 refine codeAny_loop rfl (λn s'=>∃i σ' H',Inv Y pins σ' H' s'/\tn i s'.heap/\(∀b∈fp,H' b=none)/\W i n σ' H') ?_ m0 ⟨0,σ,H,I,st,λb hb=>(fr b hb).1,w0⟩;rintro n s3 ⟨i,σ3,H3,I3,st3,fr3,w3⟩;show ah _ Y.A ((compTurn (.ListComp elt gens scope pos) d (.ref it) acc Y.env).onRaise (λx=>do noteFrame x Y.env;theTreesLotGoes x)) _ _ s3;refine wpAny_noted ?_;rw[xr hg ha hn];have nox:∀{E:ae->af->Prop} (e:ae) (s:af),Y.xe e s->E e s:=λe s z=>absurd z (hx e s)
 refine ag (wpAny_standAt ?_);rcases turn i n σ3 H3 w3 with ⟨stop,qn⟩|⟨go,N,hN,step⟩
 ·refine ag (thn (T.done Y rfl rfl rfl hc i pins s3 σ3 H3 _ I3 (stat fr3) st3 stop) λr s4 ⟨hr,I4⟩=>?_);subst hr;exact aq ⟨rfl,σ3,H3,I4,qn⟩
 ·refine ag (thn (T.item Y rfl rfl rfl hc i pins s3 σ3 H3 _ I3 (stat fr3) st3 go) λr s4 ⟨u,hr,h4⟩=>?_);subst hr;refine ag (thn h4 λ_ s5 ⟨x,H5,I5,r5,y5,st5,fr5⟩=>?_);have I5':=I5.pinned (stat fr5) (T.obj _ _ st5);refine ag (bT (pg _ s5 σ3 H5 x u _ I5' r5 (step x H5 y5)) (λ_ s6 ⟨σ6,H6,I6,q6⟩=>?_) nox);have again:∀{s7:af}{σ7:St}{H7:Hp},Inv Y (pins++ij fp s5.heap) σ7 H7 s7->N σ7 H7->∃m,m<n/\∃i σ' H',Inv Y pins σ' H' s7/\tn i s7.heap/\(∀b∈fp,H' b=none)/\W i m σ' H':=λ{s7 σ7 H7} I7 n7=>by
   obtain⟨m',hm,w7⟩:=hN σ7 H7 n7;refine⟨m',hm,i+1,σ7,H7,I7.unpinned,T.keep _ _ _ st5 λb hb o e=>(I7.pin (b,o) (cc _ (cc _ (jD hb e)))).1,λb hb=>?_,w7⟩;obtain⟨o,e,d⟩:=T.obj _ _ st5 b hb;exact(I7.pin (b,o) (cc _ (cc _ (jD hb e)))).2.1
  refine ag (bT (pt _ s6 σ6 H6 _ I6 q6) (λb s7 ⟨H7,I7,q7⟩=>?_) nox);cases b with
  |true=>
   rw[if_pos rfl];rw[if_pos rfl]at q7;refine ag (bT (pb _ s7 σ6 H7 _ I7 q7) (λ_ s8 ⟨σ8,H8,I8,q8⟩=>?_) nox);exact aq ⟨rfl,again I8 q8⟩
  |false=>
   rw[if_neg cf];rw[if_neg cf]at q7;exact aq ⟨rfl,again I7 q7⟩
end
theorem kF{env:Env}:∀{names:List (Str×aU)}{cs:List (Str×Addr)},(∀x∈names,x.2=.free->∃c,env.cells.lookup x.1=some c) ->
  ∃cl,(forIn names cs (λ(x:Str×aU) (cs:List (Str×Addr))=>if (x.2==b6)=true then do let c <-cellOf env x.1;pure (dE ((x.1,c)::cs))else pure (dE cs)):Sem (List (Str×Addr)))=pure cl /\
   (∀x c,cl.lookup x=some c->env.cells.lookup x=some c\/cs.lookup x=some c)/\(∀x,(∃c,cs.lookup x=some c)->∃c,cl.lookup x=some c)/\∀x∈names,x.2=.free->∃c,cl.lookup x.1=some c
 | [],cs,_=>⟨cs,by rw[List.forIn_nil],λ_ _ h=>.inr h,λ_ h=>h,λ_ h=>nomatch h⟩
 | (n,k)::r,cs,h=>by
  rw[List.forIn_cons];by_cases hk:k=.free
  ·subst hk;obtain⟨c,hc⟩:=h (n,.free) aO rfl;have e:cellOf env n=pure c:=by
    have hc':env.cells.lookup n=some c:=hc;unfold cellOf;rw[hc']
   obtain⟨cl,e1,e2,e3,e4⟩:=kF (names:=r) (cs:=(n,c)::cs) λx hx=>h x (aK _ hx)
   refine⟨cl,?_,λx c' q=>?_,λx q=>e3 x ?_,λx hx hf=>?_⟩
   ·simp only[beq_self_eq_true,if_true,e,pure_bind];exact e1
   ·rcases e2 x c' q with z|z
    ·exact .inl z
    ·rw[bw]at z;by_cases hxn:(x==n)=true
     ·rw[hxn]at z;have:x=n:=by simpa using hxn
      subst this;cases z;exact .inl hc
     ·have hxn':(x==n)=false:=by simpa using hxn
      rw[hxn']at z;exact .inr z
   ·rw[bw];by_cases hxn:(x==n)=true
    ·rw[hxn];exact⟨c,rfl⟩
    ·have hxn':(x==n)=false:=by simpa using hxn
     rw[hxn'];exact q
   ·rcases aG.mp hx with z|z
    ·subst z;exact e3 n ⟨c,by rw[bw,beq_self_eq_true]⟩
    ·exact e4 x z hf
  ·have hk':(k==b6)=false:=by simpa using hk
   obtain⟨cl,e1,e2,e3,e4⟩:=kF (names:=r) (cs:=cs) λx hx=>h x (aK _ hx)
   refine⟨cl,?_,e2,e3,λx hx hf=>?_⟩
   ·simp only[hk',aR,if_false,pure_bind];exact e1
   ·rcases aG.mp hx with z|z
    ·subst z;exact absurd hf hk
    ·exact e4 x z hf
theorem rW{env:Env}{scope:aY}(h:∀x∈scope.names,x.2=.free->∃c,env.cells.lookup x.1=some c) :
  ∃cl,closureFor scope env=pure cl/\(∀x c,cl.lookup x=some c->env.cells.lookup x=some c)/\∀x∈scope.names,x.2=.free->∃c,cl.lookup x.1=some c:=by
 obtain⟨cl,e1,e2,_,e4⟩:=kF (env:=env) (names:=scope.names) (cs:=[]) h;refine⟨cl,?_,λx c q=>(e2 x c q).elim (λz=>z) (λz=>by simp at z),e4⟩;have e:closureFor scope env=(forIn scope.names [] (λ(x:Str×aU) (cs:List (Str×Addr))=>if (x.2==b6)=true then do let c <-cellOf env x.1;pure (dE ((x.1,c)::cs))else pure (dE cs))>>=λcs=>pure cs):=rfl;rw[e,e1,pure_bind]
theorem jI{env:Env}:∀{names:List (Str×aU)}{x:Str}{k:aU},
  (names.map λ(n,k)=>if (k==b6&&env.scope.kind==.function&&env.kindOf n==some .cell)then (n,aU.cell)else (n,k)).lookup x=some k ->
  names.lookup x=some k\/(k=.cell/\names.lookup x=some .free)
 | [],_,_,h=>by simp at h
 | (n,k')::r,x,k,h=>by
  have ih:=@jI env r x k;have h':List.lookup x ((if (k'==b6&&env.scope.kind==.function&&env.kindOf n==some .cell)=true then (n,aU.cell)else (n,k'))::r.map (λ(n,k)=>if (k==b6&&env.scope.kind==.function&&env.kindOf n==some .cell)then (n,aU.cell)else (n,k)))=some k:=h;cases hx:x==n with
  |true=>
   by_cases hc:(k'==b6&&env.scope.kind==.function&&env.kindOf n==some .cell)=true
   ·rw[if_pos hc]at h';simp only[bw,hx]at h';cases h';have:k'=.free:=by
     have z:(k'==b6)=true:=by
      cases q:(k'==b6)with
      |true=>rfl
      |false=>rw[q]at hc;simp at hc
     simpa using z
    subst this;exact .inr ⟨rfl,by simp[bw,hx]⟩
   ·rw[if_neg hc]at h';simp only[bw,hx]at h';cases h';exact .inl (by simp[bw,hx])
  |false=>
   have h2:(r.map (λ(n,k)=>if (k==b6&&env.scope.kind==.function&&env.kindOf n==some .cell)then (n,aU.cell)else (n,k))).lookup x=some k:=by
    by_cases hc:(k'==b6&&env.scope.kind==.function&&env.kindOf n==some .cell)=true
    ·rw[if_pos hc]at h';simpa only[bw,hx]using h'
    ·rw[if_neg hc]at h';simpa only[bw,hx]using h'
   rcases ih h2 with z|z
   ·exact .inl (by simpa only[bw,hx]using z)
   ·exact .inr ⟨z.1,by simpa only[bw,hx]using z.2⟩
noncomputable def iV(names:List (Str×aU)):List Str:=(names.filter λy=>y.2==.cell).map (·.1)
theorem lL:∀(names:List (Str×aU)) (n:Nat) (a b:List (Str×Addr)),bh n names (a++b)=bh n names a++b
 | [],_,_,_=>rfl
 | (x,k)::r,n,a,b=>by
  unfold bh;split
  ·exact lL r (n+1) ((x,n)::a) b
  ·exact lL r n a b
theorem md{x:Str}{c:Addr}:∀{names:List (Str×aU)}{n:Nat}{a:List (Str×Addr)},(x,c)∈bh n names a->(x,c)∈a\/(x,aU.cell)∈names
 | [],_,_,h=>.inl h
 | (y,k)::r,n,a,h=>by
  unfold bh at h;split at h
  ·rename_i hk
   rcases md h with z|z
   ·rcases aG.mp z with q|q
    ·have hk:k=.cell:=by simpa using hk
     cases q;exact .inr (by rw[hk];exact aO)
    ·exact .inl q
   ·exact .inr (aK _ z)
  ·rcases md h with z|z
   ·exact .inl z
   ·exact .inr (aK _ z)
theorem Av{M:Model}{A:aC}{E:ae->af->Prop}{s:af}{scope:aY}{globals:Addr}{cl:List (Str×Addr)}{qual:Str}{env:Env}{Q:Env->af->Prop}
  (hQ:∀h₁,h₁.Ns s.heap.objs.size (λ_=>none)->(∀b o,s.heap.get? b=some o->h₁.get? b=some o)->CellsOk h₁ (s.heap.objs.size+1) (bh (s.heap.objs.size+1) scope.names []) ->
   Q (newEnv scope s.heap.objs.size globals (bh (s.heap.objs.size+1) scope.names []++cl) qual none .none (some env) builtinsNs) {s with heap:=h₁}) :
  ah M A (newFunctionEnv scope globals cl [] qual none .none (some env)) Q E s:=by
 simp only[newFunctionEnv,Option.isSome_some,if_true];refine ag (wpAny_alloc ?_);refine ag (wpAny_layCells _ (λname kind cells=>by cases hkc:kind==aU.cell<;>simp[hkc]) _ _ _ _ ?_);have ok:=cellsFrom_ok scope.names (s.heap.push {cls:=.type "dict",data:=.dict #[]}) (s.heap.objs.size+1) [] ⟨λ_ _ hm=>(nomatch hm),List.Pairwise.nil⟩ (by rw[bC];exact aE _);rw[bC]at ok;rw[show ({s with heap:=s.heap.push {cls:=.type "dict",data:=.dict #[]}}:af).heap.objs.size=s.heap.objs.size+1 from bC ..];rw[show cl=[]++cl from rfl,lL];rw[List.forIn_nil];exact ag (aq (aq (hQ _ ((Heap.Ns.new s.heap (.type "dict")).keeps (pushCells_keeps _ _)) (λb o e=>pushCells_keeps _ _ b o (Heap.get?_push_of_some _ e)) ok)))
noncomputable def zL(X:Cx)(NY:List Str)(scope:aY)(cl:List (Str×Addr))(C:Addr)(s₀:af)(H₀:Hp)(fp:List Addr):Cx where
 prog:=X.prog
 w:=X.w
 K:=X.K
 mg:=X.mg
 base:=X.base
 A:=X.A
 N:=NY
 s₀:=s₀
 H₀:=H₀
 env:=compEnvC scope (bh (C+1) scope.names []++cl) C X.env
 outer:=X.stack
 stack:=X.stack
 ex:=fp
 fn:=λx=>(iV scope.names).contains x
 calm:=X.calm
 pn:=[]
 xe:=λ_ _=>False
noncomputable def caps(cap:List (Option Nat))(σ:St):St:=cap.map λo=>o.bind λj=>(σ[j]?).join
noncomputable def pU(X:Cx)(NY:List Str)(cap:List (Option Nat))(scope:aY):Prop:=
 cap.length=NY.length/\∀(i j:Nat),cap[i]? = some (some j)->∃x,NY[i]? = some x/\X.N[j]? = some x/\scope.names.lookup x=some .free/\(X.env.kindOf x=some .cell\/X.env.kindOf x=some .free)
structure eB(X:Cx)(NY:List Str)(cap:List (Option Nat))(scope:aY):Prop where
 kind:scope.kind=.function
 cells:∀y∈scope.names,y.2=.cell->scope.names.lookup y.1=some .cell
 names:∀y∈scope.names,y.2=.local->scope.names.lookup y.1=some .local
 free:∀y∈scope.names,y.2=.free->X.env.kindOf y.1=some .cell\/X.env.kindOf y.1=some .free
 cap:pU X NY cap scope
theorem xE{cap:List (Option Nat)}{σ:St}{i:Nat}{v:V}(h:(caps cap σ)[i]? = some (some v)):∃j,cap[i]? = some (some j)/\σ[j]? = some (some v):=by
 unfold caps at h;rw[List.getElem?_map]at h;cases e:cap[i]? with
 |none=>rw[e]at h;simp at h
 |some o=>
  rw[e]at h;cases o with
  |none=>simp at h
  |some j=>
   refine⟨j,rfl,?_⟩;have h':(σ[j]?).join=some v:=by simpa using h
   cases q:σ[j]? with
   |none=>rw[q]at h';cases h'
   |some z=>rw[q]at h';exact congrArg some h'
theorem uj{X:Cx}{pins:List (Addr×Obj)}{σ:St}{H:Hp}{s:af}{NY:List Str}{cap:List (Option Nat)}{scope:aY}{cl:List (Str×Addr)}{fp:List Addr}{h₁:Heap}{m:Str->Option ae}
  (I:Inv X pins σ H s) (S:eB X NY cap scope) (hsub:∀x c,cl.lookup x=some c->X.env.cells.lookup x=some c) (hall:∀x∈scope.names,x.2=.free->∃c,cl.lookup x.1=some c)
  (hf:∀b∈fp,dJ X pins H b) (hlt:∀b∈fp,b<s.heap.objs.size) (hn:h₁.Ns s.heap.objs.size m) (hk:∀b o,s.heap.get? b=some o->h₁.get? b=some o) (hcs:CellsOk h₁ (s.heap.objs.size+1) (bh (s.heap.objs.size+1) scope.names [])) {tk:Nat} :
  Inv (zL X NY scope cl s.heap.objs.size s H fp) [] (caps cap σ) H {s with heap:=h₁,toks:=tk}:=by
 have relx:∀x,(compEnvC scope (bh (s.heap.objs.size+1) scope.names []++cl) s.heap.objs.size X.env).kindOf x=some .cell\/(compEnvC scope (bh (s.heap.objs.size+1) scope.names []++cl) s.heap.objs.size X.env).kindOf x=some .free->scope.names.lookup x=some .free\/scope.names.lookup x=some .cell:=λx hx=>by
  rcases hx with q|q
  ·rcases jI (env:=X.env) (names:=scope.names) (x:=x) (k:=.cell) q with z|z
   ·exact .inr z
   ·exact .inl z.2
  ·rcases jI (env:=X.env) (names:=scope.names) (x:=x) (k:=.free) q with z|z
   ·exact .inl z
   ·exact .inl z.2
 have cnew:∀x c,cl.lookup x=some c->c<s.heap.objs.size:=λx c e=>by
  obtain⟨v,q⟩:=I.cell x c (hsub x c e);exact q.lt
 -- a cell is one of its own, or one from around
 have two:∀x c,(bh (s.heap.objs.size+1) scope.names []++cl).lookup x=some c->(x,c)∈bh (s.heap.objs.size+1) scope.names []\/cl.lookup x=some c:=λx c e=>by
  rw[List.lookup_append]at e;cases q:(bh (s.heap.objs.size+1) scope.names []).lookup x with
  |none=>rw[q]at e;exact .inr e
  |some c'=>rw[q]at e;cases e;exact .inl (cw q)
 have own1:∀x c,(x,c)∈bh (s.heap.objs.size+1) scope.names []->scope.names.lookup x=some .cell:=λx c e=>by
  rcases md e with z|z
  ·cases z
  ·exact S.cells _ z rfl
 have ownA:∀x c,(x,c)∈bh (s.heap.objs.size+1) scope.names []->s.heap.objs.size<c:=λx c e=>(hcs.empty x c e).2
 have frl:∀x c,scope.names.lookup x=some .free->cl.lookup x=some c->(bh (s.heap.objs.size+1) scope.names []++cl).lookup x=some c:=λx c e1 e2=>by
  rw[List.lookup_append];cases q:(bh (s.heap.objs.size+1) scope.names []).lookup x with
  |none=>rw[e2];rfl
  |some c'=>have:=own1 x c' (cw q);rw[e1]at this;cases this
 refine⟨⟨I.ok.mod,S.kind,I.ok.glob,I.ok.blt,aE _,λx y c e1 e2=>?_,λx hx=>?_,λx c e e2=>?_,I.ok.hd,I.ok.frames,.inl rfl,λb hb=>?_,λb o e=>I.bs b o e,bf I.ok.bsz I.sz,λb o e hb=>?_,λb hb z=>?_,I.stack,I.stkFree⟩,
  rfl,I.bare,Un.kept hk,⟨m,hn,λi x v e1 e2 e3=>?_⟩,λx c e=>?_,I.hok.fresh (aE _),λx c e=>?_,λp hp=>absurd (show p∈([]:List (Addr×Obj))from hp) (by simp),I.hok.kept hk,?_⟩
 ·rcases two x c e1 with z1|z1<;>rcases two y c e2 with z2|z2
  ·exact name_of_addr hcs.apart z1 z2
  ·exact absurd (Nat.lt_trans (cnew y c z2) (ownA x c z1)) (bN _)
  ·exact absurd (Nat.lt_trans (cnew x c z1) (ownA y c z2)) (bN _)
  ·exact I.ok.inj x y c (hsub x c z1) (hsub y c z2)
 ·rcases relx x hx with z|z
  ·obtain⟨c,hc⟩:=hall (x,.free) (cw z) rfl;exact⟨c,frl x c z hc⟩
  ·obtain⟨c,hc⟩:=j6 (n:=s.heap.objs.size+1) z;refine⟨c,?_⟩;show (bh (s.heap.objs.size+1) scope.names []++cl).lookup x=some c;rw[List.lookup_append,hc];rfl
 ·have e:(iV scope.names).contains x=true:=e;have hm:scope.names.lookup x=some .cell:=by
   simp only[iV,List.contains_iff_mem,a8,List.mem_filter,beq_iff_eq]at e;obtain⟨y,⟨y1,y2⟩,rfl⟩:=e;exact S.cells y y1 y2
  rcases two x c e2 with z|z
  ·exact Nat.le_of_lt (ownA x c z)
  ·obtain⟨c',hc⟩:=j6 (n:=s.heap.objs.size+1) hm;have e2:(bh (s.heap.objs.size+1) scope.names []++cl).lookup x=some c:=e2;rw[List.lookup_append,hc]at e2;cases e2;exact Nat.le_of_lt (ownA x _ (cw hc))
 ·obtain⟨f0,f1,f2,f3,f4,f5⟩:=hf b hb;refine⟨a7 (hlt b hb),λx c e=>?_⟩;rcases two x c e with z|z
  ·exact λw=>absurd (Nat.lt_trans (ownA x c z) (w▸hlt b hb)) (bN _)
  ·exact f4 x c (hsub x c z)
 ·obtain⟨f0,f1,f2,f3,f4,f5⟩:=hf b hb;rcases f3 with z|z
  ·exact I.ok.noex b o e z
  ·exact absurd (bt (aI e) (bf I.ok.bsz z)) (bN _)
 ·obtain⟨f0,f1,f2,f3,f4,f5⟩:=hf b hb;rcases aG.mp (I.stkSub b z)with q|q
  ·exact f1 q
  ·exact f2 q
 ·obtain⟨j,c1,c2⟩:=xE e2;obtain⟨x',n1,n2,n3,n4⟩:=S.cap.2 i j c1;have ex:x'=x:=bM (n1.symm.trans e1);subst ex;obtain⟨m',_,hl⟩:=I.loc;obtain⟨u,r,l⟩:=hl j x' v n2 c2 (n4.elim (λz=>.inr (.inl z)) λz=>.inr (.inr z));refine⟨u,r,.inr ⟨?_,?_⟩⟩
  ·rcases e3 with z|z|z
   ·rcases jI (env:=X.env) (names:=scope.names) (x:=x') (k:=.local) z with q|q
    ·rw[n3]at q;cases q
    ·cases q.1
   ·exact .inl z
   ·exact .inr z
  ·rcases l with ⟨kk,_⟩|⟨_,c,ec,ic⟩
   ·rcases n4 with z|z
    ·rw[kk]at z;cases z
    ·rw[kk]at z;cases z
   ·obtain⟨c',ec'⟩:=hall (x',.free) (cw n3) rfl;have:=hsub x' c' ec';rw[ec]at this;cases this;obtain⟨o,ho,hd⟩:=ic;exact⟨c,frl x' c n3 ec',o,hk _ _ ho,hd⟩
 ·rcases two x c e with z|z
  ·exact⟨_,(hcs.empty x c z).1⟩
  ·obtain⟨v,o,ho,hd⟩:=I.cell x c (hsub x c z);exact⟨v,o,hk _ _ ho,hd⟩
 ·rcases two x c e with z|z
  ·exact I.hok.fresh (Nat.le_of_lt (ownA x c z))
  ·exact I.freeC x c (hsub x c z)
 ·show (caps cap σ).length=NY.length;unfold caps;rw[aQ];exact S.cap.1
noncomputable def kM(cap:List (Option Nat))(wi:TI)(tg:TG)(tt:TT)(tb:Addr->TS):TE:=λσ H Q=>wi σ H λJ H1=>∀acc,H1 acc=none ->
 ∃W:Nat->Nat->St->Hp->Prop,(∃m,W 0 m (caps cap σ) (upd H1 acc (.lst [])))/\∀i m τ H,W i m τ H ->
  (J.stop i H/\(Ends.mk (λ_ H=>Q (.ref acc) H) (λ_ _=>False) (λ_ _=>False) (λ_ _=>False)).nx τ H)\/(J.go i H/\∃N:St->Hp->Prop,(∀σ' H',N σ' H'->∃m',m'<m/\W (i+1) m' σ' H')/\∀x H',J.yld i H x H' ->
   tg x τ H' λσ2 H2=>jA tt (tb acc) iX {(Ends.mk (λ_ H=>Q (.ref acc) H) (λ_ _=>False) (λ_ _=>False) (λ_ _=>False))with nx:=N,ct:=N,bk:=(Ends.mk (λ_ H=>Q (.ref acc) H) (λ_ _=>False) (λ_ _=>False) (λ_ _=>False)).nx} σ2 H2)
structure Loose(X:Cx)(pins:List (Addr×Obj))(C:Addr):Prop where
 loc:C≠X.env.locals
 cell:∀x c,X.env.cells.lookup x=some c->c≠C
 up:X.s₀.heap.objs.size<=C
 pin:∀p∈X.pn++pins,p.1≠C
theorem Loose.turn{X:Cx}{pins:List (Addr×Obj)}{C:Addr}{σ:St}{H:Hp}{s:af}{h':Heap}(L:Loose X pins C)(I:Inv X pins σ H s)(hn:H C=none)(hs:Heap.SameBut C s.heap h'):Inv X pins σ H {s with heap:=h'}:=
 I.turned (t':=s.toks) (it:=C) (λb o hb e=>(hs.2 b hb).trans e) hn L.loc (.inr L.up) L.cell L.pin
section
variable{X:Cx}{elt tgt it:Expr}{ifs:List Expr}{gs:List cy}{scope:aY}{pos:Pos}{NY:List Str}{cap:List (Option Nat)}{wi:TI}{tg:TG}{tt:TT}{tb:Addr->TS}
theorem nZ{Q:VK}{pins:List (Addr×Obj)}{σ:St}{H:Hp}{s s2:af}{cl:List (Str×Addr)}{itv:ae}{E:ae->af->Prop}{use:Option (ae->Sem Unit)}{QQ:ae->af->Prop}
  (hc:X.calm=true) (S:eB X NY cap scope) (hng:∀g'∈gs,g'.is_async=0)
  (hsub:∀x c,cl.lookup x=some c->X.env.cells.lookup x=some c) (hall:∀x∈scope.names,x.2=.free->∃c,cl.lookup x.1=some c)
  (hb:∀cl C s₀ H₀ fp,PG (zL X NY scope cl C s₀ H₀ fp) tgt tg/\PTs (zL X NY scope cl C s₀ H₀ fp) ifs tt/\∀acc,PB (zL X NY scope cl C s₀ H₀ fp) (fv elt (⟨tgt,it,ifs,0⟩::gs) scope pos 0 (.ref acc) (zL X NY scope cl C s₀ H₀ fp).env) (tb acc))
  (h2:PIE X pins σ tgt (λJ H1=>∀acc,H1 acc=none ->
   ∃W:Nat->Nat->St->Hp->Prop,(∃m,W 0 m (caps cap σ) (upd H1 acc (.lst [])))/\∀i m τ H,W i m τ H ->
    (J.stop i H/\(Ends.mk (λ_ H=>Q (.ref acc) H) (λ_ _=>False) (λ_ _=>False) (λ_ _=>False)).nx τ H)\/(J.go i H/\∃N:St->Hp->Prop,(∀σ' H',N σ' H'->∃m',m'<m/\W (i+1) m' σ' H')/\∀x H',J.yld i H x H' ->
     tg x τ H' λσ2 H2=>jA tt (tb acc) iX {(Ends.mk (λ_ H=>Q (.ref acc) H) (λ_ _=>False) (λ_ _=>False) (λ_ _=>False))with nx:=N,ct:=N,bk:=(Ends.mk (λ_ H=>Q (.ref acc) H) (λ_ _=>False) (λ_ _=>False) (λ_ _=>False)).nx} σ2 H2)) itv s2)
  (fin:∀(acc C:Addr) (s':af) (m:Str->Option ae) (H':Hp),s'.heap.Ns C m->Loose X pins C->Inv X pins σ H' s'->H' C=none->Q (.ref acc) H'->compPost (ak X.prog X.w) X.A E use QQ (.ref acc) C (.ok .next) s') :
  ah (ak X.prog X.w) X.A (newList []) (λacc s₃=>ah (ak X.prog X.w) X.A (newFunctionEnv scope X.env.globals cl [] X.env.qual none .none (some X.env)) (λcenv s₄=>
   codeAny (ak X.prog X.w) X.A (.compStart (.ListComp elt (⟨tgt,it,ifs,0⟩::gs) scope pos) 0 itv acc {cenv with scope:=relabel scope X.env}) (compPost (ak X.prog X.w) X.A E use QQ acc cenv.locals) s₄) E s₃) E s2:=by
 obtain⟨ia,fp,tn,J,H2,e,I2,T,st2,f2,q⟩:=h2;subst e;have hlt2:∀b∈fp,b<s2.heap.objs.size:=λb hb=>by
  obtain⟨o,ho,_⟩:=T.obj _ _ st2 b hb;exact aI ho
 refine bK ?_;have hacc:H2 s2.heap.objs.size=none:=I2.hok.fresh (aE _);have I3:Inv X pins σ (upd H2 s2.heap.objs.size (.lst [])) {s2 with heap:=s2.heap.push {cls:=.type "list",dict:=none,data:=.seq ([]:List ae).toArray}}:=
  I2.laid (t':=s2.toks) (λb u e=>Heap.get?_push_of_some _ e) (aE _) ⟨bu _,[],0,.nil,Heap.get?_push_size _ rfl⟩
 have hsz3:(s2.heap.push {cls:=.type "list",dict:=none,data:=.seq ([]:List ae).toArray}).objs.size=s2.heap.objs.size+1:=bC ..;generalize hs3:({s2 with heap:=s2.heap.push {cls:=.type "list",dict:=none,data:=.seq ([]:List ae).toArray}}:af)=s3 at I3 ⊢;have hsz:s3.heap.objs.size=s2.heap.objs.size+1:=by rw[<-hs3];exact hsz3
 have st3:tn 0 s3.heap:=T.keep _ _ _ st2 λb hb o e=>by rw[<-hs3];exact Heap.get?_push_of_some _ e
 have f3:∀b∈fp,dJ X pins (upd H2 s2.heap.objs.size (.lst [])) b:=λb hb=>⟨by rw[qq (a7 (hlt2 b hb))];exact(f2 b hb).1,(f2 b hb).2⟩
 have hlt3:∀b∈fp,b<s3.heap.objs.size:=λb hb=>by rw[hsz];exact dz (hlt2 b hb)
 refine Av λh₁ hns₁ hk1 hcs=>?_
 have IY:=uj (tk:=s3.toks) I3 S hsub hall f3 hlt3 hns₁ hk1 hcs;have stY:tn 0 h₁:=T.keep _ _ _ st3 λb hb o e=>hk1 b o e
 obtain⟨pg,pt,pb⟩:=hb cl s3.heap.objs.size s3 (upd H2 s2.heap.objs.size (.lst [])) fp;have fY:∀b∈fp,dJ (zL X NY scope cl s3.heap.objs.size s3 (upd H2 s2.heap.objs.size (.lst [])) fp) [] (upd H2 s2.heap.objs.size (.lst [])) b:=λb hb=>by
  obtain⟨g0,g1,g2,g3,g4,g5⟩:=f3 b hb;refine⟨g0,a7 (hlt3 b hb),λz=>?_,.inl hb,(IY.ok.exf b hb).2,λp hp=>absurd (show p∈([]:List (Addr×Obj))from hp) (by simp)⟩;rcases aG.mp (I3.stkSub b z)with w|w
  ·exact g1 w
  ·exact g2 w
 have L:=AG (elt:=elt) (gens:=⟨tgt,it,ifs,0⟩::gs) (scope:=scope) (pos:=pos) (d:=0) (Y:=zL X NY scope cl s3.heap.objs.size s3 (upd H2 s2.heap.objs.size (.lst [])) fp) (acc:=.ref s2.heap.objs.size) hc (λ_ _ z=>z) rfl rfl
  (λg' hg'=>hng g' (List.mem_of_getElem? (i:=0) (by simpa using hg'))) T pg pt (pb s2.heap.objs.size) IY stY fY (q s2.heap.objs.size hacc)
 refine codeAny_mono (xA (elt:=elt) (gens:=⟨tgt,it,ifs,0⟩::gs) (scope:=scope) (pos:=pos) (d:=0) (env:=compEnvC scope (bh (s3.heap.objs.size+1) scope.names []++cl) s3.heap.objs.size X.env) rfl rfl L (T.self _ 0 _ _ _ stY L)) λr s' ⟨e,τ',H',I',q'⟩=>?_
 subst e;obtain⟨m',hn',_⟩:=id I'.loc;have hLne:s3.heap.objs.size≠X.env.locals:=Nat.ne_of_gt I3.lt;have hCne:∀x c,X.env.cells.lookup x=some c->c≠s3.heap.objs.size:=λx c e z=>by
  obtain⟨v,qv⟩:=I3.cell x c e;exact absurd qv.lt (by rw[z];exact bN _)
 have J1:Inv X pins σ H' s':=by
  refine I3.call' (ch:=fp) I'.os I'.base I'.hok I'.bare λb hb=>?_
  obtain⟨g0,g1,g2,g3,g4,g5⟩:=f3 b hb;exact⟨g3,g1,g4,g5⟩
 refine fin s2.heap.objs.size s3.heap.objs.size s' m' H' hn' ⟨hLne,hCne,I3.sz,λp hp z=>?_⟩ J1 I'.free q';have:=aI (I3.pin p hp).1;rw[z]at this;exact bN _ this
theorem Bv(hc:X.calm=true)(S:eB X NY cap scope)(hi:PI X tgt it wi)
  (hb:∀cl C s₀ H₀ fp,PG (zL X NY scope cl C s₀ H₀ fp) tgt tg/\PTs (zL X NY scope cl C s₀ H₀ fp) ifs tt/\∀acc,PB (zL X NY scope cl C s₀ H₀ fp) (fv elt (⟨tgt,it,ifs,0⟩::gs) scope pos 0 (.ref acc) (zL X NY scope cl C s₀ H₀ fp).env) (tb acc))
  (hng:∀g'∈gs,g'.is_async=0:=by simp)
  (hs:∀x,foldedSetIterable it X.env x=pure x:=by intro _;rfl):PE X (.ListComp elt (⟨tgt,it,ifs,0⟩::gs) scope pos) (kM cap wi tg tt tb):=by
 intro pins s σ H Q I h;obtain⟨cl,hcl,hsub,hall⟩:=rW (env:=X.env) (scope:=scope) λx hx hf=>I.ok.has x.1 (S.free x hx hf)
 rw[eval_ListComp];refine wpAny_comprehension_free (use:=none) rfl hs hcl S.kind S.names (thn (hi pins s σ H _ I h) λv s1 h1=>thn h1 λitv s2 h2=>?_);exact nZ (s:=s) (H:=H) (use:=none) hc S hng hsub hall hb h2 λacc C s' m H' hn L I' hC q=>⟨m,hn,λh' hs'=>⟨.ref acc,H',L.turn I' hC hs',rfl,q⟩⟩
theorem x_{i:Nat}{x:Str}{pos' spos:Pos}(hN:X.N.Nodup)(hix:X.N[i]? = some x)(hx:Loc X.env.scope x)(hc:X.calm=true)(S:eB X NY cap scope)(hi:PI X tgt it wi)
  (hb:∀cl C s₀ H₀ fp,PG (zL X NY scope cl C s₀ H₀ fp) tgt tg/\PTs (zL X NY scope cl C s₀ H₀ fp) ifs tt/\∀acc,PB (zL X NY scope cl C s₀ H₀ fp) (fv elt (⟨tgt,it,ifs,0⟩::gs) scope pos 0 (.ref acc) (zL X NY scope cl C s₀ H₀ fp).env) (tb acc))
  (hng:∀g'∈gs,g'.is_async=0:=by simp)
  (hsw:swapsWith (.ListComp elt (⟨tgt,it,ifs,0⟩::gs) scope pos) (some (.Name x pos')) spos.line X.env=pure true:=by rfl)
  (hf:X.fn x=true\/X.env.scope.names.lookup x=some .local:=by first|exact .inl rfl|exact .inr rfl|assumption)
  (hs:∀x,foldedSetIterable it X.env x=pure x:=by intro _;rfl) :
  PS X (.Assign [.Name x pos'] (.ListComp elt (⟨tgt,it,ifs,0⟩::gs) scope pos) spos) (ju (kM cap wi tg tt tb) (fJ i)):=by
 intro pins s σ H D I h;obtain⟨cl,hcl,hsub,hall⟩:=rW (env:=X.env) (scope:=scope) λx hx hf=>I.ok.has x.1 (S.free x hx hf)
 rw[exec_Assign_Name_used _ _ _ _ hsw];refine ag (wpAny_standAt (ag ?_));show ah _ _ (do let _ <-comprehension (.ListComp elt (⟨tgt,it,ifs,0⟩::gs) scope pos) scope X.env _ (newList []) false (eval it X.env) (some (assign (.Name x pos') X.env))) _ _ s;refine ag (bT (wpAny_comprehension_free (use:=some (assign (.Name x pos') X.env)) (Q:=λ_ s'=>SP X pins D .next s') rfl hs hcl S.kind S.names (thn (hi pins s σ H _ I h) λv s1 h1=>thn h1 λitv s2 h2=>?_)) (λ_ s' q=>aq (aq q)) λ_ _ e=>e);refine nZ (s:=s) (H:=H) (Q:=λx H1=>fJ i x σ H1 D.nx) (use:=some (assign (.Name x pos') X.env)) hc S hng hsub hall hb h2 λacc C s' m H' hn L I1 hC q1=>?_
 show ah _ _ (assign (.Name x pos') X.env (.ref acc)) _ _ _;refine wpAny_assign_Name (mV (v:=.ref acc) I1 hN hix hx rfl (λs3 I3 ⟨a,hsa,ha⟩=>?_) hf);have hCa:C≠a:=by
  rcases ha with z|z
  ·rw[z];exact L.loc
  ·exact Ne.symm (L.cell x a z)
 exact⟨m,hn.sameBut hsa hCa,λh' hsb=>⟨_,H',L.turn I3 hC hsb,q1⟩⟩
end
theorem zY.there{P:aB}{w:aw}{H:Hp}{h:Heap}{a:Addr}{o:HO}(x:zY P w H h a o):∃u,h.get? a=some u:=by
 cases o with
 |lst xs=>obtain⟨_,_,_,_,e⟩:=x;exact⟨_,e⟩
 |tup xs=>obtain⟨_,_,_,o,e,_⟩:=x;exact⟨_,e⟩
 |dK kvs=>obtain⟨_,_,_,_,o,_,_,e,_⟩:=x;exact⟨_,e⟩
 |dT kvs=>obtain⟨_,_,_,_,o,_,_,e,_⟩:=x;exact⟨_,e⟩
 |set S n=>obtain⟨o,_,_,_,e,_⟩:=x;exact⟨_,e⟩
 |ins C dx fs=>obtain⟨_,_,_,e,_⟩:=x;exact⟨_,e⟩
 |own y=>obtain⟨_,e⟩:=x;exact⟨_,e⟩
 |xd fs=>obtain⟨_,⟨_,_,_,e,_⟩,_⟩:=x;exact⟨_,e⟩
 |rng lo hi=>obtain⟨_,_,_,e⟩:=x;exact⟨_,e⟩
 |frz ob u=>obtain⟨e,_⟩:=x;exact⟨_,e⟩
 |tbl ps=>exact⟨_,(show h.get? a=some _ from x)⟩
 |met f y=>exact⟨_,(show h.get? a=some _ from x)⟩
 |ext φ=>obtain⟨_,e,_⟩:=x;exact e
theorem HOk.free_of{P:aB}{w:aw}{H:Hp}{h:Heap}{a:Addr}(x:HOk P w H h)(e:h.get? a=none):H a=none:=by
 cases q:H a with
 |none=>rfl
 |some o=>obtain⟨u,z⟩:=(x a o q).there;rw[e]at z;cases z
structure Apart(X:Cx)(pins:List (Addr×Obj))(H:Hp)(b:Addr):Prop where
 new:X.s₀.heap.get? b=none
 free:H b=none
 pin:∀p∈X.pn++pins,p.1≠b
structure b_(X:Cx)(pins:List (Addr×Obj))(H:Hp)(h:Heap)(x:Addr)(cls:ae):Prop where
 me:Apart X pins H x
 tr:∃oe vs T oT ts a0,h.get? x=some oe/\oe.cls=cls/\vs[0]? = some a0/\oe.data=.fields vs/\vs[1]? = some (.ref T)/\T≠x/\h.get? T=some oT/\oT.data=.fields ts/\ts[3]? = some .none/\Apart X pins H T
structure Fly(h₀ h:Heap)(H:Hp)(x:Addr)(cls:ae):Prop where
 new:h₀.get? x=none
 free:H x=none
 tr:∃oe vs T oT ts a0,h.get? x=some oe/\oe.cls=cls/\vs[0]? = some a0/\oe.data=.fields vs/\vs[1]? = some (.ref T)/\T≠x/\h.get? T=some oT/\oT.data=.fields ts/\ts[3]? = some .none/\h₀.get? T=none/\H T=none
noncomputable def CX1(P:aB)(w:aw):CXT:=λouter H s E e s'=>
 ∃x cls H',e=.ref x/\s'.os=s.os/\AllBare s'.gens/\Un (frs outer) [] H H' s.heap s'.heap/\HOk P w H' s'.heap/\Fly s.heap s'.heap H' x cls/\E cls none H'
section
variable{X:Cx}{pins:List (Addr×Obj)}{σ:St}{H:Hp}{s:af}{x T:Addr}{cls:ae}
theorem Inv.stepN{h':Heap}{t':Nat}{ch:List Addr}(I:Inv X pins σ H s)(hex:X.ex=[])(hch:∀b∈ch,Apart X pins H b/\b≠X.env.locals/\(∀x c,X.env.cells.lookup x=some c->c≠b)/\b∉X.fs)
  (keep:∀b o,b∉frs X.stack->b≠X.env.locals->b∉X.fs->b∉ch->s.heap.get? b=some o->h'.get? b=some o)
  (slot:∀b o,(b∈frs X.stack\/b=X.env.locals\/b∈X.fs)->s.heap.get? b=some o->∃sl,h'.get? b=some {o with slots:=sl}) (there:∀b o,b∉ch->s.heap.get? b=some o->∃o',h'.get? b=some o') :
  Inv X pins σ H {s with heap:=h',toks:=t'}:=by
 have sub:∀b,b∈frs X.stack->b=X.env.locals\/b∈X.fs:=λb hb=>aG.mp (I.stkSub b hb)
 have keep':∀b o,b≠X.env.locals->b∉X.fs->b∉ch->s.heap.get? b=some o->h'.get? b=some o:=λb o h1 h2 h3 e=>keep b o (λz=>(sub b z).elim h1 h2) h1 h2 h3 e
 have neL:∀b o,X.s₀.heap.get? b=some o->b≠X.env.locals:=λb o e=>a7 (bt (aI e) I.ok.above)
 have neC:∀b o,X.s₀.heap.get? b=some o->b∉ch:=λb o e hb=>by
  have:=(hch b hb).1.new;rw[e]at this;cases this
 have cellK:∀x c,X.env.cells.lookup x=some c->∀v,s.heap.IsCell c v->h'.IsCell c v:=λx c e v ⟨o,ho,hd⟩=>by
  have nch:c∉ch:=λz=>(hch c z).2.2.1 x c e rfl
  by_cases hc:c∈X.fs
  ·obtain⟨sl,q⟩:=slot c o (.inr (.inr hc)) ho;exact⟨_,q,hd⟩
  ·exact⟨o,keep' c o (I.cne x c e) hc nch ho,hd⟩
 have nex:∀b,b∉X.ex:=λb=>by rw[hex];simp
 refine⟨I.ok,I.os,I.bare,⟨λb o e n hb hx=>?_,λb o e n hb hx=>?_,I.base.free,λb o e hx=>?_,I.base.tups,I.base.frzs,I.base.tbls⟩,?_,λx c e=>?_,I.free,I.freeC,λp hp=>?_,λb u e=>?_,I.len⟩
 ·exact keep' b o (neL b o e) hb (neC b o e) (I.base.keep b o e n hb hx)
 ·obtain⟨sl,e1⟩:=I.base.slot b o e n hb hx;obtain⟨sl',e2⟩:=slot b _ (.inr (.inr hb)) e1;exact⟨sl',e2⟩
 ·obtain⟨o',e1⟩:=I.base.there b o e hx;exact there b o' (neC b o e) e1
 ·obtain⟨m,hn,hl⟩:=I.loc;obtain⟨oL,es,ep,hoL,hdL,r⟩:=id hn;obtain⟨sl,eL⟩:=slot _ _ (.inr (.inl rfl)) hoL;refine⟨m,⟨_,es,ep,eL,hdL,r⟩,λi x v e1 e2 e3=>?_⟩;obtain⟨u,ru,l⟩:=hl i x v e1 e2 e3;refine⟨u,ru,?_⟩;rcases l with l|⟨k,c,e,z⟩
  ·exact .inl l
  ·exact .inr ⟨k,c,e,cellK x c e _ z⟩
 ·obtain⟨v,z⟩:=I.cell x c e;exact⟨v,cellK x c e v z⟩
 ·obtain⟨e,n,ne,nf,d⟩:=I.pin p hp;exact⟨keep' p.1 p.2 ne nf (λz=>(hch p.1 z).1.pin p hp rfl) e,n,ne,nf,d⟩
 ·have nfr:∀b,(∃u,H b=some u)->b≠X.env.locals/\b∉X.fs/\b∉ch:=λb ⟨u,e⟩=>by
   refine⟨λz=>?_,λz=>?_,λz=>?_⟩
   ·rw[z,I.free]at e;cases e
   ·obtain⟨_,o,ho,_⟩:=I.ok.funs.mem z;have:=I.base.free b o ho (I.ok.frf b z) (nex b);rw[e]at this;cases this
   ·have:=(hch b z).1.free;rw[e]at this;cases this
  refine(I.hok b u e).stay (λc v hc q=>?_) (λ_ q=>q) λ_ _ q=>q
  have hc':∃u,H c=some u:=by
   rcases hc with z|z
   ·exact⟨u,by rw[z];exact e⟩
   ·exact⟨_,z⟩
  obtain⟨n1,n2,n3⟩:=nfr c hc';exact keep' c v n1 n2 n3 q
theorem Inv.rec_ne(I:Inv X pins σ H s){b:Addr}{o:Obj}{vs:Array ae}(e:s.heap.get? b=some o)(d:o.data=.fields vs):b≠X.env.locals/\(∀x c,X.env.cells.lookup x=some c->c≠b)/\b∉X.fs/\b∉frs X.stack:=by
 have h1:b≠X.env.locals:=λz=>by
  obtain⟨m,⟨o',es,ep,ho,hd,_⟩,_⟩:=I.loc;rw[<-z,e]at ho;cases ho;rw[d]at hd;cases hd
 have h3:b∉X.fs:=λz=>by
  obtain⟨_,o',ho,hn⟩:=I.funs.mem z;rw[e]at ho;cases ho;exact hn vs d
 refine⟨h1,λx c ec z=>?_,h3,λz=>(aG.mp (I.stkSub b z)).elim h1 h3⟩;obtain⟨v,o',ho,hd⟩:=I.cell x c ec;rw[z,e]at ho;cases ho;rw[d]at hd;cases hd
theorem b_.flying(I:Inv X pins σ H s)(F:b_ X pins H s.heap x cls):∃T oT ts a0,Heap.FlyingW (PySem.W.hideAll s.heap (x::T::frs X.stack)) X.stack x cls a0 s.heap/\s.heap.get? T=some oT/\oT.data=.fields ts/\Apart X pins H T:=by
 obtain⟨oe,vs,T,oT,ts,a0,e1,e2,e3,e4,e5,e6,e7,e8,e9,e10⟩:=F.tr;refine⟨T,oT,ts,a0,⟨λb o q=>PySem.W.of_hideAll _ q,PySem.W.hideAll_none _ aO,?_,oe,vs,T,oT,ts,e1,⟨e2,e3⟩,e4,e5,PySem.W.hideAll_none _ (aK _ aO),e6,e7,e8,e9⟩,e7,e8,e10⟩;exact PySem.W.funFrames_hide I.stack λenv he a ha=>aK _ (aK _ (List.mem_filterMap.mpr ⟨env,he,ha⟩))
theorem b_.back(I:Inv X pins σ H s)(hex:X.ex=[])(me:Apart X pins H x){ox:Obj}{vs:Array ae}(hx:s.heap.get? x=some ox)(hxd:ox.data=.fields vs){oT:Obj}{ts:Array ae}(hT:s.heap.get? T=some oT)(hTd:oT.data=.fields ts)(aT:Apart X pins H T)
  {l:List Env}{a0:ae}{h':Heap} (W:Heap.FlyingW (PySem.W.hideAll s.heap (x::T::frs X.stack)) l x cls a0 h') (u:s.heap.UpToSlots h') :
  Inv X pins σ H {s with heap:=h'}/\b_ X pins H h' x cls:=by
 obtain⟨w1,w2,w3,oe',vs',T',oT',ts',f1,⟨f2,f3⟩,f4,f5,f6,f7,f8,f9,f10⟩:=W;obtain⟨nx1,nx2,nx3,nx4⟩:=I.rec_ne hx hxd;obtain⟨nt1,nt2,nt3,nt4⟩:=I.rec_ne hT hTd;have frd:∀b o,(b∈frs X.stack\/b=X.env.locals\/b∈X.fs)->s.heap.get? b=some o->∀ws,o.data≠.fields ws:=λb o hb e ws d=>by
  obtain⟨n1,n2,n3,n4⟩:=I.rec_ne e d;rcases hb with z|z|z
  ·exact n4 z
  ·exact n1 z
  ·exact n3 z
 have nch:∀b,b∉[x,T]->b∉frs X.stack->b∉(x::T::frs X.stack):=λb h1 h2 h3=>by
  rcases aG.mp h3 with z|h3
  ·exact h1 (by simp[z])
  ·rcases aG.mp h3 with z|h3
   ·exact h1 (by simp[z])
   ·exact h2 h3
 refine⟨?_,me,oe',vs',T',oT',ts',a0,f1,f2,f3,f4,f5,f7,f8,f9,f10,?_⟩
 ·refine I.stepN (t':=s.toks) (ch:=[x,T]) hex (λb hb=>?_) (λb o h1 h2 h3 h4 e=>w1 b o (dU _ e (nch b h4 h1))) (λb o hb e=>u b o e (frd b o hb e)) λb o h4 e=>?_
  ·rcases aG.mp hb with z|hb
   ·subst z;exact⟨me,nx1,nx2,nx3⟩
   ·have z:b=T:=by simpa using hb
    subst z;exact⟨aT,nt1,nt2,nt3⟩
  ·by_cases hb:b∈frs X.stack
   ·obtain⟨sl,q⟩:=u b o e (frd b o (.inl hb) e);exact⟨_,q⟩
   ·exact⟨o,w1 b o (dU _ e (nch b h4 hb))⟩
 ·by_cases hTT:T'=T
  ·rw[hTT];exact aT
  ·by_cases hTf:T'∈frs X.stack
   ·obtain⟨_,o,ho,hn⟩:=I.stack.mem hTf;obtain⟨sl,q⟩:=u T' o ho hn;rw[q]at f8;have z:({o with slots:=sl}:Obj)=oT':=bM f8;subst z;exact absurd f9 (hn ts')
   ·have hnone:s.heap.get? T'=none:=by
     cases q:s.heap.get? T' with
     |none=>rfl
     |some o=>
      have:(PySem.W.hideAll s.heap (x::T::frs X.stack)).get? T'=some o:=dU _ q (nch T' (by simp[f7,hTT]) hTf);rw[f6]at this;cases this
    refine⟨?_,I.hok.free_of hnone,λp hp z=>?_⟩
    ·cases q:X.s₀.heap.get? T' with
     |none=>rfl
     |some o=>
      obtain⟨o',e'⟩:=I.base.there T' o q (by rw[hex];simp);rw[hnone]at e';cases e'
    ·have:=(I.pin p hp).1;rw[z,hnone]at this;cases this
theorem jC{P:aB}{w:aw}(hP:X.prog=P)(hw:X.w=w)(I:Inv X pins σ H s)(hex:X.ex=[]){E:XK}{e:ae}{s':af}(h:CX1 P w X.stack H s E e s') :
  ∃x cls H',e=.ref x/\Inv X pins σ H' s'/\b_ X pins H' s'.heap x cls/\E cls none H':=by
 subst hP hw;obtain⟨x,cls,H',rfl,os,bare,un,hok,F,q⟩:=h;have ap:∀b,s.heap.get? b=none->H' b=none->Apart X pins H' b:=λb h1 h2=>by
  refine⟨?_,h2,λp hp z=>?_⟩
  ·cases q:X.s₀.heap.get? b with
   |none=>rfl
   |some o=>
    obtain⟨o',e'⟩:=I.base.there b o q (by rw[hex];simp);rw[h1]at e';cases e'
  ·have:=(I.pin p hp).1;rw[z,h1]at this;cases this
 obtain⟨oe,vs,T,oT,ts,a0,e1,e2,e3,e4,e5,e6,e7,e8,e9,e10,e11⟩:=F.tr;exact⟨x,cls,H',rfl,I.call' (ch:=[]) os un hok bare (λb z=>absurd z (by simp)),⟨ap x F.new F.free,oe,vs,T,oT,ts,a0,e1,e2,e3,e4,e5,e6,e7,e8,e9,ap T e10 e11⟩,q⟩
theorem b_.leaves(I:Inv X pins σ H s)(hex:X.ex=[]){env:Env}{outer:List Env}(hst:X.stack=X.env::X.outer)(hfr:X.env.frame=some X.env.locals)(F:b_ X pins H s.heap x cls){E:XK}(q:E cls none H)
  {EE:ae->af->Prop}:ah (ak X.prog X.w) X.A (leaving X.env (.ref x)) (λ_ s''=>CX1 X.prog X.w X.outer X.H₀ X.s₀ E (.ref x) s'') EE s:=by
 obtain⟨oe,vs,_,_,_,_,e1,_,_,e4,_⟩:=id F.tr;obtain⟨T,oT,ts,a0,W,hT,hTd,aT⟩:=b_.flying I F;have hfrm:=I.ok.frames;rw[hst]at hfrm W;refine wpAny_leaves_onW hfrm hfr W λh' W' u=>?_
 rw[<-hst]at W';obtain⟨I',F'⟩:=b_.back I hex F.me e1 e4 hT hTd aT W' u;obtain⟨oe',vs',T',oT',ts',a0',f1,f2,f3,f4,f5,f6,f7,f8,f9,f10⟩:=F'.tr;have hb:=I'.base;rw[hex]at hb;exact⟨x,cls,H,rfl,I'.os,I'.bare,hb,I'.hok,⟨F'.me.new,F'.me.free,oe',vs',T',oT',ts',a0',f1,f2,f3,f4,f5,f6,f7,f8,f9,f10.new,f10.free⟩,q⟩
end
section
variable{P:aB}{w:aw}{K:ax}{mg:Str->Option ae}{base:Heap}{N:List Str}{qual:Str}{scope:aY}{f:Addr}{cd:ae}{A:aC}{outer:List Env}{s₀:af}{H₀:Hp}{E:XK}
theorem yL:Passes (CX1 P w) (eu (CX1 P w) P w K mg base N qual scope f cd A outer s₀ H₀ E) E:=by
 intro pins σ H s e s' I h;obtain⟨x,cls,H',rfl,I',F,q⟩:=jC rfl rfl I rfl h;exact b_.leaves (env:=(eu (CX1 P w) P w K mg base N qual scope f cd A outer s₀ H₀ E).env) (outer:=outer) I' rfl rfl rfl F q
theorem kA{X:Cx}(hP:X.prog=P)(hw:X.w=w):Passes (CX1 P w) X E0:=by
 intro pins σ H s e s' I h;obtain⟨x,cls,H',rfl,_,_,_,_,_,q⟩:=h;exact q.elim
noncomputable def Throws(X:Cx)(E:XK):Prop:=∀(pins:List (Addr×Obj)) (σ:St) (H:Hp) (s:af) (h':Heap) (e:Addr) (cls:ae) (args:List ae),Inv X pins σ H s->Heap.MadeExcOf s.heap h' e cls args->E cls none H->X.xe (.ref e) {s with heap:=h'}
theorem BR:Throws (eu (CX1 P w) P w K mg base N qual scope f cd A outer s₀ H₀ E) E:=by
 intro pins σ H s h' e cls args I M q;generalize hX:eu (CX1 P w) P w K mg base N qual scope f cd A outer s₀ H₀ E=X at I;have hex:X.ex=[]:=by rw[<-hX];rfl
 have hst:X.stack=X.env::X.outer:=by rw[<-hX];rfl
 have hfr:X.env.frame=some X.env.locals:=by rw[<-hX];rfl
 have hxe:X.xe=λe s'=>ah (ak X.prog X.w) X.A (leaving X.env e) (λ_ s''=>CX1 X.prog X.w X.outer X.H₀ X.s₀ E e s'') (λe' s''=>CX1 X.prog X.w X.outer X.H₀ X.s₀ E e' s'') s':=by rw[<-hX];rfl
 rw[hxe];have hfrm:=I.ok.frames;have hstk:=I.stack;have hB:(PySem.W.hideAll s.heap (frs X.stack)).StaysIn s.heap:=λb o q=>PySem.W.of_hideAll _ q
 have hF:=PySem.W.funFrames_hide (as:=frs X.stack) hstk λenv he a ha=>List.mem_filterMap.mpr ⟨env,he,ha⟩
 rw[hst]at hfrm;have hF':s.heap.FunFrames (PySem.W.hideAll s.heap (frs X.stack)) (X.env::X.outer):=by rw[<-hst];exact hF
 refine wpAny_leaves_madeW (s:={s with heap:=h'}) hfrm hfr hB hF' M λh'' t W ht ht0 u=>?_
 obtain⟨w1,w2,w3,oe',vs',T',oT',ts',f1,⟨f2,f3⟩,f4,f5,f6,f7,f8,f9,f10⟩:=W;have frd:∀b o,(b∈frs X.stack\/b=X.env.locals\/b∈X.fs)->s.heap.get? b=some o->∀ws,o.data≠.fields ws:=λb o hb e ws d=>by
  obtain⟨n1,n2,n3,n4⟩:=I.rec_ne e d;rcases hb with z|z|z
  ·exact n4 z
  ·exact n1 z
  ·exact n3 z
 have slot:∀b o,(b∈frs X.stack\/b=X.env.locals\/b∈X.fs)->s.heap.get? b=some o->∃sl,h''.get? b=some {o with slots:=sl}:=λb o hb e=>u b o (M.keeps b o e) (frd b o hb e)
 have I':Inv X pins σ H {s with heap:=h''}:=I.stepN (t':=s.toks) (ch:=[]) hex (λb hb=>absurd hb (by simp)) (λb o h1 _ _ _ e=>w1 b o (dU _ e h1)) slot λb o _ e=>by
  by_cases hb:b∈frs X.stack
  ·obtain⟨sl,q⟩:=slot b o (.inl hb) e;exact⟨_,q⟩
  ·exact⟨o,w1 b o (dU _ e hb)⟩
 have ap:∀b,s.heap.get? b=none->X.s₀.heap.get? b=none/\H b=none:=λb h1=>by
  refine⟨?_,I.hok.free_of h1⟩;cases q:X.s₀.heap.get? b with
  |none=>rfl
  |some o=>
   obtain⟨o',e'⟩:=I.base.there b o q (by rw[hex];simp);rw[h1]at e';cases e'
 have hT:s.heap.get? T'=none:=by
  by_cases hTf:T'∈frs X.stack
  ·obtain⟨_,o,ho,hn⟩:=hstk.mem hTf;obtain⟨sl,q⟩:=slot T' o (.inl hTf) ho;rw[q]at f8;have z:({o with slots:=sl}:Obj)=oT':=bM f8;subst z;exact absurd f9 (hn ts')
  ·cases q:s.heap.get? T' with
   |none=>rfl
   |some o=>
    have:(PySem.W.hideAll s.heap (frs X.stack)).get? T'=some o:=dU _ q hTf;rw[f6]at this;cases this
 have hb:=I'.base;rw[hex]at hb;exact⟨e,cls,H,rfl,I'.os,I'.bare,hb,I'.hok,⟨(ap e M.new).1,(ap e M.new).2,oe',vs',T',oT',ts',.ref t,f1,f2,f3,f4,f5,f7,f8,f9,f10,(ap T' hT).1,(ap T' hT).2⟩,q⟩
end
abbrev jk:List Value:=[.type "ValueError",.type "Exception",.type "BaseException",.type "object"]
noncomputable def kT(K:ax)(C:Addr):Prop:=PySem.W.excIn K C jk "ValueError.__new__" = true
theorem CD{K:ax}{h:Heap}{C:Addr}{bmB:List ae}{newId:String}(Z:K.In h)(q:PySem.W.excIn K C bmB newId=true) :
  ∃bm N nm qn bs hdct sn sub ab col dd k0 k1 k2 k3 k5 mN,h.get? C=some (excClassObj nm qn C N bs bm hdct sn sub ab col dd k0 k1 k2 k3 k5 newId)/\h.Ns N mN/\mN "__init__" = none/\OwnTail h bmB bm:=by
 unfold PySem.W.excIn at q;split at q
 ·rename_i dict cdat slots look
  split at q
  ·rename_i C2 bm2 j0 j1 j2 j3 nid j5 hmro hslots
   simp only[aJ,beq_iff_eq,bG]at q;obtain⟨⟨⟨⟨⟨rfl,rfl⟩,nodel⟩,tl⟩,nsok⟩,noinit⟩:=q;obtain⟨c1,c2,c3,c4,c5,c6,c7,c8,c9,c10,c11⟩:=cdat;dsimp only at hmro nodel nsok noinit;subst hmro nodel;have hsl:slots = #[j0,j1,j2,j3,some (.builtin nid),j5]:=by
    obtain⟨sl⟩:=slots;simp only at hslots;rw[hslots]
   subst hsl;exact⟨bm2,c4,c1,c5,c2,c6,c7,c8,c9,c10,dict,j0,j1,j2,j3,j5,_,Z _ _ look,.of_isNs (PySem.W.isNs_of_in Z nsok),PySem.W.nsMap_none_of_in Z nsok noinit,PySem.W.tail_of_in Z tl⟩
  ·cases q
 ·cases q
section
variable{X:Cx}{C:Addr}{x:Str}{E:XK}{t:TA}{e:Expr}{es:List Expr}{np cpos pos:Pos}
noncomputable def um(C:Addr)(E:XK)(t:TA):TS:=λ_ σ H=>t σ H λvs H1=>vs.length<=aL/\E (.ref C) none H1
theorem wc(hc:X.calm=true)(hT:Throws X E)(hC:kT X.K C)(hg:Gl X x)(hm:X.mg x=some (.ref C))(ha:PA X (e::es) t)(hd:(x==("__debug__" : Str))=false:=by decide)
  (he:aZ (e::es) X.env=(false,eval e X.env)::aZ es X.env:=by rfl) (hpl:(backTo cpos (aZ es X.env)).any (·.1)=false:=by rfl) :
  PS X (.Raise (some (.Call (.Name x np) (e::es) [] cpos)) none pos) (um C E t):=by
 intro pins s σ H D I h;obtain⟨bm,N,nm,q,bs,hdct,sn,sub,ab,col,dd,k0,k1,k2,k3,k5,mN,hO,hN,hni,T⟩:=CD I.mod.kin hC;refine wpAny_Raise_call_subT (C:=C) (nm:=nm) (q:=q) (N:=N) (bs:=bs) (bm:=bm) (hdct:=hdct) (sn:=sn) (sub:=sub) (ab:=ab) (col:=col) (dd:=dd) (k0:=k0) (k1:=k1) (k2:=k2) (k3:=k3) (k5:=k5)
  PySem.F.excBase_ValueError (mN:=mN) (T.hasType PySem.F.excBase_ValueError.hasBase) (I.ok.hd hc) ?_ hni (gW I hg hm ⟨rfl,?_⟩ hd)
 ·rw[he];show (false||(backTo cpos (aZ es X.env)).any (·.1))=false;rw[hpl];rfl
 ·have ha':=ha cpos pins s σ H _ I h;rw[he]at ha' ⊢;exact Calls.evalArgs_plain (thn ha' λus s1 ⟨vs,H1,I1,r,z,q⟩=>⟨rfl,by rw[<-r.length];exact z,I1.bk _ _ hO,hN.keeps I1.bk,T.keeps I1.bk,λh' e' M=>hT pins σ H1 s1 h' e' _ _ I1 M q⟩)
end
structure eX(k:Nat)(A:aC):Prop where
 dp:A.depth+3 * k+5<recursionLimit
 un:A.units+16 * k+200<cLine
theorem ck.u{k:Nat}{A:aC}(r:ck k A):eX k A:=⟨r.dp,r.un⟩
theorem ck.mark{k:Nat}{A:aC}(r:ck k A)(v:Option ae):eX k (A.mark v):=⟨r.dp,r.un⟩
theorem eX.deeper{k:Nat}{A:aC}(r:eX (k+1) A)(env:Env):eX k (A.deeper env):=
 ⟨by have:=r.dp;show A.depth+1+3 * k+5<_;lia,by have:=r.un;show A.units+3+16 * k+200<_;lia⟩
structure iG(P:aB)(w:aw)(K:ax)(mg:Str->Option ae)(base:Heap)(CX:CXT)(k:Nat)(f:Addr)(fd:bI)(ps:List Str)(sp:Sp):Prop where
 len:∀vs H Q E,sp vs H Q E->vs.length=ps.length
 run:∀(A:aC) (outer:List Env) (s:af) (H:Hp) (args:Args) (us:List ae) (vs:List V) (Q:VK) (E:XK),eX k A->f_ P w K mg base A outer s H->BindsTo s fd args (ps.zip us)->Vals vs us->sp vs H Q E ->
  codeAny (ak P w) A (.call (.ref f) args) (CR CX outer P w H s Q E) s
section
variable{CX:CXT}{P:aB}{w:aw}{K:ax}{mg:Str->Option ae}{base:Heap}{k:Nat}{f:Addr}{fd:bI}{ps:List Str}{sp:Sp}
abbrev fQ(CX:CXT)(P:aB)(w:aw)(K:ax)(mg:Str->Option ae)(base:Heap)(N:List Str)(qual:Str)(scope:aY)(f:Addr)(cd:ae)(A:aC)(outer:List Env)(s:af)(H:Hp)(E:XK):Cx:=
 {eu CX P w K mg base N qual scope f cd A outer s H E with calm:=false}
theorem BS{N:List Str}{qual:Str}{scope:aY}{cd:ae}{A:aC}{outer:List Env}{s s1:af}{H:Hp}{E:XK}{us:List ae}{vs:List V}
  (S:fX N ps scope) (e0:f_ P w K mg base A outer s H) (hl:vs.length=ps.length) (r:Vals vs us)
  (x:InCallC s s.heap.objs.size (bindL (envOfC qual scope s.heap.objs.size f cd).kindOf (ps.zip us) λ_=>none) (bh (s.heap.objs.size+1) scope.names []) (bindC (envOfC qual scope s.heap.objs.size f cd).kindOf (ps.zip us) λ_=>none) s1) :
  Inv (fQ CX P w K mg base N qual scope f cd A outer s H E) [] (start N vs) H s1:=by
 have e1:f_ P w K mg base {A with handled:=none} outer s H:=⟨e0.frames,e0.mod,e0.bs,e0.bsz,e0.funs,e0.frf,e0.hok,e0.bare⟩
 have I:=tq (CX:=CX) (E:=E) (qual:=qual) (A:={A with handled:=none}) (cd:=cd) (f:=f) S rfl e1 hl r x;exact⟨⟨I.ok.mod,I.ok.kind,I.ok.glob,I.ok.blt,I.ok.above,I.ok.inj,I.ok.has,I.ok.cab,λz=>absurd z cf,aC.frames_deeper e0.frames,I.ok.stk,I.ok.exf,I.ok.bs,I.ok.bsz,I.ok.noex,I.ok.exfs,I.ok.funs,I.ok.frf⟩,
  I.os,I.bare,I.base,I.loc,I.cell,I.free,I.freeC,I.pin,I.hok,I.len⟩
theorem xo{name qual:Str}{params:Arguments}{body:List Stmt}{scope:aY}{dV kV doc pm cdv ct oc:ae}{an od:Option Addr}
  {osl:Array (Option ae)}{N:List Str} (lk:K.lookup f=some ⟨oc,od,.func (b7 name qual params body scope dV kV doc pm an cdv ct),osl⟩) (hcd:PySem.W.codeIn K cdv qual=true) (S:fX N ps scope)
  (len:∀vs H Q E,sp vs H Q E->vs.length=ps.length)
  (hbody:∀(A:aC) (outer:List Env) (s:af) (H:Hp) (vs:List V) (Q:VK) (E:XK),eX k (A.deeper (envOfC qual scope s.heap.objs.size f cdv))->sp vs H Q E ->
   ∃t,PSs (fQ CX P w K mg base N qual scope f cdv A outer s H E) body t/\t {nx:=λ_ H'=>Q .non H',rt:=Q} (start N vs) H) :
  iG P w K mg base CX (k+1) f (b7 name qual params body scope dV kV doc pm an cdv ct) ps sp:=by
 refine⟨len,λA outer s H args us vs Q E hr e0 hb r hsp=>?_⟩;have hl:=len _ _ _ _ hsp;have KX:K.In s.heap:=e0.mod.kin.keeps λb o e=>(e0.bs b o e).1
 have lim:s.heap.NoLimit:=e0.mod.nolimit.keeps λb o e=>(e0.bs b o e).1
 have hkind:∀y∈ps.zip us,scope.names.lookup y.1=some .local\/(scope.names.lookup y.1=some .cell/\((bh (s.heap.objs.size+1) scope.names []).lookup y.1).isSome=true):=λ⟨n,v⟩ hy=>by
  rcases S.par n (List.of_mem_zip hy).1 with q|q
  ·exact .inl q
  ·exact .inr ⟨q,PySem.W.cellsFrom_some _ _ _ (.inl q)⟩
 refine codeAny_call_function (by have:=hr.dp;lia) (KX _ _ lk) rfl S.co S.gen rfl (PySem.W.codeRec_of KX hcd) (hb _ _ _ _ ?_);refine wpAny_newFunctionEnv_cells S.kind hkind λenv he s1 x=>?_
 subst he;refine⟨lim.keeps x.toInCall.keep,codeAny_func ?_⟩;obtain⟨t,ht,hq⟩:=hbody A outer s H vs Q E (hr.deeper _) hsp;have I:Inv (fQ CX P w K mg base N qual scope f cdv A outer s H E) [] (start N vs) H s1:=BS S e0 hl r x;refine bT (ht [] s1 (start N vs) H _ I hq) (λfl s' hs=>?_) λe s' hs=>hs
 have fin:∀{σ':St}{H':Hp}{v:V}{u:ae},Inv (fQ CX P w K mg base N qual scope f cdv A outer s H E) [] σ' H' s'->RelV v u->Q v H'->CE outer P w H s Q u s':=
  λ{σ' H' v u} J rv q=>⟨v,H',J.os,J.bare,J.base,J.hok,rv,q⟩
 cases fl with
 |ret u=>
  obtain⟨v,σ',H',J,rv,q⟩:=hs;exact fin J rv q
 |next=>
  obtain⟨σ',H',J,q⟩:=hs;exact fin (v:=V.non) (u:=bP) J rfl q
 |brk=>
  obtain⟨_,_,_,q⟩:=hs;exact a9 q
 |cont=>
  obtain⟨_,_,_,q⟩:=hs;exact a9 q
end
section
variable{X:Cx}{CX:CXT}{k:Nat}{f:Addr}{fd:bI}{ps:List Str}{sp:Sp}{dvs:List V}{ds:List ae}{E:XK}{x:Str}{p pos:Pos}{e:Expr}{es:List Expr}{t:TA}
theorem D6{pins:List (Addr×Obj)}{σ:St}{H:Hp}{s:af}{Q:VK}{us:List ae}{vs:List V}(F:iG X.prog X.w X.K X.mg X.base CX k f fd ps sp)(hr:eX k X.A)(hb:Binds X.K fd ps ds)(hd:Vals dvs ds)(hx:Passes CX X E)
  (I:Inv X pins σ H s) (r:Vals vs us) (h:sp (vs++dvs) H Q E):ah (ak X.prog X.w) X.A (call (.ref f) us) (EP X pins σ Q) X.xe s:=by
 have r2:Vals (vs++dvs) (us++ds):=r.append hd;have hl:(us++ds).length=ps.length:=by rw[<-r2.length];exact F.len _ _ _ _ h
 refine wpAny_call (codeAny_mono (F.run X.A X.stack s H ⟨us,[]⟩ (us++ds) (vs++dvs) Q E hr I.env0 (hb s us I.kIn hl) r2 h) λr s' hq=>?_);cases r with
 |error e=>exact hx pins σ H s e s' I hq
 |ok fl=>
  cases fl with
  |ret u=>exact I.after hq
  |next=>exact a9 hq
  |brk=>exact a9 hq
  |cont=>exact a9 hq
theorem Fz(F:iG X.prog X.w X.K X.mg X.base CX k f fd ps sp)(hr:eX k X.A)(hg:Gl X x)(hm:X.mg x=some (.ref f))(hk:cx X.K (.ref f)=true)(hb:Binds X.K fd ps ds)(hd:Vals dvs ds)(hx:Passes CX X E)
  (ha:PA X (e::es) t) (hdb:(x==("__debug__" : Str))=false:=by decide) (he:aZ (e::es) X.env=(false,eval e X.env)::aZ es X.env:=by rfl) (hpl:(backTo pos (aZ es X.env)).any (·.1)=false:=by rfl) :
  PE X (.Call (.Name x p) (e::es) [] pos) (mv sp dvs E t):=by
 intro pins s σ H Q I h;refine wpAny_Call_Name_kw (gW I hg hm ?_ hdb);refine PySem.W.callWith_K (h₀:=X.base) I.ok.mod.kin hk (thn (ha pos pins s σ H _ I h) λus s1 ⟨vs,H1,I1,r,q⟩=>⟨I1.kIn,?_⟩) he hpl;exact D6 F hr hb hd hx I1 r q
end
noncomputable def gM(x:Addr)(cls:ae):HO:=.ext λh=>∃o vs,h.get? x=some o/\o.cls=cls/\o.data=.fields vs
abbrev Cx.held(X:Cx)(x:Addr):Cx:={X with A:=X.A.mark (some (.ref x)),calm:=false,xe:=λ_ _=>False}
section
variable{X:Cx}{pins:List (Addr×Obj)}{σ:St}{H:Hp}{s:af}
theorem Inv.hold(I:Inv X pins σ H s)(x:Addr):Inv (X.held x) pins σ H s:=
 ⟨⟨I.ok.mod,I.ok.kind,I.ok.glob,I.ok.blt,I.ok.above,I.ok.inj,I.ok.has,I.ok.cab,λz=>absurd z cf,I.ok.frames,I.ok.stk,I.ok.exf,I.ok.bs,I.ok.bsz,I.ok.noex,I.ok.exfs,I.ok.funs,I.ok.frf⟩,
  I.os,I.bare,I.base,I.loc,I.cell,I.free,I.freeC,I.pin,I.hok,I.len⟩
theorem Inv.unhold{x:Addr}(ok:X.Ok)(I:Inv (X.held x) pins σ H s):Inv X pins σ H s:=⟨ok,I.os,I.bare,I.base,I.loc,I.cell,I.free,I.freeC,I.pin,I.hok,I.len⟩
theorem Inv.track(I:Inv X pins σ H s){x:Addr}{o:HO}(hex:X.ex=[])(a:Apart X pins H x)(hl:x≠X.env.locals)(hc:∀y c,X.env.cells.lookup y=some c->c≠x)(ok:zY X.prog X.w (upd H x o) s.heap x o):Inv X pins σ (upd H x o) s:=by
 have nx:∀b u,H b=some u->b≠x:=λb u e z=>by rw[z,a.free]at e;cases e
 refine⟨I.ok,I.os,I.bare,⟨I.base.keep,I.base.slot,λb ob e n h=>?_,I.base.there,λb xs e=>?_,λb ob u e=>?_,λb ps e=>?_⟩,I.loc,I.cell,?_,λy c e=>?_,λp hp=>?_,λb u e=>?_,I.len⟩
 ·rw[qq (λz=>by rw[z,a.new]at e;cases e)];exact I.base.free b ob e n h
 ·have:=I.base.tups b xs e;rw[qq (nx b _ this)];exact this
 ·have:=I.base.frzs b ob u e;rw[qq (nx b _ this)];exact this
 ·obtain⟨more,q⟩:=I.base.tbls b ps e;exact⟨more,by rw[qq (nx b _ q)];exact q⟩
 ·rw[qq (Ne.symm hl)];exact I.free
 ·rw[qq (hc y c e)];exact I.freeC y c e
 ·obtain⟨e,n,r⟩:=I.pin p hp;exact⟨e,by rw[qq (a.pin p hp)];exact n,r⟩
 ·by_cases hb:b=x
  ·subst hb;rw[zC]at e;cases e;exact ok
  ·rw[qq hb]at e;refine(I.hok b u e).stay (λc v _ q=>q) (λc q=>?_) λc xs q=>?_
   ·rw[qq (nx c _ q)];exact q
   ·rw[qq (nx c _ q)];exact q
theorem Inv.forget{h':Heap}{m':Str->Option ae}{t':Nat}(I:Inv X pins σ H s)(hn:h'.Ns X.env.locals m')(hs:Heap.SameBut X.env.locals s.heap h'):Inv X pins (σ.map λ_=>none) H {s with heap:=h',toks:=t'}:=by
 have up:∀b o,X.s₀.heap.get? b=some o->b≠X.env.locals:=λb o e=>a7 (bt (aI e) I.ok.above)
 refine⟨I.ok,I.os,I.bare,⟨λb o e n hb hx=>?_,λb o e n hb hx=>?_,I.base.free,λb o e hx=>?_,I.base.tups,I.base.frzs,I.base.tbls⟩,⟨m',hn,λj y v' e1 e2 e3=>?_⟩,λy c e=>?_,I.free,I.freeC,λp hp=>?_,λb ob e=>?_,by simpa using I.len⟩
 ·exact(hs.2 b (up b o e)).trans (I.base.keep b o e n hb hx)
 ·obtain⟨sl,e1⟩:=I.base.slot b o e n hb hx;exact⟨sl,(hs.2 b (up b o e)).trans e1⟩
 ·obtain⟨o',e1⟩:=I.base.there b o e hx;exact⟨o',(hs.2 b (up b o e)).trans e1⟩
 ·rw[List.getElem?_map]at e2;cases q:σ[j]? with
  |none=>rw[q]at e2;cases e2
  |some z=>rw[q]at e2;cases e2
 ·obtain⟨w',z⟩:=I.cell y c e;exact⟨w',z.sameBut hs (I.cne y c e)⟩
 ·obtain⟨e,n,ne,nf,d⟩:=I.pin p hp;exact⟨(hs.2 p.1 ne).trans e,n,ne,nf,d⟩
 ·refine(I.hok b ob e).stay (λc w' hc q=>(hs.2 c ?_).trans q) (λ_ q=>q) λ_ _ q=>q
  rintro rfl;rcases hc with rfl|hc
  ·rw[I.free]at e;cases e
  ·rw[I.free]at hc;cases hc
end
noncomputable def E7(i:Nat)(K:ax)(C:Addr)(n:Nat)(tb:TS)(Eh:XK)(ts:TS):TS:=λD σ H=>tb {D with nx:=D.nx} σ H /\
 ∀(τ:St) (cls:ae) (H':Hp) (x:Addr),τ.length=n->Eh cls none H'->H' x=none->cg K cls (.ref C)=some true /\
  ts {nx:=λ_ _=>False,rt:=D.rt} (τ.set i (some (.ref x))) (upd H' x (gM x cls))
abbrev Cx.inTry(X:Cx)(pn:List (Addr×Obj))(Et:ae->af->Prop):Cx:={X with pn:=pn,xe:=Et}
theorem Ew{X:Cx}{i:Nat}{C:Addr}{cn n:Str}{np hpos pos:Pos}{body:List Stmt}{b₀:Stmt}{suite:List Stmt}{tb ts:TS}{Eh:XK}(hex:X.ex=[])(hst:X.stack=X.env::X.outer)(hfr:X.env.frame=some X.env.locals)
  (hN:X.N.Nodup) (hi:X.N[i]? = some n) (hl:X.env.scope.names.lookup n=some .local) (hg:Gl X cn) (hm:X.mg cn=some (.ref C))
  (hb:∀pn Et,Passes (CX1 X.prog X.w) (X.inTry pn Et) Eh->PSs (X.inTry pn Et) body tb) (hs:∀x,PSs (X.held x) (b₀::suite) ts) (hd:(cn==("__debug__" : Str))=false:=by decide) :
  PS X (.Try body [.ExceptHandler (some (.Name cn np)) (some n) (b₀::suite) hpos] [] [] pos) (E7 i X.K C X.N.length tb Eh ts):=by
 intro pins s σ H D I h;obtain⟨h1,h2⟩:=h;refine wpAny_Try_except ?_;have okT:∀Et,(X.inTry (X.pn++pins) Et).Ok:=λEt=>
  ⟨I.ok.mod,I.ok.kind,I.ok.glob,I.ok.blt,I.ok.above,I.ok.inj,I.ok.has,I.ok.cab,I.ok.hd,I.ok.frames,I.ok.stk,I.ok.exf,I.ok.bs,I.ok.bsz,I.ok.noex,I.ok.exfs,I.ok.funs,I.ok.frf⟩
 have toT:∀{Et σ H s},Inv X pins σ H s->Inv (X.inTry (X.pn++pins) Et) [] σ H s:=λ{Et σ H s} J=>
  ⟨okT Et,J.os,J.bare,J.base,J.loc,J.cell,J.free,J.freeC,λp hp=>J.pin p (by simpa using hp),J.hok,J.len⟩
 have ofT:∀{Et pins' σ H s},Inv (X.inTry (X.pn++pins) Et) pins' σ H s->Inv X pins σ H s:=λ{Et pins' σ H s} J=>
  ⟨I.ok,J.os,J.bare,J.base,J.loc,J.cell,J.free,J.freeC,λp hp=>J.pin p (List.mem_append_left _ hp),J.hok,J.len⟩
 have hcls:(X.env.scope.kind==.class||(X.env.scope.kind==.module&&X.env.locals != X.env.globals))=false:=by rw[I.ok.kind];rfl
 have hP:Passes (CX1 X.prog X.w) (X.inTry (X.pn++pins) λe s₁=>ah (ak X.prog X.w) X.A (noteFrame e X.env) (λ_ s₂=>ah (ak X.prog X.w) X.A (setFlight e none) (λ_ s₃=>
   ah (ak X.prog X.w) X.A (handleBy e X.env [.ExceptHandler (some (.Name cn np)) (some n) (b₀::suite) hpos]) (SP X pins D) X.xe s₃) X.xe s₂) X.xe s₁) Eh:=by
  intro pins' σ' H' s' e s'' I' hcx;obtain⟨x,cls,H2,rfl,I2,F2,q⟩:=jC (X:=X.inTry (X.pn++pins) _) rfl rfl I' hex hcx;have I3:Inv X pins σ' H2 s'':=ofT I2;have ap:∀{Et b},Apart (X.inTry (X.pn++pins) Et) pins' H2 b->Apart X pins H2 b:=λ{Et b} a=>⟨a.new,a.free,λp hp=>a.pin p (List.mem_append_left _ hp)⟩
  have F3:b_ X pins H2 s''.heap x cls:=by
   obtain⟨oe,vs,T,oT,ts,a0,e1,e2,e3,e4,e5,e6,e7,e8,e9,e10⟩:=F2.tr;exact⟨ap F2.me,oe,vs,T,oT,ts,a0,e1,e2,e3,e4,e5,e6,e7,e8,e9,ap e10⟩
  obtain⟨oe,vs,_,_,_,_,e1,_,_,e4,_⟩:=id F3.tr;obtain⟨T,oT,tts,a0,W,hT,hTd,aT⟩:=b_.flying I3 F3;have hfrm:=I.ok.frames;rw[hst]at hfrm W;refine wpAny_looks_onW hfrm hfr W λh4 W4 u4=>?_
  refine wpAny_landsW W4 λh5 W5 u5=>?_
  rw[<-hst]at W5;obtain⟨I5,F5⟩:=b_.back I3 hex F3.me e1 e4 hT hTd aT W5 (u4.trans u5);obtain⟨oe5,vs5,T5,oT5,ts5,a5,g1,g2,g3,g4,g5,g6,g7,g8,g9,g10⟩:=id F5.tr;obtain⟨hx1,hx2⟩:=h2 σ' cls H2 x I3.len q F3.me.free;have LT:PySem.W.Looks (ak X.prog X.w) h5 (typeOf (.ref x)) cls:=by
   subst g2;exact(PySem.W.Looks.ld g1).andThen .now
  refine wpAny_handleBy_cons (codeAny_handlers_test (gW (I5.hold x) hg hm ?_ hd)) (by intro z;cases z);refine PySem.W.exm_one (K:=X.K) I5.kIn LT hx1 _ _ _ _ (λ_ _ e=>e) ?_;refine codeAny_handlers_suite_as ?_;obtain⟨T6,oT6,ts6,a6,W6,hT6,hTd6,aT6⟩:=b_.flying I5 F5;refine lands_againW W6 λh6 W6' u6=>?_
  obtain⟨I6,F6⟩:=b_.back I5 hex F5.me g1 g4 hT6 hTd6 aT6 W6' u6;obtain⟨oe6,vs6,_,_,_,_,k1,k2,_,k4,_⟩:=id F6.tr;obtain⟨n1,n2,n3,n4⟩:=I6.rec_ne k1 k4;have I7:=I6.track (o:=gM x cls) hex F6.me n1 n2 ⟨⟨oe6,vs6,k1,k2,k4⟩,⟨oe6,k1⟩,λha hb ⟨o,ws,z1,z2,z3⟩ kk=>⟨o,ws,kk o z1,z2,z3⟩⟩;refine lC (X:=X.held x) (v:=.ref x) (I7.hold x) hN hi (.inl hl) rfl (λs8 I8=>?_) (.inr hl);refine bT (hs x pins s8 _ _ _ I8 hx2) (λf s9 r9=>?_) λ_ _ z=>a9 z
  cases f with
  |ret u=>
   obtain⟨v,σ9,H9,I9,rv,q9⟩:=r9;have I9':=I9.unhold I.ok;obtain⟨m,hn,_⟩:=I9'.loc;exact wpAny_nameGoes hl hn hcls λh' m' hn' hs'=>⟨v,_,H9,I9'.forget hn' hs',rv,q9⟩
  |next=>obtain⟨_,_,_,z⟩:=r9;exact a9 z
  |brk=>obtain⟨_,_,_,z⟩:=r9;exact a9 z
  |cont=>obtain⟨_,_,_,z⟩:=r9;exact a9 z
 refine thn (hb _ _ hP [] s σ H _ (toT I) h1) λf s1 q=>?_
 cases f with
 |next=>obtain⟨σ1,H1,I1,q1⟩:=q;exact wpAny_execs_nil ⟨σ1,H1,ofT I1,q1⟩
 |brk=>obtain⟨σ1,H1,I1,q1⟩:=q;exact⟨σ1,H1,ofT I1,q1⟩
 |cont=>obtain⟨σ1,H1,I1,q1⟩:=q;exact⟨σ1,H1,ofT I1,q1⟩
 |ret u=>obtain⟨v,σ1,H1,I1,rv,q1⟩:=q;exact⟨v,σ1,H1,ofT I1,rv,q1⟩
end L2
namespace L2
open PySem PySem.Spec PyProof.Rows PySem.W PySem.Calls Builtin Builtin.ObjectAttr Builtin.Getset_descriptor
structure dI(K:Frag)(C:Addr):Prop where
 ga:findIn K (.ref C) "__getattribute__" = some (some (.builtin "BaseException.__getattribute__"))
 gt:findIn K (.ref C) "__getattr__" = some none
 gc:findIn K (.ref C) "__class__" = some (some (.builtin "object.__class__"))
 mb:mroIn K C (.type "BaseException")=some true
 mo:mroIn K C (.type "object")=some true
 cl:∃c dd cd sl,K.lookup C=some ⟨c,dd,.cls cd,sl⟩
section
variable{prog:aB}{w:aw}{A:aC}{E:ae->af->Prop}{h:Heap}{g:Array GenState}{d:Drawn}{t:Nat}{os:OsState}{x C:Addr}{K:Frag}
theorem Ad{R:Result->af->Prop}{tp:ae}(Z:K.In h)(S:dI K C)(L0:Looks (ak prog w) h (typeOf (.ref x)) (.ref C))(hx:∃o,h.get? x=some o/\o.cls=.ref C)(hq:R (.ok (.ret (.ref C))) ⟨h,g,d,t,os⟩) :
  codeAny (ak prog w) A (.call (.builtin "getset_descriptor.__get__") ⟨[.builtin "object.__class__",.ref x,tp],[]⟩) R ⟨h,g,d,t,os⟩:=by
 have L1:=looks_mroIn (M:=ak prog w) Z S.mo;obtain⟨o,ho,hc⟩:=hx;refine codeAny_call_builtin KF.slot_gs.plain KF.entry_gs (KF.slot_gs.check _ _ _ _ _ _ _ _ KF.type_class (KF.args_gs _ _ _) ?_);unfold Builtin.«getset_descriptor.__get__» descrGet;rw[dga_obj];refine ag (aq ?_);unfold descrGetter descrCheckInstance descrNameAndClass isInstance;simp only[KF.owner_class]
 repeat lk
 refine⟨Code.quiet_builtin _ (by decide +kernel),dF KF.entry_class ?_⟩;unfold Builtin.«object.__class__» shownTypeOf
 repeat lk
 exact hq
theorem CF{M:Model}{nameV:ae}{Q:Unit->af->Prop}(Z:K.In h)(S:dI K C)(L0:Looks M h (typeOf (.ref x)) (.ref C))(hq:Q () ⟨h,g,d,t,os⟩) :
  ah M A (checkBuiltinCall "BaseException.__getattribute__" ⟨[.ref x,nameV],[]⟩) Q E ⟨h,g,d,t,os⟩:=by
 have hk:builtinKind "BaseException.__getattribute__" = some .slot:=by decide +kernel
 have hsplit:splitId "BaseException.__getattribute__" = some ("BaseException","__getattribute__"):=by decide +kernel
 have L1:=looks_mroIn (M:=M) Z S.mb;have ha:=F.args_bexc_ga (.ref x) nameV;simp only[checkBuiltinCall,hk,hsplit];refine ag ?_;unfold isInstance
 repeat (first|assumption|lk|wp_step)
theorem xi{tk:Tok}{Q:Fin->af->Prop}(Z:K.In h)(S:dI K C)(L0:Looks (ak prog w) h (typeOf (.ref x)) (.ref C))(hx:∃o,h.get? x=some o/\o.cls=.ref C)(hq:Q (.done (.ret (.ref C))) ⟨h,g,d,t,os⟩) :
  ah (ak prog w) A (Builtin.«object.__getattribute__» ⟨[.ref x,.str "__class__" tk],[]⟩) Q E ⟨h,g,d,t,os⟩:=by
 have hT5:(⟨h,g,d,t,os⟩:af).TypeIs (.builtin "object.__class__") "getset_descriptor":=F.typeOf_object_class;have L2:=looks_findIn (M:=ak prog w) Z S.gc;have f5:=F.typeOf_object_class;have f6:=F.slot_gs_get.lookup;have f7:=F.slot_gs_set.lookup
 repeat (any_goals (first|assumption|with_reducible refine L0.at ?_|with_reducible refine ag (L0.at ?_)|with_reducible refine L2.at ?_|with_reducible refine ag (L2.at ?_)|wp_step))
 refine Ad Z S L0 hx ?_
 repeat (any_goals (first|assumption|wp_step))
theorem vB{tk:Tok}{Q:ae->af->Prop}(Z:K.In h)(S:dI K C)(L0:Looks (ak prog w) h (typeOf (.ref x)) (.ref C))(hx:∃o,h.get? x=some o/\o.cls=.ref C)(hq:Q (.ref C) ⟨h,g,d,t,os⟩) :
  ah (ak prog w) A (getAttrBy (.ref x) (.str "__class__" tk) false) Q E ⟨h,g,d,t,os⟩:=by
 have f3:=F.attr_ValueError.ga.bind (.ref x);have hx2:(ae.builtin "BaseException.__getattribute__" == ae.builtin "object.__getattribute__")=false:=by decide +kernel
 have hx1:(onTheHeap (bF C)&&ae.builtin "BaseException.__getattribute__" == ae.builtin "object.__getattribute__")=false:=by rw[hx2];rfl
 have L2:=looks_findIn (M:=ak prog w) Z S.ga;have L3:=looks_findIn (M:=ak prog w) Z S.gt
 repeat (any_goals (first|assumption|with_reducible refine L0.at ?_|with_reducible refine ag (L0.at ?_)|with_reducible refine L2.at ?_|with_reducible refine ag (L2.at ?_)|with_reducible refine L3.at ?_|with_reducible refine ag (L3.at ?_)|wp_step))
 refine codeAny_call_builtin F.attr_ValueError.ga.plain F.entry_bexc_ga (CF Z S L0 (xi Z S L0 hx ?_))
 repeat (any_goals (first|assumption|wp_step))
theorem y7{Q:Option ae->af->Prop}(Z:K.In h)(S:dI K C)(L0:Looks (ak prog w) h (typeOf (.ref x)) (.ref C))(hx:∃o,h.get? x=some o/\o.cls=.ref C)(hq:Q (some (.ref C)) ⟨h,g,d,t+1,os⟩) :
  ah (ak prog w) A (getAttr? (.ref x) "__class__") Q E ⟨h,g,d,t,os⟩:=by
 unfold getAttr? getAttrBy?
 repeat (any_goals (first|assumption|with_reducible apply vB Z S L0 hx|wp_step))
end
end L2
namespace L2
open PySem PySem.Spec PyProof.Rows
structure gO(prog:aB)(w:aw)(xs:Array ae)(i l:Addr)(P:Nat->Heap->Prop):Prop where
 fr:∀k h h',P k h->(∀o,h.get? i=some o->h'.get? i=some o)->(∀o,h.get? l=some o->h'.get? l=some o)->P k h'
 nx:∀{A:aC} (k:Nat) (x:ae) (s:af) (Q:ae->af->Prop) (E:ae->af->Prop),P k s.heap->xs[k]? = some x->(∀h',P (k+1) h'->Heap.SameBut i s.heap h'->Q x {s with heap:=h'})->ah (ak prog w) A (cH (.ref i)) Q E s
 en:∀{A:aC} (k:Nat) (s:af) (Q:ae->af->Prop) (E:ae->af->Prop),A.handled=none->P k s.heap->xs[k]? = none ->
  (∀h' e,Heap.ExtBut i s.heap h'->(∃o,h'.get? e=some o/\o.cls=.type "StopIteration")->E (.ref e) {s with heap:=h'})->ah (ak prog w) A (cH (.ref i)) Q E s
 at_:∀k h,P k h->∃o,h.get? i=some o/\∃vs,o.data=.fields vs
theorem Di{prog:aB}{w:aw}{xs:Array ae}{i l:Addr}:gO prog w xs i l (λk h=>h.IsListIter i l k/\h.IsList l xs) where
 fr:=λ_ _ _ ⟨a,b⟩ p q=>⟨a.at p,b.at q⟩
 nx:=λk x s Q E ⟨a,b⟩ hx hQ=>wpAny_nextOf_list_item a b hx λh' a' sb=>hQ h' ⟨a',b.at λo e=>(sb.2 l (λz=>by
  obtain⟨_,e1,e2,_⟩:=a;obtain⟨_,f1,f2,_⟩:=b;rw[z,e1]at f1;have e3:=bM f1;rw[<-e3,e2]at f2;exact absurd f2 (by decide))).trans e⟩ sb
 en:=λk s Q E hh ⟨a,b⟩ hx hE=>wpAny_nextOf_list_end hh a b hx hE
 at_:=λ_ _ ⟨⟨o,e,_,d⟩,_⟩=>⟨o,e,_,d⟩
section
variable{prog:aB}{w:aw}{A:aC}{E:ae->af->Prop}{s:af}
theorem En{it l:Addr}{i:Nat}{items}{x:ae}{Q:ae->af->Prop}(hit:s.heap.IsTupleIter it l i)(hl:s.heap.IsTuple l items)(hx:items[i]? = some x)
  (hQ:∀h',h'.IsTupleIter it l (i+1)->Heap.SameBut it s.heap h'->Q x {s with heap:=h'}):ah (ak prog w) A (cH (.ref it)) Q E s:=by
 obtain⟨oi,gi,ci,di⟩:=id hit;obtain⟨ol,gl,_,nl,dl⟩:=hl;unfold cH;refine ag (wpAny_callSpecial?_slot (name:=ao "__next__") hit.typeIs F.slot_tuple_iterator_next (b5 F.slot_tuple_iterator_next hit.typeIs F.entry_tuple_iterator_next ?_ (F.args_tuple_iterator_next_1 _)));show ah (ak prog w) _ (field (.ref it) 0>>=_) _ _ s;refine ag (bD gi di (x:=.ref l) rfl ?_);show ah (ak prog w) _ (if (bF l==bP)=true then _ else _) _ _ s;rw[if_neg (show ¬ ((bF l==.none)=true)from cf)];show ah (ak prog w) _ (field (.ref it) 1>>=_) _ _ s;refine ag (bD gi di (x:=.int i 0) rfl ?_);show ah (ak prog w) _ (seqItems? (.ref l)>>=_) _ _ s;refine ag (wpAny_seqItems gl dl ?_);simp only[Int.toNat_natCast,hx];refine ag (wpAny_setField gi di (by simp) (aq ⟨x,rfl,aq (hQ _ ?_ (Heap.SameBut.update ..))⟩));exact⟨_,Heap.get?_update_self _ gi (Obj.isFreed_of_fields (Obj.data_mapFields di _)),(Obj.cls_mapFields ..).trans ci,by rw[Obj.data_mapFields di];simp[rawInt]⟩
theorem wL{it l:Addr}{i:Nat}{items}{Q:ae->af->Prop}(hh:A.handled=none)(hit:s.heap.IsTupleIter it l i)(hl:s.heap.IsTuple l items)(hx:items[i]? = none)
  (hE:∀h' e,Heap.ExtBut it s.heap h'->(∃o,h'.get? e=some o/\o.cls=.type "StopIteration")->E (.ref e) {s with heap:=h'}):ah (ak prog w) A (cH (.ref it)) Q E s:=by
 obtain⟨oi,gi,ci,di⟩:=id hit;obtain⟨ol,gl,_,nl,dl⟩:=hl;unfold cH;refine ag (wpAny_callSpecial?_slot (name:=ao "__next__") hit.typeIs F.slot_tuple_iterator_next (b5 F.slot_tuple_iterator_next hit.typeIs F.entry_tuple_iterator_next ?_ (F.args_tuple_iterator_next_1 _)));show ah (ak prog w) _ (field (.ref it) 0>>=_) _ _ s;refine ag (bD gi di (x:=.ref l) rfl ?_);show ah (ak prog w) _ (if (bF l==bP)=true then _ else _) _ _ s;rw[if_neg (show ¬ ((bF l==.none)=true)from cf)];show ah (ak prog w) _ (field (.ref it) 1>>=_) _ _ s;refine ag (bD gi di (x:=.int i 0) rfl ?_);show ah (ak prog w) _ (seqItems? (.ref l)>>=_) _ _ s;refine ag (wpAny_seqItems gl dl ?_);simp only[Int.toNat_natCast,hx];refine ag (wpAny_rule (ag (wpAny_setField gi di (by simp) ?_)));show ah (ak prog w) _ (newExc (.type "StopIteration") []>>=_) _ _ _;refine ag ?_;simp only[newExc,newTuple];refine ag (bK ?_ (by size_fits));refine ag (m:=firstArgMember _ _) (wpAny_of_eq (a:=bP) (by first|rfl|(simp only[firstArgMember];rfl)) ?_);refine bK ?_ (by size_fits);simp only[raiseNew];refine ag (wpAny_handled ?_)
 first|rw[show A.in1.handled=none from hh]|rw[hh]
 refine ag (aq (wpAny_throw ?_));exact hE _ _ (((Heap.SameBut.update ..).extBut.push _).push _) ⟨_,Heap.get?_push_size _ rfl,rfl⟩
end
theorem Ej{prog:aB}{w:aw}{xs:Array ae}{i l:Addr}:gO prog w xs i l (λk h=>h.IsTupleIter i l k/\h.IsTuple l xs) where
 fr:=λ_ _ _ ⟨a,b⟩ p q=>⟨a.at p,let ⟨o,e,r⟩:=b;⟨o,q o e,r⟩⟩
 nx:=λk x s Q E ⟨a,b⟩ hx hQ=>En a b hx λh' a' sb=>hQ h' ⟨a',b.extBut sb.extBut (λz=>by
  obtain⟨_,e1,e2,_⟩:=a;obtain⟨_,f1,f2,_⟩:=b;rw[z,e1]at f1;have e3:=bM f1;rw[<-e3,e2]at f2;exact absurd f2 (by decide))⟩ sb
 en:=λk s Q E hh ⟨a,b⟩ hx hE=>wL hh a b hx hE
 at_:=λ_ _ ⟨⟨o,e,_,d⟩,_⟩=>⟨o,e,_,d⟩
section
variable{prog:aB}{w:aw}{A:aC}{E:ae->af->Prop}{s:af}{z TI TO i1 i2 l1 l2:Addr}{k:Nat}{xs ys:Array ae}{P1 P2:Nat->Heap->Prop}
structure FA(z TI TO i1 i2 l1 l2:Addr):Prop where
 d:ZipApart z TI TO i1 i2 l1 l2
theorem yr{x y a b:ae}{Q:ae->af->Prop}(D:ZipApart z TI TO i1 i2 l1 l2)(S1:gO prog w xs i1 l1 P1)(S2:gO prog w ys i2 l2 P2)
  (hz:IsZip s.heap z TI TO .none) (hTI:IsPair s.heap TI (.ref i1) (.ref i2)) (hTO:IsPair s.heap TO a b) (h1:P1 k s.heap) (h2:P2 k s.heap) (hx:xs[k]? = some x) (hy:ys[k]? = some y)
  (hQ:∀h',IsZip h' z TI TO (rawInt s.heap.objs.size)->IsPair h' TO x y->P1 (k+1) h'->P2 (k+1) h'->IsPair h' s.heap.objs.size x y->h'.objs.size=s.heap.objs.size+1 ->
   (∀c o,c≠z->c≠TO->c≠i1->c≠i2->s.heap.get? c=some o->h'.get? c=some o)->Q (.ref s.heap.objs.size) {s with heap:=h'}) :
  ah (ak prog w) A (Builtin.«zip.__next__» ⟨[.ref z],[]⟩) (λfin s'=>∃v,fin=.done (.ret v)/\Q v s') E s:=by
 show ah (ak prog w) _ (field (.ref z) 2>>=_) _ _ _;refine ag (bD hz rfl (x:=.bool false) rfl ?_);show ah (ak prog w) _ (field (.ref z) 3>>=_) _ _ _;refine ag (bD hz rfl (x:=.ref TI) rfl ?_);refine ag (wpAny_seqItems hTI rfl ?_);show ah (ak prog w) _ (Builtin.SmallTypes.ownedTupleIsFree (.ref z)>>=_) _ _ _;refine ag ?_;unfold Builtin.SmallTypes.ownedTupleIsFree;refine ag (bD hz rfl (x:=.none) rfl (aq ?_));simp only[if_true];refine ag (wpAny_rule ?_);refine ag (bD hz rfl (x:=.ref TO) rfl ?_);refine ag (wpAny_setField_rec hz (by simp) λj1 zj1 sj1=>?_)
 replace zj1:IsZip j1 z TI TO .ellipsis:=zj1
 refine ag ?_;simp only[List.zipIdx_cons,List.zipIdx_nil,List.forIn_cons,List.forIn_nil];refine ag (ag (wpAny_onRaise ?_));show ah (ak prog w) _ (cH (.ref i1)>>=_) _ _ _;refine ag (S1.nx k x _ _ _ (S1.fr k _ _ h1 (λo e=>sj1.extBut _ o D.i1z e) λo e=>sj1.extBut _ o D.l1z e) hx λj2 pj2 sj2=>aq ?_);have oj2:IsPair j2 TO a b:=sj2.extBut _ _ D.TOi1 (sj1.extBut _ _ D.TOz hTO);refine ag (wpAny_seqItems oj2 rfl ?_);refine ag (wpAny_updateSeq_pair oj2 λj3 oj3 sj3=>?_)
 replace oj3:IsPair j3 TO x b:=oj3
 refine ag (wpAny_letGo (aq ?_));refine ag (ag (wpAny_onRaise ?_));show ah (ak prog w) _ (cH (.ref i2)>>=_) _ _ _;refine ag (S2.nx k y _ _ _ (S2.fr k _ _ h2 (λo e=>sj3.extBut _ o D.TOi2.symm (sj2.extBut _ o D.i12.symm (sj1.extBut _ o D.i2z e))) λo e=>sj3.extBut _ o D.l2TO (sj2.extBut _ o D.l2i1 (sj1.extBut _ o D.l2z e))) hy λj4 pj4 sj4=>aq ?_);have oj4:IsPair j4 TO x b:=sj4.extBut _ _ D.TOi2 oj3;refine ag (wpAny_seqItems oj4 rfl ?_);refine ag (wpAny_updateSeq_pair oj4 λj5 oj5 sj5=>?_)
 replace oj5:IsPair j5 TO x y:=oj5
 refine ag (wpAny_letGo (aq (aq ?_)));refine ag (wpAny_seqItems oj5 rfl ?_);refine ag (wpAny_newTuple ?_);have hsz:j5.objs.size=s.heap.objs.size:=by rw[sj5.1,sj4.1,sj3.1,sj2.1,sj1.1]
 have zj5:IsZip j5 z TI TO .ellipsis:=sj5.extBut _ _ D.TOz.symm (sj4.extBut _ _ D.i2z.symm (sj3.extBut _ _ D.TOz.symm (sj2.extBut _ _ D.i1z.symm zj1)));have kj5:∀c o,c≠z->c≠TO->c≠i1->c≠i2->s.heap.get? c=some o->j5.get? c=some o:=λc o c1 c2 c3 c4 e=>
  sj5.extBut _ _ c2 (sj4.extBut _ _ c4 (sj3.extBut _ _ c2 (sj2.extBut _ _ c3 (sj1.extBut _ _ c1 e))))
 have p15:P1 (k+1) j5:=S1.fr _ _ _ pj2 (λo e=>sj5.extBut _ o D.TOi1.symm (sj4.extBut _ o D.i12 (sj3.extBut _ o D.TOi1.symm e))) λo e=>sj5.extBut _ o D.l1TO (sj4.extBut _ o D.l1i2 (sj3.extBut _ o D.l1TO e))
 have p25:P2 (k+1) j5:=S2.fr _ _ _ pj4 (λo e=>sj5.extBut _ o D.TOi2.symm e) λo e=>sj5.extBut _ o D.l2TO e
 have hzlt:z<j5.objs.size:=aI zj5;show ah (ak prog w) _ (Builtin.SmallTypes.ownedTupleHandOut (.ref z) (.ref j5.objs.size)>>=_) _ _ _;refine ag ?_;unfold Builtin.SmallTypes.ownedTupleHandOut;have zj6:IsZip (j5.push {cls:=.type "tuple",data:=.seq #[x,y]}) z TI TO .ellipsis:=Heap.get?_push_of_some _ zj5;refine ag (wpAny_setField_rec zj6 (by simp) λj7 zj7 sj7=>?_)
 replace zj7:IsZip j7 z TI TO (rawInt j5.objs.size):=zj7
 refine wpAny_setField_rec zj7 (by simp) λj8 zj8 sj8=>?_
 replace zj8:IsZip j8 z TI TO (rawInt j5.objs.size):=zj8
 have up:∀c o,c≠z->j5.get? c=some o->j8.get? c=some o:=λc o c1 e=>sj8.extBut _ _ c1 (sj7.extBut _ _ c1 (Heap.get?_push_of_some _ e))
 have tj8:IsPair j8 j5.objs.size x y:=sj8.extBut _ _ (Nat.ne_of_gt hzlt) (sj7.extBut _ _ (Nat.ne_of_gt hzlt) (Heap.get?_push_size _ rfl));have hz8:j8.objs.size=j5.objs.size+1:=by rw[sj8.1,sj7.1,bC]
 rw[hsz]at zj8 tj8 hz8;refine aq ⟨_,rfl,?_⟩;show Q (.ref j5.objs.size) _;rw[hsz];exact hQ j8 zj8 (up _ _ D.TOz oj5) (S1.fr _ _ _ p15 (λo e=>up _ o D.i1z e) λo e=>up _ o D.l1z e) (S2.fr _ _ _ p25 (λo e=>up _ o D.i2z e) λo e=>up _ o D.l2z e) tj8 hz8 λc o c1 c2 c3 c4 e=>up c o c1 (kj5 c o c1 c2 c3 c4 e)
theorem CW{a b:ae}{Q:PySem.Fin->af->Prop}(hh:A.handled=none)(D:ZipApart z TI TO i1 i2 l1 l2)(S1:gO prog w xs i1 l1 P1)
  (hz:IsZip s.heap z TI TO .none) (hTI:IsPair s.heap TI (.ref i1) (.ref i2)) (hTO:IsPair s.heap TO a b) (h1:P1 k s.heap) (hx:xs[k]? = none)
  (hE:∀h' e,(∀c o,c≠z->c≠TO->c≠i1->c≠i2->s.heap.get? c=some o->h'.get? c=some o)->(∃o,h'.get? e=some o/\o.cls=.type "StopIteration")->E (.ref e) {s with heap:=h'}) :
  ah (ak prog w) A (Builtin.«zip.__next__» ⟨[.ref z],[]⟩) Q E s:=by
 show ah (ak prog w) _ (field (.ref z) 2>>=_) _ _ _;refine ag (bD hz rfl (x:=.bool false) rfl ?_);show ah (ak prog w) _ (field (.ref z) 3>>=_) _ _ _;refine ag (bD hz rfl (x:=.ref TI) rfl ?_);refine ag (wpAny_seqItems hTI rfl ?_);show ah (ak prog w) _ (Builtin.SmallTypes.ownedTupleIsFree (.ref z)>>=_) _ _ _;refine ag ?_;unfold Builtin.SmallTypes.ownedTupleIsFree;refine ag (bD hz rfl (x:=.none) rfl (aq ?_));simp only[if_true];refine ag (wpAny_rule ?_);refine ag (bD hz rfl (x:=.ref TO) rfl ?_);refine ag (wpAny_setField_rec hz (by simp) λj1 zj1 sj1=>?_)
 replace zj1:IsZip j1 z TI TO .ellipsis:=zj1
 refine ag ?_;simp only[List.zipIdx_cons,List.zipIdx_nil,List.forIn_cons,List.forIn_nil];refine ag (ag (wpAny_onRaise ?_));show ah (ak prog w) _ (cH (.ref i1)>>=_) _ _ _;refine ag (S1.en k _ _ _ hh (S1.fr k _ _ h1 (λo e=>sj1.extBut _ o D.i1z e) λo e=>sj1.extBut _ o D.l1z e) hx λj2 e sj2 he=>?_);obtain⟨oe,hoe,hce⟩:=he;have zj2:IsZip j2 z TI TO .ellipsis:=sj2 _ _ D.i1z.symm zj1;have hez:e≠z:=λq=>by subst q;rw[zj2]at hoe;cases hoe;simp at hce
 refine wpAny_setField_rec zj2 (by simp) λj3 _ sj3=>hE j3 e (λc o c1 _ c3 _ q=>sj3.extBut _ _ c1 (sj2 _ _ c3 (sj1.extBut _ _ c1 q))) ⟨oe,sj3.extBut _ _ hez hoe,hce⟩
end
section
variable{X:Cx}{pins:List (Addr×Obj)}{σ:St}{H:Hp}{s:af}{h':Heap}{tk:Nat}
theorem Inv.turnNew{ch:List Addr}{p:Addr}{vs:List V}{its:List ae}(I:Inv X pins σ H s)(hf:∀b∈ch,dJ X pins H b)(k:∀b o,b∉ch->s.heap.get? b=some o->h'.get? b=some o)
  (hp:s.heap.objs.size<=p) (ht:IsTup h' p its.toArray) (r:Vals vs its) (hz:vs.length<=aL):Inv X pins σ (upd H p (.tup vs)) {s with heap:=h',toks:=tk}:=by
 have hpn:H p=none:=I.hok.fresh hp;have nch:∀b u,H b=some u->b∉ch:=λb u e z=>by have:=(hf b z).1;rw[e]at this;cases this
 have np:∀b u,H b=some u->b≠p:=λb u e z=>by rw[z,hpn]at e;cases e
 refine I.step (g':=s.gens) (d':=s.drawn) (ch:=ch) (λb hb=>?_) (λb o _ _ hc e _=>k b o hc e) (λb o _ _ hc e _=>⟨o.slots,k b o hc e⟩) (λb o hc e n=>?_) (λb o hc e=>⟨o,k b o hc e⟩)
  (λb xs e=>by rw[qq (np b _ e)];exact e) (λb o u e=>by rw[qq (np b _ e)];exact e) (λb ps e=>⟨#[],by rw[qq (np b _ e),e];simp⟩) (λm hm=>?_) (λb u e=>?_) I.bare
 ·obtain⟨f0,f1,f2,f3,f4,f5⟩:=hf b hb;exact⟨f3,f1,f4,f5⟩
 ·rw[qq (a7 (bt (aI e) hp))];exact n
 ·obtain⟨o,es,ep,ho,r⟩:=hm;exact⟨o,es,ep,k _ o (λz=>(hf _ z).2.1 rfl) ho,r⟩
 ·by_cases hb:b=p
  ·subst hb;rw[zC]at e;cases e;exact⟨hz,its,r,ht⟩
  ·rw[qq hb]at e;refine(I.hok b u e).stay (λc v hc q=>k c v ?_ q) (λc q=>by rw[qq (np c _ q)];exact q) λc xs q=>by rw[qq (np c _ q)];exact q
   rcases hc with z|z
   ·rw[z];exact nch b u e
   ·exact nch c _ z
theorem Inv.turnAll{ch:List Addr}(I:Inv X pins σ H s)(hf:∀b∈ch,dJ X pins H b)(k:∀b o,b∉ch->s.heap.get? b=some o->h'.get? b=some o):Inv X pins σ H {s with heap:=h',toks:=tk}:=by
 have nch:∀b u,H b=some u->b∉ch:=λb u e z=>by have:=(hf b z).1;rw[e]at this;cases this
 refine I.step (g':=s.gens) (d':=s.drawn) (ch:=ch) (λb hb=>?_) (λb o _ _ hc e _=>k b o hc e) (λb o _ _ hc e _=>⟨o.slots,k b o hc e⟩) (λb o hc e n=>n) (λb o hc e=>⟨o,k b o hc e⟩)
  (λb xs e=>e) (λb o u e=>e) (λb ps e=>⟨#[],by rw[e];simp⟩) (λm hm=>?_) (λb u e=>?_) I.bare
 ·obtain⟨f0,f1,f2,f3,f4,f5⟩:=hf b hb;exact⟨f3,f1,f4,f5⟩
 ·obtain⟨o,es,ep,ho,r⟩:=hm;exact⟨o,es,ep,k _ o (λz=>(hf _ z).2.1 rfl) ho,r⟩
 ·refine(I.hok b u e).stay (λc v hc q=>k c v ?_ q) (λc q=>q) λc xs q=>q
  rcases hc with z|z
  ·rw[z];exact nch b u e
  ·exact nch c _ z
end
noncomputable def Sq2(K:ax)(tup:Bool)(H:Hp)(a:Addr)(xs:List V):Prop:=if tup=true then SqT K H a xs else SqL K H a xs
noncomputable def Itz(K:ax)(tup:Bool)(l1 l2:Addr):It:=
 ⟨λi H=>∃xs ys x y,Sq2 K tup H l1 xs/\Sq2 K tup H l2 ys/\xs[i]? = some x/\ys[i]? = some y,
  λi H v H'=>∃p x y,H p=none/\v=.ref p/\H'=upd H p (.tup [x,y])/\(∀xs,Sq2 K tup H l1 xs->xs[i]? = some x)/\∀ys,Sq2 K tup H l2 ys->ys[i]? = some y,
  λi H=>∃xs ys,Sq2 K tup H l1 xs/\Sq2 K tup H l2 ys/\xs.length<=i⟩
noncomputable def eU(tup:Bool)(h:Heap)(i l:Addr)(k:Nat):Prop:=if tup=true then h.IsTupleIter i l k else h.IsListIter i l k
noncomputable def sh(tup:Bool)(h:Heap)(l:Addr)(xs:Array ae):Prop:=if tup=true then h.IsTuple l xs else h.IsList l xs
theorem lZ{prog:aB}{w:aw}{xs:Array ae}{i l:Addr}{tup:Bool}:gO prog w xs i l (λk h=>eU tup h i l k/\sh tup h l xs):=by
 cases tup with
 |true=>exact Ej
 |false=>exact Di
theorem eU.rec{tup:Bool}{h:Heap}{i l:Addr}{k:Nat}(x:eU tup h i l k):∃o vs,h.get? i=some o/\o.data=.fields vs:=by
 cases tup with
 |true=>obtain⟨o,e,_,d⟩:=(show h.IsTupleIter i l k from x);exact⟨o,_,e,d⟩
 |false=>obtain⟨o,e,_,d⟩:=(show h.IsListIter i l k from x);exact⟨o,_,e,d⟩
theorem eU.kept{tup:Bool}{h h':Heap}{i l:Addr}{k:Nat}(x:eU tup h i l k)(p:∀o,h.get? i=some o->h'.get? i=some o):eU tup h' i l k:=by
 cases tup with
 |true=>exact(show h.IsTupleIter i l k from x).at p
 |false=>exact(show h.IsListIter i l k from x).at p
theorem Inv.sq2{X:Cx}{pins:List (Addr×Obj)}{σ:St}{H:Hp}{s:af}{tup:Bool}{a:Addr}{xs:List V}(I:Inv X pins σ H s)(h:Sq2 X.K tup H a xs):∃its:List ae,Vals xs its/\sh tup s.heap a its.toArray/\xs.length<=aL/\∃o ns n,s.heap.get? a=some o/\o.data=.seq ns n:=by
 cases tup with
 |true=>
  obtain⟨its,r,p,z⟩:=I.tuple h;obtain⟨o,e,c,n,d⟩:=id p;exact⟨its,r,p,z,o,_,n,e,d⟩
 |false=>
  obtain⟨its,r,p,z⟩:=I.list h;obtain⟨o,n,e,c,c',d⟩:=id p;exact⟨its,r,p.isList,z,o,_,n,e,d⟩
theorem Inv.sq2_inj{X:Cx}{pins:List (Addr×Obj)}{σ:St}{H:Hp}{s:af}{tup:Bool}{a:Addr}{xs ys:List V}(I:Inv X pins σ H s)(h:Sq2 X.K tup H a xs)(h':Sq2 X.K tup H a ys):xs=ys:=by
 cases tup with
 |true=>exact I.tuple_inj h h'
 |false=>exact I.list_inj h h'
theorem EO{P:aB}{w:aw}{K:ax}{es:List Expr}{ek:Nat}{epos:Pos}{tup:Bool}{z TI TO i1 i2 l1 l2:Addr}(n1:TI≠z)(n2:TO≠z)(n3:i1≠z)(n4:i2≠z)(n5:TI≠TO)(n6:TI≠i1)(n7:TI≠i2)(n8:TO≠i1)(n9:TO≠i2)(n10:i1≠i2)
  (ml:∀b∈[z,TI,TO,i1,i2],l1≠b/\l2≠b):Turn P w K (.Tuple es ek epos) (Itz K tup l1 l2) [z,TI,TO,i1,i2] z (λi h=>IsZip h z TI TO .none/\IsPair h TI (.ref i1) (.ref i2)/\(∃a b,IsPair h TO a b)/\eU tup h i1 l1 i/\eU tup h i2 l2 i) where
 mem:=by simp
 obj:=λi h st b hb=>by
  obtain⟨hz,hTI,⟨a,c,hTO⟩,h1,h2⟩:=st;obtain⟨o1,v1,e1,d1⟩:=h1.rec;obtain⟨o2,v2,e2,d2⟩:=h2.rec;have hb':b=z\/b=TI\/b=TO\/b=i1\/b=i2:=by simpa using hb
  rcases hb' with q|q|q|q|q
  ·subst q;exact⟨_,hz,λv q=>by cases q⟩
  ·subst q;exact⟨_,hTI,λv q=>by cases q⟩
  ·subst q;exact⟨_,hTO,λv q=>by cases q⟩
  ·subst q;exact⟨o1,e1,λv q=>by rw[d1]at q;cases q⟩
  ·subst q;exact⟨o2,e2,λv q=>by rw[d2]at q;cases q⟩
 keep:=λi h h' st k=>by
  obtain⟨hz,hTI,⟨a,c,hTO⟩,h1,h2⟩:=st;exact⟨k z (by simp) _ hz,k TI (by simp) _ hTI,⟨a,c,k TO (by simp) _ hTO⟩,h1.kept λo e=>k i1 (by simp) o e,h2.kept λo e=>k i2 (by simp) o e⟩
 item:=by
  intro X hP hw hK hc i pins s σ H E I hf st hg;subst hP hw hK;obtain⟨hz,hTI,⟨a,c,hTO⟩,h1,h2⟩:=st;obtain⟨xs,ys,x,y,q1,q2,hx,hy⟩:=hg;obtain⟨its1,r1,p1,z1,_⟩:=I.sq2 q1;obtain⟨its2,r2,p2,z2,_⟩:=I.sq2 q2;obtain⟨u1,hu1,ru1⟩:=r1.get hx;obtain⟨u2,hu2,ru2⟩:=r2.get hy;have D:ZipApart z TI TO i1 i2 l1 l2:=⟨n1,n2,n3,n4,n5,n6,n7,n8,n9,n10,(ml z (by simp)).1,(ml TO (by simp)).1,(ml i1 (by simp)).1,(ml i2 (by simp)).1,(ml z (by simp)).2,(ml TO (by simp)).2,(ml i1 (by simp)).2,(ml i2 (by simp)).2⟩
  have hT:s.TypeIs (.ref z) "zip":=⟨_,hz,rfl⟩
  unfold pyNext;refine ag (wpAny_attempt (wpAny_callSpecial?_slot (name:=ao "__next__") hT F.slot_zip_next (b5 F.slot_zip_next hT F.entry_zip_next
   (yr (xs:=its1.toArray) (ys:=its2.toArray) (k:=i) D (lZ (tup:=tup)) (lZ (tup:=tup)) hz hTI hTO ⟨h1,p1⟩ ⟨h2,p2⟩ (by simpa using hu1) (by simpa using hu2) λh' a1 a2 a3 a4 a5 a6 hk=>aq ?_) (F.args_zip_next_1 _))))
  have hkc:∀b o,b∉[z,TI,TO,i1,i2]->s.heap.get? b=some o->h'.get? b=some o:=λb o hb e=>hk b o (λq=>hb (by simp[q])) (λq=>hb (by simp[q])) (λq=>hb (by simp[q])) (λq=>hb (by simp[q])) e
  have I1:Inv X pins σ (upd H s.heap.objs.size (.tup [x,y])) {s with heap:=h'}:=I.turnNew (tk:=s.toks) (its:=[u1,u2]) hf hkc (aE _) ⟨_,a5,rfl,_,rfl⟩ (.cons ru1 (.cons ru2 .nil)) (by show 2<=aL;decide);have hpn:H s.heap.objs.size=none:=I.hok.fresh (aE _);have hfp:∀b∈[z,TI,TO,i1,i2],b≠s.heap.objs.size:=λb hb q=>by
   have hb':b=z\/b=TI\/b=TO\/b=i1\/b=i2:=by simpa using hb
   obtain⟨o1,v1,e1,d1⟩:=h1.rec;obtain⟨o2,v2,e2,d2⟩:=h2.rec;have:b<s.heap.objs.size:=by
    rcases hb' with q|q|q|q|q
    ·subst q;exact aI hz
    ·subst q;exact aI hTI
    ·subst q;exact aI hTO
    ·subst q;exact aI e1
    ·subst q;exact aI e2
   rw[q]at this;exact bN _ this
  have hnone:∀b∈[z,TI,TO,i1,i2],(upd H s.heap.objs.size (.tup [x,y])) b=none:=λb hb=>by rw[qq (hfp b hb)];exact(hf b hb).1
  refine⟨_,rfl,?_⟩;refine wpAny_letOwnedTupleGo_zip (s:={s with heap:=h'}) a1 λh2' hz' hs'=>?_
  obtain⟨f0,f1,f2,f3,f4,f5⟩:=hf z (by simp);refine⟨.ref s.heap.objs.size,_,I1.turned (t':=s.toks) (it:=z) (λb o hb e=>(hs'.2 b hb).trans e) (hnone z (by simp)) f1 f3 f4 f5,rfl,⟨_,x,y,hpn,rfl,rfl,λzs hq=>by rw[I.sq2_inj hq q1];exact hx,λzs hq=>by rw[I.sq2_inj hq q2];exact hy⟩,?_,hnone⟩;have up:∀b o,b≠z->h'.get? b=some o->h2'.get? b=some o:=λb o hb e=>(hs'.2 b hb).trans e
  exact⟨hz',up _ _ n1 (hk _ _ n1 n5 n6 n7 hTI),⟨_,_,up _ _ n2 a2⟩,a3.1.kept λo e=>up _ o n3 e,a4.1.kept λo e=>up _ o n4 e⟩
 done:=by
  intro X hP hw hK hc i pins s σ H E I hf st hg;subst hP hw hK;obtain⟨hz,hTI,⟨a,c,hTO⟩,h1,h2⟩:=st;obtain⟨xs,ys,q1,q2,hx⟩:=hg;obtain⟨its1,r1,p1,z1,_⟩:=I.sq2 q1;have D:ZipApart z TI TO i1 i2 l1 l2:=⟨n1,n2,n3,n4,n5,n6,n7,n8,n9,n10,(ml z (by simp)).1,(ml TO (by simp)).1,(ml i1 (by simp)).1,(ml i2 (by simp)).1,(ml z (by simp)).2,(ml TO (by simp)).2,(ml i1 (by simp)).2,(ml i2 (by simp)).2⟩
  have hT:s.TypeIs (.ref z) "zip":=⟨_,hz,rfl⟩
  have hl:=r1.length;unfold pyNext;refine ag (wpAny_attempt (wpAny_callSpecial?_slot (name:=ao "__next__") hT F.slot_zip_next (b5 F.slot_zip_next hT F.entry_zip_next
   (CW (xs:=its1.toArray) (k:=i) (I.ok.hd hc) D (lZ (tup:=tup)) hz hTI hTO ⟨h1,p1⟩ (by simp;lia) λh' e hk he=>?_) (F.args_zip_next_1 _))))
  obtain⟨o,ho,hcl⟩:=he;refine ag (wpAny_isInstance (T:="StopIteration") (b:=true) ⟨o,ho,hcl⟩ isSubtype_stop ?_);exact aq ⟨rfl,I.turnAll (tk:=s.toks) hf λb o hb e=>hk b o (λq=>hb (by simp[q])) (λq=>hb (by simp[q])) (λq=>hb (by simp[q])) (λq=>hb (by simp[q])) e⟩
 self:=λ_ _ _ _ _ st h=>wpAny_pyIter_zip st.1 h
abbrev zj1(h:Heap)(l1:Addr):Heap:=h.push {cls:=.type "tuple_iterator",data:=.fields #[.ref l1,.int 0 0]}
abbrev zj2(h:Heap)(l1 l2:Addr):Heap:=(zj1 h l1).push {cls:=.type "tuple_iterator",data:=.fields #[.ref l2,.int 0 0]}
abbrev zj3(h:Heap)(l1 l2:Addr):Heap:=(zj2 h l1 l2).push {cls:=.type "tuple",data:=.seq #[.ref h.objs.size,.ref (zj1 h l1).objs.size]}
abbrev zj4(h:Heap)(l1 l2:Addr):Heap:=(zj3 h l1 l2).push {cls:=.type "tuple",data:=.seq #[.none,.none]}
abbrev zj5(h:Heap)(l1 l2:Addr):Heap:=(zj4 h l1 l2).push {cls:=.type "zip",data:=.fields #[.none,.bool false,.bool false,.ref (zj2 h l1 l2).objs.size,.ref (zj3 h l1 l2).objs.size]}
theorem DI(l1 l2:Addr)(xs ys:Array ae) :
  Meets (Builtin.«zip.__new__» ⟨[.type "zip",.ref l1,.ref l2],[]⟩) (λ_ R s=>s.heap.IsTuple l1 xs/\s.heap.IsTuple l2 ys/\R (.ok (.ret (.ref (zj4 s.heap l1 l2).objs.size))) {s with heap:=zj5 s.heap l1 l2}):=
 .of_wp λprog w A R s h=>by
  obtain⟨hp,g,d,tk,os⟩:=s;obtain⟨hl1,hl2,h⟩:=h;have hsub:=sub_zip;have hL1:Heap.IsTuple (af.heap ⟨hp,g,d,tk,os⟩) l1 xs:=hl1;have hL2:Heap.IsTuple (af.heap ⟨hp.push {cls:=.type "tuple_iterator",data:=.fields #[.ref l1,.int 0 0]},g,d,tk,os⟩) l2 ys:=let ⟨o,e,r⟩:=hl2;⟨o,Heap.get?_push_of_some _ e,r⟩
  wp_walk using wpAny_pyIter_tuple hL1,wpAny_pyIter_tuple hL2
  exact⟨_,rfl,h⟩
section
variable{prog:aB}{w:aw}{A:aC}{E:ae->af->Prop}{s:af}
theorem vy{l1 l2:Addr}{xs ys:Array ae}{Q:ae->af->Prop}(hl1:s.heap.IsTuple l1 xs)(hl2:s.heap.IsTuple l2 ys)
  (h:∀h',IsZip h' (s.heap.objs.size+4) (s.heap.objs.size+2) (s.heap.objs.size+3) .none->IsPair h' (s.heap.objs.size+2) (.ref s.heap.objs.size) (.ref (s.heap.objs.size+1)) ->
   IsPair h' (s.heap.objs.size+3) .none .none->h'.IsTupleIter s.heap.objs.size l1 0->h'.IsTupleIter (s.heap.objs.size+1) l2 0->h'.objs.size=s.heap.objs.size+5 ->
   (∀c o,s.heap.get? c=some o->h'.get? c=some o)->Q (.ref (s.heap.objs.size+4)) {s with heap:=h'}):ah (ak prog w) A (call (.type "zip") [.ref l1,.ref l2]) Q E s:=by
 refine callType_new F.called_zip (by decide) (F.typeCall_zip_2 _ _) (F.newCall_zip_2 _ _) (λobj=>F.args_object_init_3 obj _ _) F.entry_zip_new (DI l1 l2 xs ys) ⟨hl1,hl2,?_⟩;have z1:(zj1 s.heap l1).objs.size=s.heap.objs.size+1:=bC ..;have z2:(zj2 s.heap l1 l2).objs.size=s.heap.objs.size+2:=by rw[bC,z1]
 have z3:(zj3 s.heap l1 l2).objs.size=s.heap.objs.size+3:=by rw[bC,z2]
 have z4:(zj4 s.heap l1 l2).objs.size=s.heap.objs.size+4:=by rw[bC,z3]
 have z5:(zj5 s.heap l1 l2).objs.size=s.heap.objs.size+5:=by rw[bC,z4]
 have g5:(zj5 s.heap l1 l2).get? (zj4 s.heap l1 l2).objs.size=some _:=Heap.get?_push_size _ rfl;have g4:(zj5 s.heap l1 l2).get? (zj3 s.heap l1 l2).objs.size=some _:=Heap.get?_push_of_some _ (Heap.get?_push_size _ rfl);have g3:(zj5 s.heap l1 l2).get? (zj2 s.heap l1 l2).objs.size=some _:=Heap.get?_push_of_some _ (Heap.get?_push_of_some _ (Heap.get?_push_size _ rfl));have g2:(zj5 s.heap l1 l2).get? (zj1 s.heap l1).objs.size=some _:=Heap.get?_push_of_some _ (Heap.get?_push_of_some _ (Heap.get?_push_of_some _ (Heap.get?_push_size _ rfl)));have g1:(zj5 s.heap l1 l2).get? s.heap.objs.size=some _:=Heap.get?_push_of_some _ (Heap.get?_push_of_some _ (Heap.get?_push_of_some _ (Heap.get?_push_of_some _ (Heap.get?_push_size _ rfl))));show _/\_;rw[z2,z3,z4]at g5;rw[z1,z2]at g3;rw[z3]at g4;rw[z1]at g2;rw[z4];exact⟨⟨_,g5,rfl⟩,h _ g5 g3 g4 ⟨_,g1,rfl,rfl⟩ ⟨_,g2,rfl,rfl⟩ z5 λc o x=>Heap.get?_push_of_some _ (Heap.get?_push_of_some _ (Heap.get?_push_of_some _ (Heap.get?_push_of_some _ (Heap.get?_push_of_some _ x))))⟩
end
noncomputable def Fv(K:ax)(ta:TA):TI:=λσ H R=>ta σ H λvs H1=>∃(tup:Bool) (l1 l2:Addr),vs=[.ref l1,.ref l2]/\(∃xs,Sq2 K tup H1 l1 xs)/\(∃ys,Sq2 K tup H1 l2 ys)/\R (Itz K tup l1 l2) H1
theorem wy{X:Cx}{es:List Expr}{ek:Nat}{epos p pos:Pos}{a b:Expr}{ta:TA}(hg:Gl X "zip")(hm:X.mg "zip" = none)(hv:bO "zip" = some (.type "zip"))(ha:PA X [a,b] ta)
  (hs:aZ [a,b] X.env=[(false,eval a X.env),(false,eval b X.env)]:=by rfl) (hs2:aZ [b] X.env=[(false,eval b X.env)]:=by rfl):PI X (.Tuple es ek epos) (.Call (.Name "zip" p) [a,b] [] pos) (Fv X.K ta):=by
 intro pins s σ H R I h;refine Call_ (fR I hg hm hv (fE (thn (ha pos pins s σ H _ I h) λus s1 ⟨vs,H1,I1,r1,q1⟩=>?_) (by rw[hs,hs2]) (by rw[hs2];rfl)));obtain⟨tup,l1,l2,e,⟨xs,q2⟩,⟨ys,q3⟩,q⟩:=q1;subst e;cases r1 with
 |cons r rr=>
  cases rr with
  |cons r' rr=>
   cases rr;cases r;cases r';obtain⟨its1,v1,p1,_,o1,ns1,m1,e1,d1⟩:=I1.sq2 q2;obtain⟨its2,v2,p2,_,o2,ns2,m2,e2,d2⟩:=I1.sq2 q3;have lt1:l1<s1.heap.objs.size:=aI e1;have lt2:l2<s1.heap.objs.size:=aI e2;have above:∀b:Addr,b∈[s1.heap.objs.size+4,s1.heap.objs.size+2,s1.heap.objs.size+3,s1.heap.objs.size,s1.heap.objs.size+1]->s1.heap.objs.size<=b:=λb hb=>by
    have hb':b=s1.heap.objs.size+4\/b=s1.heap.objs.size+2\/b=s1.heap.objs.size+3\/b=s1.heap.objs.size\/b=s1.heap.objs.size+1:=by simpa using hb
    rcases hb' with q|q|q|q|q
    ·rw[q];exact Nat.le_add_right _ _
    ·rw[q];exact Nat.le_add_right _ _
    ·rw[q];exact Nat.le_add_right _ _
    ·rw[q];exact aE _
    ·rw[q];exact Nat.le_add_right _ _
   have fin:∀h',IsZip h' (s1.heap.objs.size+4) (s1.heap.objs.size+2) (s1.heap.objs.size+3) .none->IsPair h' (s1.heap.objs.size+2) (.ref s1.heap.objs.size) (.ref (s1.heap.objs.size+1)) ->
     IsPair h' (s1.heap.objs.size+3) .none .none->eU tup h' s1.heap.objs.size l1 0->eU tup h' (s1.heap.objs.size+1) l2 0->(∀c o,s1.heap.get? c=some o->h'.get? c=some o) ->
     ah (ak X.prog X.w) X.A (pyIter (.ref (s1.heap.objs.size+4))) (PIE X pins σ (.Tuple es ek epos) R) X.xe {s1 with heap:=h'}:=λh' a1 a2 a3 a4 a5 k=>by
    have I2:Inv X pins σ H1 {s1 with heap:=h'}:=I1.kept (t':=s1.toks) k;refine wpAny_pyIter_zip a1 ?_;refine⟨_,_,_,_,H1,rfl,I2,EO (P:=X.prog) (w:=X.w) (K:=X.K) (z:=s1.heap.objs.size+4) (TI:=s1.heap.objs.size+2) (TO:=s1.heap.objs.size+3) (i1:=s1.heap.objs.size) (i2:=s1.heap.objs.size+1) (l1:=l1) (l2:=l2) (tup:=tup) (show (s1.heap.objs.size+2:Nat)≠s1.heap.objs.size+4 by lia) (show (s1.heap.objs.size+3:Nat)≠s1.heap.objs.size+4 by lia) (show (s1.heap.objs.size:Nat)≠s1.heap.objs.size+4 by lia) (show (s1.heap.objs.size+1:Nat)≠s1.heap.objs.size+4 by lia) (show (s1.heap.objs.size+2:Nat)≠s1.heap.objs.size+3 by lia) (show (s1.heap.objs.size+2:Nat)≠s1.heap.objs.size by lia) (show (s1.heap.objs.size+2:Nat)≠s1.heap.objs.size+1 by lia) (show (s1.heap.objs.size+3:Nat)≠s1.heap.objs.size by lia) (show (s1.heap.objs.size+3:Nat)≠s1.heap.objs.size+1 by lia) (show (s1.heap.objs.size:Nat)≠s1.heap.objs.size+1 by lia) (λb hb=>?_),⟨a1,a2,⟨_,_,a3⟩,a4,a5⟩,λb hb=>?_,q⟩
    ·have:=above b hb;exact⟨a7 (bt lt1 this),a7 (bt lt2 this)⟩
    ·have:=above b hb;exact I1.fpOk this (I1.hok.fresh this)
   cases tup with
   |true=>exact vy p1 p2 λh' a1 a2 a3 a4 a5 _ k=>fin h' a1 a2 a3 a4 a5 k
   |false=>exact call_zip_2 p1 p2 λh' a1 a2 a3 a4 a5 _ k=>fin h' a1 a2 a3 a4 a5 k
theorem AZ{K:ax}{x C:Addr}(S:dI K C):PySem.W.KitX K (.ref x) (.ref C) (λh=>∃o,h.get? x=some o/\o.cls=.ref C) where
 ty:=λM h _ ⟨o,e,c⟩=>c▸(PySem.W.Looks.ld e).andThen .now
 it:=λ_ _ Z _=>by
  obtain⟨c,dd,cd,sl,e⟩:=S.cl;intro A' Q' E' s' k q;unfold isType loadHead;exact ag (wpAny_loadPart (k _ _ (Z _ _ e)) (aq q))
 ne:=λh tp dd its n sl Z htp=>by
  obtain⟨c,dd',cd,sl',e⟩:=S.cl;refine Bool.eq_false_iff.mpr λq=>?_
  have e1:C=tp:=bF.inj (beq_iff_eq.mp q);subst e1;have z:=(Z _ _ e).symm.trans htp;cases z
 ca:=λ{prog w A E Q s} Z ⟨o,e,c⟩ k=>by
  obtain⟨hh,g,d,t,os⟩:=s;exact y7 Z S (c▸(PySem.W.Looks.ld e).andThen .now) ⟨o,e,c⟩ k
noncomputable def lH:V->Option ae
 | .ty n=>some (.type n)
 | .ref a=>some (.ref a)
 |_=>none
noncomputable def TyX(K:ax)(H:Hp)(x:V)(t:ae):Prop:=dO K H x t\/∃a C,x=.ref a/\t=.ref C/\H a=some (gM a (.ref C))/\dI K C
theorem AX{X:Cx}:zv X (.builtin "isinstance") (λxs H Q=>∃x c cv t b,xs=[x,c]/\lH c=some cv/\TyX X.K H x t/\bz X.K t cv=some b/\Q (.bl b) H):=by
 intro pins s σ H xs us Q I r h;obtain⟨x,c,cv,t,b,rfl,hc,ty,hk,q⟩:=h;obtain⟨u,cu,rfl,rx,rc⟩:=r.two;have e:cu=cv:=by
  cases c with
  |ty n=>cases hc;exact rc
  |ref a=>cases hc;exact rc
  |_=>cases hc
 subst e;rcases ty with ty|⟨a,C,rfl,rfl,ha,S⟩
 ·exact gR I rx ty hk λtk=>⟨.bl b,H,I.tok tk,rfl,q⟩
 ·cases rx;obtain⟨⟨o,vs,e1,e2,e3⟩,_⟩:=(show zY X.prog X.w H s.heap a (gM a (.ref C))from I.hok a _ ha)
  exact bQ (AZ S) I.kIn ⟨o,e1,e2⟩ hk (λz=>nomatch z) λtk=>⟨.bl b,H,I.tok tk,rfl,q⟩
theorem ES{K:ax}{T:String}:bz K (.type T) (.type T)=some true:=by unfold bz;rw[if_pos (by simp)]
theorem Ey{K:ax}{a T:String}{b:Bool}(hne:(bE a==bE T)=false)(hm:PySem.W.kitMeta T=true)(hf:(fastBuiltinMro a).map (·.contains (.type T))=some b):bz K (.type a) (.type T)=some b:=by
 unfold bz PySem.W.kitCls aV;rw[if_neg (by rw[hne];exact cf)];dsimp only;rw[if_pos hm];exact hf
noncomputable def fS(a T:String):Bool:=a==T||(a == "bool" && T == "int")
theorem y9{K:ax}{a T:String}(ha:a∈["NoneType","bool","int","str","list","tuple","dict"])(hT:T∈["int","bool","str","list","tuple"]):bz K (.type a) (.type T)=some (fS a T):=by
 simp only[aG,bx,or_false]at ha hT;rcases ha with rfl|rfl|rfl|rfl|rfl|rfl|rfl<;>rcases hT with rfl|rfl|rfl|rfl|rfl<;>first|exact ES|exact Ey (by decide +kernel) (by decide +kernel) (by decide +kernel)
noncomputable def ltP(p q:Int×Int):Bool:=if p.1=q.1 then decide (p.2<q.2)else decide (p.1<q.1)
section
variable{prog:aB}{w:aw}{A:aC}{E:ae->af->Prop}{s:af}
end
theorem A4{h:Heap}{a:Addr}{m m':Str->Option ae}(x:h.Ns a m)(y:h.Ns a m'):m=m':=by
 obtain⟨o,es,ep,e1,e2,_,e4⟩:=x;obtain⟨o',es',ep',f1,f2,_,f4⟩:=y;rw[e1]at f1;cases f1;rw[e2]at f2;cases f2;funext n;rw[<-e4,<-f4]
theorem Inv.newList{X:Cx}{pins:List (Addr×Obj)}{σ:St}{H:Hp}{s s':af}{D:Addr}{out:List V}{its:List ae}{c:Nat}(I:Inv X pins σ H s)(hos:s'.os=s.os)(hg:s'.gens=s.gens)
  (k:∀b o,b≠X.env.locals->s.heap.get? b=some o->s'.heap.get? b=some o) (ns:∀m,s.heap.Ns X.env.locals m->s'.heap.Ns X.env.locals m) (hD:s.heap.get? D=none) (hDL:D≠X.env.locals)
  (hl:s'.heap.get? D=some {cls:=.type "list",data:=.seq its.toArray c}) (r:Vals out its) (hz:out.length<=aL):Inv X pins σ (upd H D (.lst out)) s':=by
 obtain⟨h',g',d',t',o'⟩:=s';have eo:o'=s.os:=hos;have eg:g'=s.gens:=hg;subst eo eg;have hpn:H D=none:=I.hok.free_of hD;have np:∀b u,H b=some u->b≠D:=λb u e z=>by rw[z,hpn]at e;cases e
 obtain⟨m0,n0,_⟩:=id I.loc;obtain⟨oL,es,ep,hoL,_⟩:=id n0;obtain⟨oL',es',ep',hoL',_⟩:=ns _ n0;refine I.step (g':=s.gens) (d':=d') (ch:=[]) (λb hb=>absurd hb (by simp)) (λb o hL _ _ e _=>k b o hL e) (λb o hL _ _ e _=>⟨o.slots,k b o hL e⟩) (λb o _ e n=>?_) (λb o _ e=>?_)
  (λb xs e=>by rw[qq (np b _ e)];exact e) (λb o u e=>by rw[qq (np b _ e)];exact e) (λb ps e=>⟨#[],by rw[qq (np b _ e),e];simp⟩) ns (λb u e=>?_) I.bare
 ·rw[qq (λz=>by rw[z,hD]at e;cases e)];exact n
 ·by_cases hL:b=X.env.locals
  ·exact⟨oL',by rw[hL];exact hoL'⟩
  ·exact⟨o,k b o hL e⟩
 ·by_cases hb:b=D
  ·subst hb;rw[zC]at e;cases e;exact⟨hz,its,c,r,hl⟩
  ·rw[qq hb]at e;have nl:∀c,(∃u,H c=some u)->c≠X.env.locals:=λc ⟨u,e⟩ z=>by rw[z,I.free]at e;cases e
   refine(I.hok b u e).stay (λc v hc q=>k c v (nl c ?_) q) (λc q=>by rw[qq (np c _ q)];exact q) λc xs q=>by rw[qq (np c _ q)];exact q
   rcases hc with z|z
   ·exact⟨u,by rw[z];exact e⟩
   ·exact⟨_,z⟩
section
variable{prog:aB}{w:aw}{A:aC}{E:ae->af->Prop}{s:af}
theorem D2{a:Addr}{vs:List ae}{P:Fin->af->Prop}(hoL:s.heap.get? a=some (bc "list" vs.toArray 0))(h2:vs.length<2)(h:P (.done (.ret .none)) {s with heap:=sortedHeap s.heap a vs vs.toArray}) :
  ah (ak prog w) A (Builtin.«list.sort» ⟨[.ref a],[]⟩) P E s:=by
 rw[list_sort_plain];refine ag (listItems_at  hoL rfl ?_);refine ag (listUpdate_at  hoL rfl ?_ (by rw[aP,bA];lia) (bu _));obtain⟨e1,ho1⟩:∃e1,(s.heap.update a (bB λ_=>#[])).get? a=some (bc "list" #[] e1):=⟨_,get?_update_seq hoL (λ_=>#[])⟩
 refine ag (seqEpoch_at ho1 rfl ?_);refine ag (wpAny_newTuple ?_ (by show vs.length<=_;rw[bA];lia));refine ag (wpAny_newList ?_ (bu _));refine bS ?_;have hlt:a<s.heap.objs.size:=aI hoL;have ho6:(((s.heap.update a (bB λ_=>#[])).push (bc "tuple" vs.toArray 0)).push (bc "list" #[] 0)).get? a=some (bc "list" #[] e1):=by
  rw[Heap.get?_push_ne _ _ _ (by rw[size_push',Heap.size_update];exact a7 (dz hlt)),Heap.get?_push_ne _ _ _ (by rw[Heap.size_update];exact a7 hlt)];exact ho1
 show ah (ak prog w) _ _ _ _ {s with heap:=((s.heap.update a (bB λ_=>#[])).push (bc "tuple" vs.toArray 0)).push (bc "list" #[] 0)};dsimp only;have h2':vs.toArray.size<2:=by rw[aP];exact h2
 rw[if_pos h2',if_pos h2'];refine ag (aq ?_);rw[StateT.run_pure];refine ag (aq ?_);dsimp only;refine ag (seqEpoch_at ho6 rfl ?_);have hout:(au (bg.mk' general' (vs.toArray.zip vs.toArray) #[] 7 none)).map (·.2)=vs.toArray:=by
  show (vs.toArray.zip vs.toArray).map (·.2)=vs.toArray;apply Array.toList_inj.mp;simp[List.map_snd_zip]
 refine ag (listUpdate_at ho6 rfl ?_ (bu _) (by rw[hout,aP,bA];lia));simp only[bne_self_eq_false,aR,if_false];refine aq ?_;rw[hout];exact h
end
section
variable{X:Cx}{pins:List (Addr×Obj)}{σ:St}{H:Hp}{s:af}
theorem Inv.big(I:Inv X pins σ H s):sysModules<s.heap.objs.size:=by
 obtain⟨o,_,_,e,_⟩:=I.mod.glob;exact Nat.lt_of_le_of_lt (by decide) (aI (I.bk _ _ e))
theorem DY{pos:Pos}:PE X (.Dict [] [] pos) (λ_ H Q=>∀p,H p=none->Q (.ref p) (upd H p (.dK []))):=λpins s σ H Q I h=>
 wpAny_Dict_empty ⟨.ref s.heap.objs.size,_,I.laid (a:=s.heap.objs.size) (o:=.dK []) (t':=s.toks) (λ_ _ q=>Heap.get?_push_of_some _ q) (aE _) ⟨bu _,beq_eq_false_iff_ne.mpr (Ne.symm (a7 I.big)),[],.nil,Heap.DictOf.new s.heap⟩,rfl,h _ (I.hok.fresh (aE _))⟩
theorem lq{A:aC}{bs:List Bool}{us:List ae}(r:Vals (bs.map V.bl) us):us=bs.map ae.bool:=by
 induction bs generalizing us with
 |nil=>cases r;rfl
 |cons b bs ih=>cases r with
  |cons h t=>rw[ih t,show _=bH b from h];rfl
end
section
variable{X:Cx}
noncomputable def p9(r r' r'':R2)(ta tb tc td:TE):TE:=λσ H Q=>ta σ H λx H1=>tb σ H1 λy H2=>r x y H2 λz H3=>∃k,z=.bl k /\
 (if k=true then tc σ H3 λw' H4=>r' y w' H4 λz H5=>∃k,z=.bl k/\(if k=true then td σ H5 λw'' H6=>r'' w' w'' H6 Q else Q (.bl false) H5)else Q (.bl false) H3)
theorem vg{a b c d:Expr}{ta tb tc td:TE}{pos:Pos}{op op' op'':CmpOp}{r r' r'':R2}(ho:OpR X (ba op) r)(ho':OpR X (ba op') r')(ho'':OpR X (ba op'') r'')(ha:PE X a ta)(hb:PE X b tb)(hc:PE X c tc)(hd:PE X d td)
  (hm:lastMarks [op,op',op''] [b,c,d]=false:=by with_unfolding_all rfl):PE X (.Compare a [op,op',op''] [b,c,d] pos) (p9 r r' r'' ta tb tc td):=by
 intro pins s σ H Q I h;refine Compare_chain (thn (ha pins s σ H _ I h) λv s1 ⟨x,H1,I1,r1,q1⟩=>chain_link (thn (hb pins s1 σ H1 _ I1 q1) λu s2 ⟨y,H2,I2,r2,q2⟩=>
  thn (ho pins s2 σ H2 x y v u _ I2 r1 r2 q2) λd s3 ⟨z,H3,I3,r3,k,e,q3⟩=>?_)) hm
 subst e;cases r3;refine bJ ?_;cases k with
 |false=>exact ite_ff ⟨.bl false,H3,I3,rfl,q3⟩
 |true=>
  refine ite_tt (chain_link (thn (hc pins s3 σ H3 _ I3 q3) λw' s4 ⟨z',H4,I4,r4,q4⟩=>thn (ho' pins s4 σ H4 y z' u w' _ I4 r2 r4 q4) λd' s5 ⟨z2,H5,I5,r5,k2,e2,q5⟩=>?_));subst e2;cases r5;refine bJ ?_;cases k2 with
  |false=>exact ite_ff ⟨.bl false,H5,I5,rfl,q5⟩
  |true=>exact ite_tt (chain_last (thn (hd pins s5 σ H5 _ I5 q5) λw'' s6 ⟨z3,H6,I6,r6,q6⟩=>ho'' pins s6 σ H6 z' z3 w' w'' Q I6 r4 r6 q6))
noncomputable def Fq(K:ax):R2:=λx y H Q=>∃a b xs ys,x=.ref a/\y=.ref b/\SqT K H a xs/\SqT K H b ys/\xs.length+ys.length<=aL /\
 (xs=[]->Q (.ref b) H)/\(xs≠[]->ys=[]->Q (.ref a) H)/\(xs≠[]->ys≠[]->∀p,H p=none->Q (.ref p) (upd H p (.tup (xs++ys))))
theorem xp:OpR X (binaryOp .Add) (Fq X.K):=by
 intro pins s σ H x y v u Q I rx ry h;obtain⟨a,b,xs,ys,rfl,rfl,ha,hb,hz,q0,q1,q2⟩:=h;by_cases hx:xs=[]
 ·subst hx;cases rx;cases ry;obtain⟨its,r1,p1,_⟩:=I.tuple ha;obtain⟨its2,r2,p2,_⟩:=I.tuple hb;cases r1;obtain⟨⟨cls,dd,data,sl⟩,ho,hc,n,hd⟩:=id p1;obtain⟨⟨cls2,dd2,data2,sl2⟩,ho2,hc2,n2,hd2⟩:=id p2;simp only at hc hd hc2 hd2;subst hc hd hc2 hd2;exact concat_meets ⟨_,ho,rfl⟩ ⟨_,ho2,rfl⟩ noFill_tuple_add seq_tuple_add PySem.F.slot_tuple_add PySem.F.entry_tuple_add (PySem.F.args_tuple_add_2 _ _)
   (tuple_addW0 a b _ its2.toArray n n2 dd dd2 sl sl2 (by simp)) ⟨ho,ho2,⟨.ref b,H,I,rfl,q0 rfl⟩⟩
 ·exact DN pins s σ H (.ref a) (.ref b) v u Q I rx ry ⟨a,b,xs,ys,rfl,rfl,ha,hb,hx,hz,q1 hx,q2 hx⟩
theorem DU{vs:List ae}{ns:List Int}(h:bq vs ns):Vals (ns.map V.int) vs:=by
 induction h with
 |nil=>exact .nil
 |cons n t _ ih=>exact .cons ⟨t,rfl⟩ ih
noncomputable def CL(K:ax):List V->Hp->VK->Prop:=λvs H Q=>∃(l:Addr) (ns:List Int),vs=[.ref l]/\SqL K H l (ns.map V.int)/\ns.length<64/\∀(D:Addr) (ms:List Int),H D=none->ms.Perm ns->ms.Pairwise (·<=·)->Q (.ref D) (upd H D (.lst (ms.map V.int)))
theorem A1:zv X (.builtin "sorted") (CL X.K):=by
 intro pins s σ H xs us Q I r h;obtain⟨l,ns,rfl,hl,h64,q⟩:=h;obtain⟨u,rfl,ru⟩:=r.one;cases ru;obtain⟨its,rv,pl,hz⟩:=I.list hl;obtain⟨m,F⟩:=I.fr;refine PySem.W.kso_sorted F (uK (g:=X.base) (h:=s.heap) (L:=X.env.locals)) pl.isList (intsAre_of rv) h64 λD vs' ns' c h' F' N' hlt hi he hp ho _=>?_
 have keep:∀b o,b≠X.env.locals->s.heap.get? b=some o->h'.get? b=some o:=λb o hb e=>by
  cases qb:X.base.get? b with
  |some ob=>have:=I.bk b ob qb;rw[e]at this;cases this;exact F'.keep b _ qb
  |none=>exact(N' (b,o) (aK _ (n_ hb qb e))).1
 have hDn:=N' (D,_) aO;have hD0:s.heap.get? D=none:=by
  cases qd:s.heap.get? D with
  |none=>rfl
  |some o=>exact absurd (hlt (D,o) (n_ hDn.2.1 hDn.2.2 qd)) (bN _)
 refine⟨.ref D,_,I.newList (s':={s with heap:=h'}) (c:=c) rfl rfl keep (λm' hm'=>?_) hD0 hDn.2.1 hDn.1 (DU hi) (by rw[aQ,he,bA];lia),rfl,q D ns' (I.hok.free_of hD0) hp ho⟩;rw[A4 hm' F.ns];exact F'.ns
end
noncomputable def Ite(K:ax)(l:Addr):It:=
 ⟨λi H=>∃xs x,SqL K H l xs/\xs[i]? = some x,
  λi H v H'=>∃p x,H p=none/\v=.ref p/\H'=upd H p (.tup [.int i,x])/\∀xs,SqL K H l xs->xs[i]? = some x,
  λi H=>∃xs,SqL K H l xs/\xs.length<=i⟩
theorem BB{P:aB}{w:aw}{K:ax}{es:List Expr}{ek:Nat}{epos:Pos}{e it l:Addr}(n1:e≠it)(n2:l≠e)(n3:l≠it) :
  Turn P w K (.Tuple es ek epos) (Ite K l) [e,it] e (λi h=>(∃old,IsEnum h e it ((i:Nat):Int) old)/\h.IsListIter it l i) where
 mem:=by simp
 obj:=λi h st b hb=>by
  obtain⟨⟨old,hz⟩,o1,e1,_,d1⟩:=st;have hb':b=e\/b=it:=by simpa using hb
  rcases hb' with q|q
  ·subst q;exact⟨_,hz,λv q=>by cases q⟩
  ·subst q;exact⟨o1,e1,λv q=>by rw[d1]at q;cases q⟩
 keep:=λi h h' st k=>by
  obtain⟨⟨old,hz⟩,h1⟩:=st;exact⟨⟨old,k e (by simp) _ hz⟩,h1.at λo q=>k it (by simp) o q⟩
 item:=by
  intro X hP hw hK hc i pins s σ H E I hf st hg;subst hP hw hK;obtain⟨⟨old,hz⟩,h1⟩:=st;obtain⟨xs,x,q1,hx⟩:=hg;obtain⟨its,r1,p1,z1⟩:=I.list q1;obtain⟨u1,hu1,ru1⟩:=r1.get hx;refine wpAny_pyNext_enum_item hz h1 p1.isList (x:=u1) (by simpa using hu1) n1 λh' a1 a2 a3 a4 hk=>?_
  have hkc:∀b o,b∉[e,it]->s.heap.get? b=some o->h'.get? b=some o:=λb o hb q=>hk b o (λz=>hb (by simp[z])) (λz=>hb (by simp[z])) q
  have I1:Inv X pins σ (upd H s.heap.objs.size (.tup [.int i,x])) {s with heap:=h',toks:=s.toks+1}:=I.turnNew (tk:=s.toks+1) (its:=[.int i s.toks,u1]) hf hkc (aE _) ⟨_,a3,rfl,_,rfl⟩ (.cons ⟨_,rfl⟩ (.cons ru1 .nil)) (by show 2<=aL;decide);have hpn:H s.heap.objs.size=none:=I.hok.fresh (aE _);have hfp:∀b∈[e,it],b≠s.heap.objs.size:=λb hb q=>by
   have hb':b=e\/b=it:=by simpa using hb
   obtain⟨o1,e1,_,d1⟩:=h1;have:b<s.heap.objs.size:=by
    rcases hb' with q|q
    ·subst q;exact aI hz
    ·subst q;exact aI e1
   rw[q]at this;exact bN _ this
  have hnone:∀b∈[e,it],(upd H s.heap.objs.size (.tup [.int i,x])) b=none:=λb hb=>by rw[qq (hfp b hb)];exact(hf b hb).1
  refine⟨_,rfl,?_⟩;refine wpAny_letOwnedTupleGo_enum (s:={s with heap:=h',toks:=s.toks+1}) a1 λh2' hz' hs'=>?_
  obtain⟨f0,f1,f2,f3,f4,f5⟩:=hf e (by simp);refine⟨.ref s.heap.objs.size,_,I1.turned (t':=s.toks+1) (it:=e) (λb o hb q=>(hs'.2 b hb).trans q) (hnone e (by simp)) f1 f3 f4 f5,rfl,⟨_,x,hpn,rfl,rfl,λzs hq=>by rw[I.list_inj hq q1];exact hx⟩,⟨⟨u1,?_⟩,a2.at λo q=>(hs'.2 it (Ne.symm n1)).trans q⟩,hnone⟩
  ·have:((i+1:Nat):Int)=(i:Int)+1:=by push_cast;rfl
   rw[this];exact hz'
 done:=by
  intro X hP hw hK hc i pins s σ H E I hf st hg;subst hP hw hK;obtain⟨⟨old,hz⟩,h1⟩:=st;obtain⟨xs,q1,hx⟩:=hg;obtain⟨its,r1,p1,z1⟩:=I.list q1;have hl:=r1.length;exact wpAny_pyNext_enum_end (I.ok.hd hc) hz h1 p1.isList (by simp;lia) λh' eb=>⟨rfl,I.turnAll (tk:=s.toks) hf λb o hb q=>eb b o (λz=>hb (by simp[z])) q⟩
 self:=λ_ _ _ _ _ st h=>by
  obtain⟨⟨old,hz⟩,_⟩:=st;exact wpAny_pyIter_enum hz h
noncomputable def CO(K:ax)(ta:TA):TI:=λσ H R=>ta σ H λvs H1=>∃(l:Addr),vs=[.ref l]/\(∃xs,SqL K H1 l xs)/\R (Ite K l) H1
theorem EJ{X:Cx}{es:List Expr}{ek:Nat}{epos p pos:Pos}{a:Expr}{ta:TA}(hg:Gl X "enumerate")(hm:X.mg "enumerate" = none)(hv:bO "enumerate" = some (.type "enumerate"))(ha:PA X [a] ta)
  (hs:aZ [a] X.env=[(false,eval a X.env)]:=by rfl):PI X (.Tuple es ek epos) (.Call (.Name "enumerate" p) [a] [] pos) (CO X.K ta):=by
 intro pins s σ H R I h;refine Call_ (fR I hg hm hv (fE (thn (ha pos pins s σ H _ I h) λus s1 ⟨vs,H1,I1,r1,q1⟩=>?_) (by rw[hs];rfl) (by rfl)));obtain⟨l,e,⟨xs,q2⟩,q⟩:=q1;subst e;cases r1 with
 |cons r rr=>
  cases rr;cases r;obtain⟨its1,v1,p1,_⟩:=I1.list q2;have lt1:l<s1.heap.objs.size:=by obtain⟨_,e,_⟩:=p1.isList;exact aI e
  refine call_enumerate_list p1.isList λh' hE hI hsz k=>?_
  have I2:Inv X pins σ H1 {s1 with heap:=h'}:=I1.kept (t':=s1.toks) k;refine wpAny_pyIter_enum hE ?_;refine⟨_,_,_,_,H1,rfl,I2,BB (P:=X.prog) (w:=X.w) (K:=X.K) (e:=s1.heap.objs.size+1) (it:=s1.heap.objs.size) (l:=l) (Nat.succ_ne_self _) (a7 (dz lt1)) (a7 lt1),⟨⟨_,hE⟩,hI⟩,λb hb=>?_,q⟩;have hb':b=s1.heap.objs.size+1\/b=s1.heap.objs.size:=by simpa using hb
  have:s1.heap.objs.size<=b:=by
   rcases hb' with q|q
   ·rw[q];exact Nat.le_succ _
   ·rw[q];exact aE _
  exact I1.fpOk this (I1.hok.fresh this)
end L2
namespace L2
open PySem PySem.Spec PyProof.Rows PySem.SeqAt
mutual
inductive eY(K:ax)(H:Hp):V->PyData->Prop
 |non:eY K H .non .none
 |bl (b:Bool):eY K H (.bl b) (.bool b)
 |int (i:Int):eY K H (.int i) (.int i)
 |str (x:Str):eY K H (.str x) (.str x)
 |lst {a:Addr}{xs:List V}{ds:List PyData}:SqL K H a xs->gA K H xs ds->eY K H (.ref a) (.list ds)
 |tup {a:Addr}{xs:List V}{ds:List PyData}:SqT K H a xs->gA K H xs ds->eY K H (.ref a) (.tuple ds)
inductive gA(K:ax)(H:Hp):List V->List PyData->Prop
 |nil:gA K H [] []
 |cons {x:V}{xs:List V}{d:PyData}{ds:List PyData}:eY K H x d->gA K H xs ds->gA K H (x::xs) (d::ds)
end
section
variable{X:Cx}{pins:List (Addr×Obj)}{σ:St}{H:Hp}{s:af}
theorem Inv.reads(I:Inv X pins σ H s){x:V}{d:PyData}(h:eY X.K H x d):∀{u:ae},RelV x u->∃as,Reads s.heap u d as:=
 h.rec (motive_1:=λx d _=>∀{u:ae},RelV x u->∃as,Reads s.heap u d as) (motive_2:=λxs ds _=>∀{us:List ae},Vals xs us->∃as,ReadsAll s.heap us ds as) (λr=>by cases r;exact⟨_,.none⟩) (λb _ r=>by cases r;exact⟨_,.bool b⟩) (λi _ r=>by obtain⟨t,rfl⟩:=r;exact⟨_,.int i t⟩) (λx _ r=>by obtain⟨t,rfl⟩:=r;exact⟨_,.str x t⟩)
  (λh _ g _ r=>by
   cases r;obtain⟨its,rv,pl,_⟩:=I.list h;obtain⟨as,ra⟩:=g rv;obtain⟨o,ho,hc,n,hd⟩:=pl.isList;exact⟨_,Reads.list ho hc hd (by simpa using ra)⟩)
  (λh _ g _ r=>by
   cases r;obtain⟨its,rv,pl,_⟩:=I.tuple h;obtain⟨as,ra⟩:=g rv;obtain⟨o,ho,hc,n,hd⟩:=pl;exact⟨_,Reads.tuple ho hc hd (by simpa using ra)⟩)
  (λr=>by cases r;exact⟨_,.nil⟩) (λ_ _ a b _ r=>by
   cases r with
   |cons r1 r2=>
    obtain⟨as,ra⟩:=a r1;obtain⟨bs,rb⟩:=b r2;exact⟨_,.cons ra rb⟩)
end
section
variable{X:Cx}
end
end L2
namespace L2
open PySem PySem.Spec PyProof.Rows
section
variable{lt:Nat->Nat->Bool}
noncomputable def Asc(lt:Nat->Nat->Bool)(p:Array Nat)(m:Nat):Prop:=∀i j,i<j->j<m->lt (p.getD j 0) (p.getD i 0)=false
end
section
variable{lt:Nat->Nat->Bool}
structure Part(lt:Nat->Nat->Bool)(p:Array Nat)(r:Nat×Array Nat):Prop where
 perm:r.2.Perm p
 size:r.2.size=p.size
 lo:1<=r.1
 hi:r.1<=p.size
 asc:Asc lt r.2 r.1
end
end L2
namespace HT
open PySem PySem.Spec PyProof.Rows L2
section
variable{prog:aB}{w:aw}{A:aC}{E:ae->af->Prop}{s:af}
theorem yB{t sl:Addr}{items:Array ae}{vl vu:ae}{lo hi:Option Int}{Q:ae->af->Prop}(ht:IsTup s.heap t items)(hs:s.heap.IsSliceOf sl vl vu .none)(pl:IsPart vl lo)(pu:IsPart vu hi)
  (h0:sIx items.size 0 lo=0) (h1:sIx items.size items.size hi=items.size) (h:Q (.ref t) s):ah (ak prog w) A (getItem (.ref t) (.ref sl)) Q E s:=by
 have sk:s.TypeIs (.ref sl) "slice":=by obtain⟨o,a,b,_⟩:=id hs;exact⟨o,a,b⟩
 unfold getItem
 try with_reducible refine bS ?_
 first|refine ag (aq ?_)|skip
 have ty:=ht.typeIs;apply ag;apply wpAny_sequenceKey ty (by decide);apply ag;apply wpAny_callSpecial?_slot (name:=ao "__getitem__") ty slot_tuple_getitem;refine b5 slot_tuple_getitem ty entry_tuple_getitem ?_ (args_tuple_getitem _ _);show ah _ _ (Builtin.Tuple.tupleItemsOf (.ref t)>>=_) _ _ s;apply ag;apply tupleItemsOf_ ht;apply ag;apply wpAny_typeOf sk;rw[if_pos (by decide)];apply ag;apply pW hs pl pu;have yes:(((sIx items.size 0 lo:Nat):Int)==0&&(1:Int)==1&&(sIx items.size items.size hi-sIx items.size 0 lo)==items.size)=true:=by
  rw[h0,h1];simp
 show ah _ _ (if (((sIx items.size 0 lo:Nat):Int)==0&&(1:Int)==1&&(sIx items.size items.size hi-sIx items.size 0 lo)==items.size)=true then _ else _) _ _ s;rw[if_pos yes];apply ag;unfold Builtin.Tuple.tupleIsExact;refine ag (wpAny_typeOf ty (aq ?_));rw[if_pos (by rfl)];exact ag (wpAny_rule (aq ⟨_,rfl,aq h⟩))
end
end HT
namespace L2
open PySem PySem.Spec PyProof.Rows
noncomputable def Fh(K:ax):V->Option Int->Option Int->Hp->VK->Prop:=λx lo hi H Q=>∃a xs,x=.ref a/\SqT K H a xs/\HT.sIx xs.length 0 lo=0/\HT.sIx xs.length xs.length hi=xs.length/\Q x H
theorem BA{X:Cx}:SlR X (Fh X.K):=by
 intro pins s σ H x v vl vu lo hi sl Q I rx hs pl pu ⟨a,xs,e,hx,h0,h1,q⟩;subst e;have rx':=rx;cases rx;obtain⟨its,r,ht,hz⟩:=I.tuple hx;have hl:its.toArray.size=xs.length:=by rw[aP];exact r.length.symm
 exact⟨"tuple",_,slot_tuple_getitem.lookup,ht.typeIs,HT.yB ht hs pl pu (by rw[hl];exact h0) (by rw[hl];exact h1) ⟨.ref a,H,I,rx',q⟩⟩
noncomputable def xN(K:ax)(C:Addr)(n:Nat)(tb:TS)(Eh:XK)(ts:TS):TS:=λD σ H=>tb {D with nx:=D.nx} σ H /\
 ∀(τ:St) (cls:ae) (H':Hp),τ.length=n->Eh cls none H'->cg K cls (.ref C)=some true/\ts {nx:=λ_ _=>False,rt:=D.rt} τ H'
theorem vI{X:Cx}{C:Addr}{cn:Str}{np hpos pos:Pos}{body:List Stmt}{b₀:Stmt}{suite:List Stmt}{tb ts:TS}{Eh:XK}(hex:X.ex=[])(hst:X.stack=X.env::X.outer)(hfr:X.env.frame=some X.env.locals)
  (hg:Gl X cn) (hm:X.mg cn=some (.ref C))
  (hb:∀pn Et,Passes (CX1 X.prog X.w) (X.inTry pn Et) Eh->PSs (X.inTry pn Et) body tb) (hs:∀x,PSs (X.held x) (b₀::suite) ts) (hd:(cn==("__debug__" : Str))=false:=by decide) :
  PS X (.Try body [.ExceptHandler (some (.Name cn np)) none (b₀::suite) hpos] [] [] pos) (xN X.K C X.N.length tb Eh ts):=by
 intro pins s σ H D I h;obtain⟨h1,h2⟩:=h;refine wpAny_Try_except ?_;have okT:∀Et,(X.inTry (X.pn++pins) Et).Ok:=λEt=>
  ⟨I.ok.mod,I.ok.kind,I.ok.glob,I.ok.blt,I.ok.above,I.ok.inj,I.ok.has,I.ok.cab,I.ok.hd,I.ok.frames,I.ok.stk,I.ok.exf,I.ok.bs,I.ok.bsz,I.ok.noex,I.ok.exfs,I.ok.funs,I.ok.frf⟩
 have toT:∀{Et σ H s},Inv X pins σ H s->Inv (X.inTry (X.pn++pins) Et) [] σ H s:=λ{Et σ H s} J=>
  ⟨okT Et,J.os,J.bare,J.base,J.loc,J.cell,J.free,J.freeC,λp hp=>J.pin p (by simpa using hp),J.hok,J.len⟩
 have ofT:∀{Et pins' σ H s},Inv (X.inTry (X.pn++pins) Et) pins' σ H s->Inv X pins σ H s:=λ{Et pins' σ H s} J=>
  ⟨I.ok,J.os,J.bare,J.base,J.loc,J.cell,J.free,J.freeC,λp hp=>J.pin p (List.mem_append_left _ hp),J.hok,J.len⟩
 have hP:Passes (CX1 X.prog X.w) (X.inTry (X.pn++pins) λe s₁=>ah (ak X.prog X.w) X.A (noteFrame e X.env) (λ_ s₂=>ah (ak X.prog X.w) X.A (setFlight e none) (λ_ s₃=>
   ah (ak X.prog X.w) X.A (handleBy e X.env [.ExceptHandler (some (.Name cn np)) none (b₀::suite) hpos]) (SP X pins D) X.xe s₃) X.xe s₂) X.xe s₁) Eh:=by
  intro pins' σ' H' s' e s'' I' hcx;obtain⟨x,cls,H2,rfl,I2,F2,q⟩:=jC (X:=X.inTry (X.pn++pins) _) rfl rfl I' hex hcx;have I3:Inv X pins σ' H2 s'':=ofT I2;have ap:∀{Et b},Apart (X.inTry (X.pn++pins) Et) pins' H2 b->Apart X pins H2 b:=λ{Et b} a=>⟨a.new,a.free,λp hp=>a.pin p (List.mem_append_left _ hp)⟩
  have F3:b_ X pins H2 s''.heap x cls:=by
   obtain⟨oe,vs,T,oT,ts,a0,e1,e2,e3,e4,e5,e6,e7,e8,e9,e10⟩:=F2.tr;exact⟨ap F2.me,oe,vs,T,oT,ts,a0,e1,e2,e3,e4,e5,e6,e7,e8,e9,ap e10⟩
  obtain⟨oe,vs,_,_,_,_,e1,_,_,e4,_⟩:=id F3.tr;obtain⟨T,oT,tts,a0,W,hT,hTd,aT⟩:=b_.flying I3 F3;have hfrm:=I.ok.frames;rw[hst]at hfrm W;refine wpAny_looks_onW hfrm hfr W λh4 W4 u4=>?_
  refine wpAny_landsW W4 λh5 W5 u5=>?_
  rw[<-hst]at W5;obtain⟨I5,F5⟩:=b_.back I3 hex F3.me e1 e4 hT hTd aT W5 (u4.trans u5);obtain⟨oe5,vs5,T5,oT5,ts5,a5,g1,g2,g3,g4,g5,g6,g7,g8,g9,g10⟩:=id F5.tr;obtain⟨hx1,hx2⟩:=h2 σ' cls H2 I3.len q;have LT:PySem.W.Looks (ak X.prog X.w) h5 (typeOf (.ref x)) cls:=by
   subst g2;exact(PySem.W.Looks.ld g1).andThen .now
  refine wpAny_handleBy_cons (codeAny_handlers_test (gW (I5.hold x) hg hm ?_ hd)) (by intro z;cases z);refine PySem.W.exm_one (K:=X.K) I5.kIn LT hx1 _ _ _ _ (λ_ _ e=>e) ?_;refine codeAny_handlers_suite ?_;obtain⟨T6,oT6,ts6,a6,W6,hT6,hTd6,aT6⟩:=b_.flying I5 F5;refine lands_againW W6 λh6 W6' u6=>?_
  obtain⟨I6,F6⟩:=b_.back I5 hex F5.me g1 g4 hT6 hTd6 aT6 W6' u6;refine bT (hs x pins _ _ _ _ (I6.hold x) hx2) (λf s9 r9=>?_) λ_ _ z=>a9 z
  cases f with
  |ret u=>
   obtain⟨v,σ9,H9,I9,rv,q9⟩:=r9;exact⟨v,_,H9,I9.unhold I.ok,rv,q9⟩
  |next=>obtain⟨_,_,_,z⟩:=r9;exact a9 z
  |brk=>obtain⟨_,_,_,z⟩:=r9;exact a9 z
  |cont=>obtain⟨_,_,_,z⟩:=r9;exact a9 z
 refine thn (hb _ _ hP [] s σ H _ (toT I) h1) λf s1 q=>?_
 cases f with
 |next=>obtain⟨σ1,H1,I1,q1⟩:=q;exact wpAny_execs_nil ⟨σ1,H1,ofT I1,q1⟩
 |brk=>obtain⟨σ1,H1,I1,q1⟩:=q;exact⟨σ1,H1,ofT I1,q1⟩
 |cont=>obtain⟨σ1,H1,I1,q1⟩:=q;exact⟨σ1,H1,ofT I1,q1⟩
 |ret u=>obtain⟨v,σ1,H1,I1,rv,q1⟩:=q;exact⟨v,σ1,H1,ofT I1,rv,q1⟩
section
variable{X:Cx}
end
section
variable{X:Cx}{tg:Expr}
end
noncomputable def zy(sep:Str):List Str->Str
 | [p]=>p
 |l=>Builtin.Str.glued sep l
noncomputable def ym(i:Int)(t:Str):Str:=(Str.empty++(toString i:String))++t
noncomputable def cm(i:Int)(t:Str)(j:Int):Str:=ym i t++(toString j:String)
theorem xV{ys:List Str}:∀{us:List ae},Vals (ys.map V.str) us->∃l:List (Str×Tok),us=strValues l/\l.map (·.1)=ys:=by
 induction ys with
 |nil=>intro us r;cases r;exact⟨[],rfl,rfl⟩
 |cons y ys ih=>
  intro us r;cases r with
  |cons h t=>
   obtain⟨l,rfl,e⟩:=ih t;obtain⟨tk,rfl⟩:=h;exact⟨(y,tk)::l,rfl,by rw[aM,e]⟩
theorem r0(k:Nat):∀(ys:List Str) (n:Nat),ys.foldl (· + ·.length+k) n=n+(ys.map (·.length)).sum+k * ys.length
 | [],n=>by simp
 |y::ys,n=>by
  rw[List.foldl_cons,r0 k ys,aM,List.sum_cons,bZ,Nat.mul_succ];lia
section
variable{X:Cx}
noncomputable def rJoin(K:ax):V->List V->Hp->VK->Prop:=λx vs H Q=>∃(sep:Str) (l:Addr) (ys:List Str),x=.str sep/\vs=[.ref l]/\SqL K H l (ys.map V.str)/\sep.length<=16/\(ys.map (·.length)).sum+ys.length<=100000/\Q (.str (zy sep ys)) H
theorem yp:MtR X "str.join" (rJoin X.K):=by
 intro pins s σ H x vs v us Q I rx rv h;obtain⟨sep,l,ys,rfl,rfl,hH,h16,hz,q⟩:=h;obtain⟨t,rfl⟩:=rx;obtain⟨u,rfl,ru⟩:=rv.one;cases ru;obtain⟨its,r,pl,_⟩:=I.list hH;obtain⟨ls,rfl,ey⟩:=xV r;have hl:Builtin.Str.tooLong ((ls.map (·.1)).toArray.foldl (· + ·.length+sep.length) 0)=false:=by
  have:(ls.map (·.1)).toArray.foldl (λ(n:Nat) (s:Str)=>n+s.length+sep.length) 0=(ls.map (·.1)).foldl (λ(n:Nat) (s:Str)=>n+s.length+sep.length) 0:=by simp
  rw[this,r0,ey,Builtin.Str.tooLong,decide_eq_false_iff_not,bA];have:=Nat.mul_le_mul_right ys.length h16;lia
 refine call_meets F.slot_str_join (typeIs_str _ _ _) F.entry_str_join (F.args_str_join_2 _ _) (meets_str_join_list sep t l ls hl) ⟨pl.isList,?_⟩;have sg:∀m:List Str,m=ys->(Builtin.Str.glued sep m).length<=sizeLine:=λm em=>by
  subst em;rw[size_glued,bA];have h1:=Nat.mul_le_mul_left (m.length-1) h16;lia
 subst ey
 match ls,sg,q with
 | [],sg,q=>exact⟨sg _ rfl,.str _,H,I.tok _,⟨_,rfl⟩,q⟩
 | [p],sg,q=>exact⟨.str _,H,I,⟨p.2,rfl⟩,q⟩
 |p::p'::r',sg,q=>exact⟨sg _ rfl,.str _,H,I.tok _,⟨_,rfl⟩,q⟩
noncomputable def wj(ta:TE)(t:Str)(tb:TE):TE:=λσ H Q=>ta σ H λx H1=>∃i:Int,x=.int i/\(i.natAbs.log2<1920/\((Str.empty++((toString i:String):Str))++t).length<=aL) /\
 tb σ H1 λy H2=>∃j:Int,y=.int j/\(j.natAbs.log2<1920/\(cm i t j).length<=aL)/\Q (.str (cm i t j)) H2
theorem vp{ea eb:Expr}{ta tb:TE}{t:Str}{k1}{p1 p2 p3 pos:Pos}(ha:PE X ea ta)(hb:PE X eb tb) :
  PE X (.JoinedStr [.FormattedValue ea (-1) none p1,.Constant (.str t) k1 p2,.FormattedValue eb (-1) none p3] pos) (wj ta t tb):=by
 intro pins s σ H Q I h;refine PyProof.Rows.JoinedStr_many ?_;refine PyProof.Rows.joinParts_cons (PyProof.Rows.FormattedValue_plain (thn (ha pins s σ H _ I h) λv s2 ⟨x,H2,I2,r2,q⟩=>?_));obtain⟨i,rfl,⟨l1,l2⟩,q⟩:=q;obtain⟨tk,rfl⟩:=r2;have z1:(Str.empty++(toString i:String)).length<=sizeLine:=by
  rw[strLen_append]at l2;lia
 have I3:Inv X pins σ H2 {s2 with toks:=s2.toks+1+1}:=I2.kept (t':=s2.toks+1+1) λb o e=>e
 refine PyProof.Rows.formatField_int_small l1 ⟨z1,?_⟩;refine PyProof.Rows.joinParts_cons (thn (lQ pins _ σ H2 (λx H1=>x=.str t/\H1=H2) I3 ⟨rfl,rfl⟩) λv s4 ⟨x,H4,I4,r4,e1,e2⟩=>?_);subst e1 e2;obtain⟨tk,rfl⟩:=r4;refine⟨l2,?_⟩;refine PyProof.Rows.joinParts_cons (PyProof.Rows.FormattedValue_plain (thn (hb pins s4 σ H4 _ I4 q) λv s5 ⟨x,H5,I5,r5,q⟩=>?_));obtain⟨j,rfl,⟨l3,l4⟩,q⟩:=q;obtain⟨tk,rfl⟩:=r5;have I6:Inv X pins σ H5 {s5 with toks:=s5.toks+1+1}:=I5.kept (t':=s5.toks+1+1) λb o e=>e
 refine PyProof.Rows.formatField_int_small l3 ⟨l4,PyProof.Rows.joinParts_nil ?_ l4⟩;exact⟨.str _,H5,I6.kept (t':=s5.toks+1+1+1) λb o e=>e,⟨_,rfl⟩,q⟩
end
noncomputable def qe(x y:Str):List Str:=
 if (decide (x.length<y.length)||decide (Builtin.Str.strKind x<Builtin.Str.strKind y))=true then [x]else
 if (Builtin.Str.occurrences x y 0 x.length (x.length+1)).isEmpty=true then [x]else
 Builtin.Str.partsBetween x (Builtin.Str.occurrences x y 0 x.length (x.length+1)) y.length
theorem sd:∀(tk:Nat) (ys:List Str),Vals (ys.map V.str) (strsFrom tk ys)
 |_,[]=>.nil
 |tk,y::ys=>.cons ⟨tk,rfl⟩ (sd (tk+1) ys)
section
variable{X:Cx}
noncomputable def w9:V->List V->Hp->VK->Prop:=λx vs H Q=>∃a b:Str,x=.str a/\vs=[.str b]/\b.length≠0/\a.length<=aL/\(qe a b).length<=aL/\∀D,H D=none->Q (.ref D) (upd H D (.lst ((qe a b).map V.str)))
theorem wo:MtR X "str.split" w9:=by
 intro pins s σ H x vs v us Q I rx rv h;obtain⟨a,b,rfl,rfl,hb,ha,hz,q⟩:=h;obtain⟨t,rfl⟩:=rx;obtain⟨u,rfl,ru⟩:=rv.one;obtain⟨t',rfl⟩:=ru;have hb':(b.length==0)=false:=by simpa using hb
 have fresh:H s.heap.objs.size=none:=I.hok.fresh (aE _);have one:∀(tk:Nat),qe a b=[a]->∃v' H',Inv X pins σ H' {s with heap:=s.heap.push {cls:=.type "list",data:=.seq [ae.str a t].toArray},toks:=tk}/\RelV v' (bF s.heap.objs.size)/\Q v' H':=λtk e=>by
  refine⟨.ref s.heap.objs.size,_,I.laid (t':=tk) (λ_ _ z=>Heap.get?_push_of_some _ z) (aE _) (o:=.lst ((qe a b).map V.str)) ⟨by rw[aQ];exact hz,[.str a t],0,by rw[e];exact .cons ⟨t,rfl⟩ .nil,Heap.get?_push_size _ rfl⟩,rfl,q _ fresh⟩
 cases h1:(decide (a.length<b.length)||decide (Builtin.Str.strKind a<Builtin.Str.strKind b))with
 |true=>
  have e:qe a b=[a]:=by rw[qe,if_pos h1]
  exact call_meets F.slot_str_split (typeIs_str _ _ _) F.entry_str_split (F.args_str_split_2 _ _) (meets_str_split_cannot_occur a b t t' h1) (one s.toks e)
 |false=>
  cases h2:(Builtin.Str.occurrences a b 0 a.length (a.length+1)).isEmpty with
  |true=>
   have e:qe a b=[a]:=by rw[qe,if_neg (by rw[h1];decide),if_pos h2]
   exact call_meets F.slot_str_split (typeIs_str _ _ _) F.entry_str_split (F.args_str_split_2 _ _) (meets_str_split_not_found a b t t' h1 hb' h2) (one s.toks e)
  |false=>
   have e:qe a b=Builtin.Str.partsBetween a (Builtin.Str.occurrences a b 0 a.length (a.length+1)) b.length:=by rw[qe,if_neg (by rw[h1];decide),if_neg (by rw[h2];decide)]
   rw[e]at hz q;refine call_meets F.slot_str_split (typeIs_str _ _ _) F.entry_str_split (F.args_str_split_2 _ _) (meets_str_split_sep a b t t' h1 hb' h2 ha hz) ?_;generalize Builtin.Str.partsBetween a (Builtin.Str.occurrences a b 0 a.length (a.length+1)) b.length=ps at *;exact⟨.ref s.heap.objs.size,_,I.laid (λ_ _ z=>Heap.get?_push_of_some _ z) (aE _) (o:=.lst (ps.map V.str)) ⟨by rw[aQ];exact hz,strsFrom s.toks ps,0,sd _ _,Heap.get?_push_size _ rfl⟩,rfl,q _ fresh⟩
theorem Ak:zv X (.type "int") (λxs H Q=>∃(x:Str) (n:Int),xs=[.str x]/\PySem.intText? x=some n/\x.length<=640/\Q (.int n) H):=by
 intro pins s σ H xs us Q I r h;obtain⟨x,n,rfl,hn,hl,q⟩:=h;obtain⟨u,rfl,ru⟩:=r.one;obtain⟨t,rfl⟩:=ru;exact PySem.W.KIN.call_text hn hl ⟨.int n,H,I.tok _,⟨_,rfl⟩,q⟩
end
noncomputable def Its(x:Str):It:=⟨λi _=>i<x.cps.size,λi H v H'=>H'=H/\∃c,x.cps[i]? = some c/\v=.str ⟨#[c]⟩,λi _=>x.cps.size<=i⟩
theorem ua{P:aB}{w:aw}{K:ax}{tg:Expr}{ty:String}(hty:ty = "str_ascii_iterator"\/ty = "str_iterator")(it:Addr)(x:Str)(t:Tok):Turn P w K tg (Its x) [it] it (λi h=>h.IsStrIter it ty x t i) where
 mem:=by simp
 obj:=λi h st b hb=>by
  have e:b=it:=by simpa using hb
  subst e;obtain⟨o,e,c,d⟩:=st;exact⟨o,e,λv z=>by rw[d]at z;cases z⟩
 keep:=λi h h' st k=>let ⟨o,ho,r⟩:=st;⟨o,k it (by simp) o ho,r⟩
 item:=by
  intro X hP hw hK hc i pins s σ H E I hf st hg;subst hP hw hK;obtain⟨f0,f1,f2,f3,f4,f5⟩:=hf it (by simp);have hi:i<x.cps.size:=hg;rcases hty with rfl|rfl
  ·refine wpAny_pyNext_ascii_item st (c:=x.cps[i]) (by simp[hi]) λh' st' sb=>?_
   have I1:Inv X pins σ H {s with heap:=h',toks:=s.toks+1}:=I.turned (λb o hb e=>(sb.2 b hb).trans e) f0 f1 f3 f4 f5;obtain⟨o,e,c,d⟩:=id st';exact⟨_,rfl,i7 (s:={s with heap:=h',toks:=s.toks+1}) e c d (by decide) ⟨.str ⟨#[x.cps[i]]⟩,H,I1,⟨_,rfl⟩,⟨rfl,_,by simp[hi],rfl⟩,st',λb hb=>(hf b hb).1⟩⟩
  ·refine wpAny_pyNext_wide_item st (c:=x.cps[i]) (by simp[hi]) λh' st' sb=>?_
   have I1:Inv X pins σ H {s with heap:=h',toks:=s.toks+1}:=I.turned (λb o hb e=>(sb.2 b hb).trans e) f0 f1 f3 f4 f5;obtain⟨o,e,c,d⟩:=id st';exact⟨_,rfl,i7 (s:={s with heap:=h',toks:=s.toks+1}) e c d (by decide) ⟨.str ⟨#[x.cps[i]]⟩,H,I1,⟨_,rfl⟩,⟨rfl,_,by simp[hi],rfl⟩,st',λb hb=>(hf b hb).1⟩⟩
 done:=by
  intro X hP hw hK hc i pins s σ H E I hf st hg;subst hP hw hK;obtain⟨f0,f1,f2,f3,f4,f5⟩:=hf it (by simp);have hi:x.cps[i]? = none:=by have:x.cps.size<=i:=hg;simp;lia
  rcases hty with rfl|rfl
  ·exact wpAny_pyNext_ascii_end (I.ok.hd hc) st hi λh' eb=>⟨rfl,I.turned (t':=s.toks) (λb o hb e=>eb b o hb e) f0 f1 f3 f4 f5⟩
  ·exact wpAny_pyNext_wide_end (I.ok.hd hc) st hi λh' eb=>⟨rfl,I.turned (t':=s.toks) (λb o hb e=>eb b o hb e) f0 f1 f3 f4 f5⟩
 self:=λ_ _ _ _ _ st h=>by
  rcases hty with rfl|rfl
  ·exact wpAny_pyIter_striter_ascii st h
  ·exact wpAny_pyIter_striter_wide st h
section
variable{X:Cx}{tg:Expr}
noncomputable def DH(tl:TE):TI:=λσ H R=>tl σ H λv H1=>∃x:Str,v=.str x/\R (Its x) H1
theorem yu{l:Expr}{tl:TE}(hl:PE X l tl):PI X tg l (DH tl):=by
 intro pins s σ H R I h;refine thn (hl pins s σ H _ I h) λv s1 ⟨x,H1,I1,r1,q1⟩=>?_
 obtain⟨x,rfl,q⟩:=q1;obtain⟨t,rfl⟩:=r1;have hfp:∀b∈[s1.heap.objs.size],dJ X pins H1 b:=λb hb=>by
  have e:b=s1.heap.objs.size:=by simpa using hb
  subst e;exact I1.fpOk (aE _) (I1.hok.fresh (aE _))
 cases ha:x.cps.all (· < 128)
 ·exact wpAny_pyIter_wide ha ⟨s1.heap.objs.size,[s1.heap.objs.size],_,_,H1,rfl,I1.kept (t':=s1.toks) λb o e=>Heap.get?_push_of_some _ e,ua (.inr rfl) _ x t,⟨_,Heap.get?_push_size _ rfl,rfl,rfl⟩,hfp,q⟩
 ·exact wpAny_pyIter_ascii ha ⟨s1.heap.objs.size,[s1.heap.objs.size],_,_,H1,rfl,I1.kept (t':=s1.toks) λb o e=>Heap.get?_push_of_some _ e,ua (.inl rfl) _ x t,⟨_,Heap.get?_push_size _ rfl,rfl,rfl⟩,hfp,q⟩
end
noncomputable def zu(x:Str)(lo hi:Option Int):Str:=
 if (Builtin.Str.strSliceIndices lo hi 1 x.length).length==x.length then x else ⟨((Builtin.Str.strSliceIndices lo hi 1 x.length).filterMap (x.cps[·]?)).toArray⟩
noncomputable def zH(x:Str):Str:=⟨((Builtin.Str.strSliceIndices none none (-1) x.length).filterMap (x.cps[·]?)).toArray⟩
noncomputable def zP(x y:Str):Str:=if stripSame y.cps.contains true true x then x else PySem.stripped y.cps.contains true true x
section
variable{X:Cx}
theorem part_of{v:ae}{o:Option Int}(h:IsPart v o):∃l:Option (Int×Tok),v=partValue l/\o=l.map (·.1):=by
 cases h with
 |none=>exact⟨none,rfl,rfl⟩
 |int i t=>exact⟨some (i,t),rfl,rfl⟩
noncomputable def yR:V->Option Int->Option Int->Hp->VK->Prop:=λv lo hi H Q=>∃x:Str,v=.str x/\(zu x lo hi).length<=aL/\Q (.str (zu x lo hi)) H
theorem k_:SlR X yR:=by
 intro pins s σ H x v vl vu lo hi sl Q I rx hs pl pu h;obtain⟨x,rfl,hz,q⟩:=h;obtain⟨t,rfl⟩:=rx;obtain⟨l,rfl,rfl⟩:=part_of pl;obtain⟨u,rfl,rfl⟩:=part_of pu;refine⟨"str",_,F.slot_str_getitem.lookup,typeIs_str _ _ _,?_⟩;refine wpAny_getItem_str_slice (l:=l) (u:=u) (st:=none) hs rfl ?_;unfold zu at hz q;show Made.post (if ((1:Int)==1&&(Builtin.Str.strSliceIndices (l.map (·.1)) (u.map (·.1)) 1 x.length).length==x.length)=true then .val (.str x t)else .str ⟨((Builtin.Str.strSliceIndices (l.map (·.1)) (u.map (·.1)) 1 x.length).filterMap (x.cps[·]?)).toArray⟩) _ _;cases e:(Builtin.Str.strSliceIndices (l.map (·.1)) (u.map (·.1)) 1 x.length).length==x.length with
 |true=>
  rw[e]at q;rw[if_pos (by decide)];exact⟨.str x,H,I,⟨t,rfl⟩,q⟩
 |false=>
  rw[e]at q hz;rw[if_neg (by decide)];exact⟨hz,.str _,H,I.tok _,⟨_,rfl⟩,q⟩
noncomputable def Ef:V->List V->Hp->VK->Prop:=λx vs H Q=>∃a b:Str,x=.str a/\vs=[.str b]/\(zP a b).length<=aL/\Q (.str (zP a b)) H
theorem CP:MtR X "str.strip" Ef:=by
 intro pins s σ H x vs v us Q I rx rv h;obtain⟨a,b,rfl,rfl,hz,q⟩:=h;obtain⟨t,rfl⟩:=rx;obtain⟨u,rfl,ru⟩:=rv.one;obtain⟨t',rfl⟩:=ru;refine call_meets F.slot_str_strip (typeIs_str _ _ _) F.entry_str_strip (F.args_str_strip_2 _ _) (gives_str_strip_chars a b t t').meets ?_;unfold zP at hz q;show Made.post (if stripSame b.cps.contains true true a then .val (.str a t)else .str (PySem.stripped b.cps.contains true true a)) _ _;cases e:stripSame b.cps.contains true true a with
 |true=>
  rw[e]at q;exact⟨.str a,H,I,⟨t,rfl⟩,q⟩
 |false=>
  rw[e]at q hz;exact⟨hz,.str _,H,I.tok _,⟨_,rfl⟩,q⟩
variable{e st:Expr}{te ts:TE}{p2 pos:Pos}
noncomputable def Ba(te ts:TE):TE:=λσ H Q=>te σ H λx H1=>ts σ H1 λy H2=>y=.int (-1)/\∃z:Str,x=.str z/\(zH z).length<=aL/\Q (.str (zH z)) H2
theorem uh(he:PE X e te)(hs:PE X st ts):PE X (.Subscript e (.Slice none none (some st) p2) pos) (Ba te ts):=by
 intro pins s σ H Q I h;refine Subscript_ (thn (he pins s σ H _ I h) λv s1 ⟨x,H1,I1,r1,q1⟩=>?_);refine wpAny_Slice ?_;rw[evalPart_none];refine aq (aq ?_);rw[evalPart_some];refine thn (hs pins s1 σ H1 _ I1 q1) λu s3 ⟨y,H3,I3,r3,q3⟩=>?_
 obtain⟨rfl,z,rfl,hz,q⟩:=q3;obtain⟨tk,rfl⟩:=r3;obtain⟨t,rfl⟩:=r1;have I4:Inv X pins σ H3 {s3 with heap:=s3.heap.push {cls:=.type "slice",data:=.fields #[.none,.none,.int (-1) tk]}}:=I3.kept (t':=s3.toks) λb ob q=>Heap.get?_push_of_some _ q
 show ah (ak X.prog X.w) X.A (subscriptTail e (.Slice none none (some st) p2) (.str z t) (.ref s3.heap.objs.size)) (EP X pins σ Q) X.xe {s3 with heap:=s3.heap.push {cls:=.type "slice",data:=.fields #[.none,.none,.int (-1) tk]}};refine tail_any (ops:=[.ref s3.heap.objs.size,.str z t]) (typeIs_str _ _ _) F.slot_str_getitem.lookup (wpAny_getItem_str_slice (l:=none) (u:=none) (st:=some (-1,tk)) ⟨_,Heap.get?_push_size _ rfl,rfl,rfl⟩ rfl ?_) (by with_unfolding_all rfl);show Made.post (if ((-1:Int)==1&&_)=true then .val (.str z t)else .str (zH z)) _ _;rw[if_neg (by simp)];exact⟨hz,.str _,H3,I4.tok _,⟨_,rfl⟩,q⟩
end
end L2
namespace L2
open PySem PySem.Spec PyProof.Rows Builtin
noncomputable def pickL{α:Type}(xs:List α)(lo hi st:Option Int):List α:=
 (sliceRange (sliceBounds lo hi st xs.length).1 (sliceBounds lo hi st xs.length).2.1 (sliceBounds lo hi st xs.length).2.2).filterMap (xs[·]?)
theorem Vals.picks{xs:List V}{us:List ae}(r:Vals xs us):∀(l:List Nat),Vals (l.filterMap (xs[·]?)) (l.filterMap (us[·]?))
 | []=>.nil
 |i::l=>by
  cases h:xs[i]? with
  |none=>
   have h':us[i]? = none:=by rw[List.getElem?_eq_none_iff]at h ⊢;rw[<-r.length];exact h
   rw[List.filterMap_cons_none h,List.filterMap_cons_none h'];exact Vals.picks r l
  |some x=>
   obtain⟨u,h',ru⟩:=r.get h;rw[List.filterMap_cons_some h,List.filterMap_cons_some h'];exact .cons ru (Vals.picks r l)
section
variable{X:Cx}{e st hi:Expr}{te th ts:TE}{p2 pos:Pos}
noncomputable def BM(K:ax)(te th ts:TE):TE:=λσ H Q=>te σ H λx H1=>th σ H1 λz H2=>ts σ H2 λy H3=>∃i j:Int,z=.int i/\y=.int j/\j≠0/\∃a xs,x=.ref a/\SqL K H3 a xs/\∀p,H3 p=none->Q (.ref p) (upd H3 p (.lst (pickL xs none (some i) (some j))))
theorem CC(he:PE X e te)(hh:PE X hi th)(hs:PE X st ts):PE X (.Subscript e (.Slice none (some hi) (some st) p2) pos) (BM X.K te th ts):=by
 intro pins s σ H Q I h;refine Subscript_ (thn (he pins s σ H _ I h) λv s1 ⟨x,H1,I1,r1,q1⟩=>?_);refine wpAny_Slice ?_;rw[evalPart_none];refine aq ?_;rw[evalPart_some];refine thn (hh pins s1 σ H1 _ I1 q1) λu2 s2 ⟨z,H2,I2,r2,q2⟩=>?_
 rw[evalPart_some];refine thn (hs pins s2 σ H2 _ I2 q2) λu s3 ⟨y,H3,I3,r3,q3⟩=>?_
 obtain⟨i,j,rfl,rfl,hj,a,xs,rfl,hx,q⟩:=q3;obtain⟨tk,rfl⟩:=r3;obtain⟨tk2,rfl⟩:=r2;cases r1;have I4:Inv X pins σ H3 {s3 with heap:=s3.heap.push {cls:=.type "slice",data:=.fields #[.none,.int i tk2,.int j tk]}}:=I3.kept (t':=s3.toks) λb ob q=>Heap.get?_push_of_some _ q
 obtain⟨its,r,ht,hz⟩:=I4.list hx;have hlen:=r.length;show ah (ak X.prog X.w) X.A (subscriptTail e (.Slice none (some hi) (some st) p2) (.ref a) (.ref s3.heap.objs.size)) (EP X pins σ Q) X.xe {s3 with heap:=s3.heap.push {cls:=.type "slice",data:=.fields #[.none,.int i tk2,.int j tk]}};refine tail_any (ops:=[.ref a,.ref s3.heap.objs.size]) ht.isList.typeIs slot_list_getitem.lookup (wpAny_getItem_list_slice ht.isList (Heap.IsSliceOf.new ..) .none (.int i tk2) (.int j tk) (by simpa using hj) ?_ (by rw[aP,<-hlen];exact hz)) (by with_unfolding_all rfl);have hp:Vals (pickL xs none (some i) (some j)) (slicePick its.toArray none (some i) (some j)).toList:=by
  have:=r.picks (sliceRange (sliceBounds none (some i) (some j) xs.length).1 (sliceBounds none (some i) (some j) xs.length).2.1 (sliceBounds none (some i) (some j) xs.length).2.2);unfold slicePick pickL
  simpa[hlen]using this
 have hq:(pickL xs none (some i) (some j)).length<=sizeLine:=by
  rw[hp.length,bU];exact bf (slicePick_size_le _ _ _ _) (by rw[aP,<-hlen];exact hz)
 exact⟨.ref _,_,I4.laid (o:=.lst (pickL xs none (some i) (some j))) (λb ob q=>Heap.get?_push_of_some _ q) (aE _) ⟨hq,_,0,hp,Heap.get?_push_size _ rfl⟩,rfl,q _ I4.fresh⟩
end
end L2
namespace L2
open PySem PySem.Spec PyProof.Rows
noncomputable def jf(kX:Str->Option aU)(NX NY:List Str)(cap:List (Option Nat))(scope:aY):Bool:=
 (scope.kind==.function)&&(scope.names.all λy=>(y.2 != .cell||scope.names.lookup y.1==some .cell)&&(y.2 != .local||scope.names.lookup y.1==some .local)&&(y.2 != .free||kX y.1==some .cell||kX y.1==some .free)) &&
 (cap.length==NY.length)&&(a_ cap.length).all λi=>match cap[i]? with
  |some (some j)=>(match NY[i]?,NX[j]? with
   |some x,some y=>x==y&&scope.names.lookup x==some .free&&(kX x==some .cell||kX x==some .free)
   |_,_=>false)
  |_=>true
theorem eB.of{X:Cx}{NY:List Str}{cap:List (Option Nat)}{scope:aY}(h:jf X.env.kindOf X.N NY cap scope=true):eB X NY cap scope:=by
 unfold jf at h;simp only[aJ,bL,beq_iff_eq]at h;obtain⟨⟨⟨h1,h2⟩,h3⟩,h4⟩:=h;refine⟨h1,λy hy e=>?_,λy hy e=>?_,λy hy e=>?_,h3,λi j hc=>?_⟩
 ·have:=(h2 y hy).1.1;rw[e]at this
  simpa using this
 ·have:=(h2 y hy).1.2;rw[e]at this
  simpa using this
 ·have:=(h2 y hy).2;rw[e]at this
  simpa using this
 ·have hi:i<cap.length:=(List.getElem?_eq_some_iff.mp hc).1;have:=h4 i (List.mem_range.mpr hi);rw[hc]at this;dsimp only at this;split at this
  ·rename_i x y e1 e2
   simp only[aJ,beq_iff_eq,bV]at this;obtain⟨⟨e3,e4⟩,e5⟩:=this;subst e3;exact⟨x,e1,e2,e4,e5⟩
  ·cases this
end L2
namespace WB
open PySem PySem.Spec PyProof.Rows L2
section
variable{P:aB}{w:aw}{K:ax}{mg:Str->Option ae}{base:Heap}{f g:Addr}{fd gd:bI}
theorem _root_.L2.Fun.ok1{x qual:Str}{st:Stmt}{f:Addr}{fd:bI}{N ps:List Str}{k:Nat}{sp:Sp}(F:Fun K x qual st f fd)(S:fX N ps (zc st))(len:∀vs H Q E,sp vs H Q E->vs.length=ps.length)
  (hbody:∀(cdv:ae) (A:aC) (outer:List Env) (s:af) (H:Hp) (vs:List V) (Q:VK) (E:XK),ck k (A.deeper (envOfC qual (zc st) s.heap.objs.size f cdv))->sp vs H Q E ->
   ∃t,PSs (eu (CX1 P w) P w K mg base N qual (zc st) f cdv A outer s H E) (dR st) t/\t {nx:=λ_ H'=>Q .non H',rt:=Q} (start N vs) H):fN P w K mg base (CX1 P w) (k+1) f fd ps sp:=by
 obtain⟨oc,od,kV,doc,pm,an,cdv,ct,osl,rfl,lk,hcd⟩:=F.ex;exact AR lk hcd S len λA outer s H vs Q E hr hsp=>hbody cdv A outer s H vs Q E hr hsp
end
noncomputable def ED(H:Hp)(ps:List Addr)(ks:List (Int×Int)):Prop:=ps.length=ks.length/\∀(i:Nat) p k,ps[i]? = some p->ks[i]? = some k->H p=some (.tup [.int k.1,.int k.2])
structure Built(H0:Hp)(acc:Addr)(ks:List (Int×Int))(H:Hp):Prop where
 ex:∃ps:List Addr,H acc=some (.lst (ps.map V.ref))/\ED H ps ks
 same:∀b o,b≠acc->H0 b=some o->H b=some o
end WB
set_option genSizeOf false
set_option genSizeOfSpec false
namespace EV
open PySem L2
inductive D where
 |non|bl (b:Bool)|int (i:Int)|str (x:Str)|tup (xs:List D)|lst (xs:List D)|fn (x:Str)|exn (c:Str)|dic
inductive R(α:Type) where
 |ok (a:α)|ex (c:Str)|no
noncomputable def R.bind{α β:Type}:R α->(α->R β)->R β
 | .ok a,f=>f a
 | .ex c,_=>.ex c
 | .no,_=>.no
@[simp] theorem R.bind_ok{α β:Type}(a:α)(f:α->R β):(R.ok a).bind f=f a:=rfl
@[simp] theorem R.bind_ex{α β:Type}(c:Str)(f:α->R β):(R.ex c:R α).bind f=.ex c:=rfl
@[simp] theorem R.bind_no{α β:Type}(f:α->R β):(R.no:R α).bind f=.no:=rfl
inductive O2 where
 |add|sub|mul|fdiv|mod|pow|shl|shr|band|bor|bxor
 deriving DecidableEq
inductive C2 where
 |eq|ne|lt|le|gt|ge|isin|notin|is|isnot
 deriving DecidableEq
inductive B1 where
 |len|tuple|list|sorted|all|any|sum|min|max|abs|int|bool
 deriving DecidableEq
inductive Cl where
 |ty (n:String)|ex (x:Str)
 deriving DecidableEq
inductive Tg where
 |nm (i:Nat)|tp (is:List Nat)
mutual
inductive E where
 |var (i:Nat)|own (i:Nat)|con (d:D)|glb (x:Str)|fnv (x:Str)
 |op (o:O2) (a b:E)|neg (a:E)|inv (a:E)|not (a:E)|and (a b:E)|or (a b:E)
 |cmp (c:C2) (a b:E)|cmp2 (c c':C2) (a b d:E)|cmp3 (c c' c'':C2) (a b d e:E)
 |ite (t:T) (a b:E)
 |tup (es:Es)|lst (es:Es)
 |ix (a b:E)|sl (a:E) (lo hi:OE)
 |call (f:Str) (es:Es)|callE (f:E) (es:Es)
 |bi (b:B1) (es:Es)
 |rtup (a:It)|rlst (a:It)
 |isi (a:E) (c:Cl)
 |comp (it:It) (cap:List (Option Nat)) (tg:Tg) (t:T) (elt:E)
 |mth (ix:Bool) (a:E)
 |cnt (a b:E)
 |mxk (mx:Bool) (a:E)
 |dic
 |callo (f:Str) (es:Es)
 |comp2 (it:It) (cap:List (Option Nat)) (tg:Tg) (it2:It) (tg2:Tg) (t:T) (elt:E)
 |fst2 (t0:Str) (a:E) (t1:Str) (b:E) (t2:Str)
 |sset (ln:Bool) (a:E)
 |rev (a:E)
 |stri (a:E)
 |joi (sep:Str) (a:E)
 |fsm (a:E) (t:Str) (b:E)
 |sadd (a b:E)
 |spl (a b:E)
 |rvt (a:E)
 |stp (a b:E)
inductive OE where
 |none|some (e:E)
inductive Es where
 |nil|cons (e:E) (es:Es)
inductive It where
 |seq (e:E)|rng (a:E)|rng2 (a b:E)|enum (e:E)|zip (a b:E)|rng3 (a b k:E)
inductive T where
 |yes|val (e:E)|cmp (c:C2) (a b:E)|cmp2 (c c':C2) (a b d:E)|and (a b:T)|or (a b:T)|not (a:T)
end
noncomputable def SZ:Nat:=1000000
noncomputable def small(j:Int):Bool:=decide (-(2^64)<j)&&decide (j<2^64)
noncomputable def opI:O2->Int->Int->R D
 | .add,i,j=>.ok (.int (i+j))
 | .sub,i,j=>.ok (.int (i-j))
 | .mul,i,j=>if small i||small j then .ok (.int (i * j))else .no
 | .fdiv,i,j=>if 0<j/\j<1000000000000000000000000000000 then .ok (.int (i/j))else .no
 | .mod,i,j=>if 0<j then .ok (.int (i%j))else .no
 | .pow,i,j=>if 0<=j/\j<=1000000/\i.natAbs<2^64 then .ok (.int (i^j.toNat))else .no
 | .shl,i,j=>if 0<=j/\j<=1000000/\i.natAbs<2^64 then .ok (.int (i * 2^j.toNat))else .no
 | .shr,i,j=>if 0<=j then .ok (.int (i/2^j.toNat))else .no
 | .band,i,j=>.ok (.int (Builtin.bitAnd i j))
 | .bor,i,j=>.ok (.int (Builtin.bitOr i j))
 | .bxor,i,j=>.ok (.int (Builtin.bitXor i j))
noncomputable def m7:D->Bool
 | .lst _=>true
 |_=>false
noncomputable def op2(o:O2):D->D->R D
 | .int i,.int j=>opI o i j
 | .tup xs,.tup ys=>if o=.add/\xs.length+ys.length<=SZ then .ok (.tup (xs++ys))else .no
 | .lst xs,.lst ys=>if o=.add/\xs.length+ys.length<=SZ then .ok (.lst (xs++ys))else .no
 | .str x,.str y=>if o=.add/\x.length+y.length<=SZ then .ok (.str (x++y))else .no
 |_,_=>.no
mutual
noncomputable def D.plain:D->Bool
 | .non=>true
 | .bl _=>true
 | .int _=>true
 | .str x=>PyData.strOk x
 | .tup xs=>plainAll xs
 | .lst xs=>plainAll xs
 | .fn _=>false
 | .exn _=>false
 | .dic=>false
noncomputable def plainAll:List D->Bool
 | []=>true
 |x::xs=>x.plain&&plainAll xs
end
mutual
noncomputable def D.deep:D->Nat
 | .tup xs=>dN xs+1
 | .lst xs=>dN xs+1
 |_=>0
noncomputable def dN:List D->Nat
 | []=>0
 |x::xs=>max x.deep (dN xs)
end
mutual
noncomputable def D.eqv:D->D->Bool
 | .non,.non=>true
 | .bl a,.bl b=>a==b
 | .bl a,.int j=>(if a then 1 else 0)==j
 | .int i,.bl b=>i==(if b then 1 else 0)
 | .int i,.int j=>i==j
 | .str x,.str y=>x==y
 | .tup xs,.tup ys=>eqvAll xs ys
 | .lst xs,.lst ys=>eqvAll xs ys
 |_,_=>false
noncomputable def eqvAll:List D->List D->Bool
 | [],[]=>true
 |x::xs,y::ys=>x.eqv y&&eqvAll xs ys
 |_,_=>false
end
noncomputable def D.asks(d:D):Bool:=d.plain&&decide (d.deep<=20)
mutual
noncomputable def D.noL:D->Bool
 | .non=>true
 | .bl _=>true
 | .int _=>true
 | .str _=>true
 | .tup xs=>sU xs
 |_=>false
noncomputable def sU:List D->Bool
 | []=>true
 |x::xs=>x.noL&&sU xs
end
noncomputable def ints?:List D->Option (List Int)
 | []=>some []
 | .int i::r=>(ints? r).map (i :: ·)
 |_=>none
noncomputable def bools?:List D->Option (List Bool)
 | []=>some []
 | .bl i::r=>(bools? r).map (i :: ·)
 |_=>none
noncomputable def pairs?:List D->Option (List (Int×Int))
 | []=>some []
 | .tup [.int i,.int j]::r=>(pairs? r).map ((i,j) :: ·)
 |_=>none
noncomputable def seq?:D->Option (List D)
 | .tup xs=>some xs
 | .lst xs=>some xs
 |_=>none
noncomputable def cF:List Int->List Int->Bool
 | [],[]=>false
 | [],_::_=>true
 |_::_,[]=>false
 |a::r,b::t=>if a=b then cF r t else decide (a<b)
noncomputable def jr(c:C2)(i j:Int):Option Bool:=
 match c with
 | .lt=>some (decide (i<j))
 | .le=>some (decide (i<=j))
 | .gt=>some (decide (j<i))
 | .ge=>some (decide (j<=i))
 | .eq=>some (decide (i=j))
 | .ne=>some (!decide (i=j))
 |_=>none
noncomputable def inD(x:D)(xs:List D):Bool:=xs.any λy=>y.eqv x
noncomputable def fD:D->Bool
 | .non=>true
 |_=>false
noncomputable def isB(n:Bool):D->D->R Bool
 | .bl a,.bl b=>.ok (n != (a==b))
 |_,_=>.no
noncomputable def eE:D->D->R Bool
 | .str i,.str j=>.ok (!(Builtin.Str.occurrences j i 0 j.length 1).isEmpty)
 |_,_=>.no
noncomputable def qg:C2->D->D->R Bool
 | .is,a,b=>if fD b then .ok (fD a)else isB false a b
 | .isnot,a,b=>if fD b then .ok (!fD a)else isB true a b
 | .isin,a,b=>match seq? b with
  |some xs=>if a.asks&&xs.all D.asks then .ok (inD a xs)else .no
  |none=>eE a b
 | .notin,a,b=>match seq? b with
  |some xs=>if a.asks&&xs.all D.asks then .ok (!inD a xs)else .no
  |none=>(eE a b).bind λr=>.ok (!r)
 | .eq,a,b=>if a.asks&&b.asks then .ok (a.eqv b)else .no
 | .ne,a,b=>if a.asks&&b.asks then .ok (!a.eqv b)else .no
 | .lt,.tup xs,.tup ys=>match ints? xs,ints? ys with
  |some ns,some ms=>.ok (cF ns ms)
  |_,_=>.no
 |c,.int i,.int j=>match jr c i j with
  |some b=>.ok b
  |none=>.no
 |_,_,_=>.no
noncomputable def truth:D->R Bool
 | .non=>.ok false
 | .bl b=>.ok b
 | .int i=>.ok (i != 0)
 | .tup xs=>.ok (!xs.isEmpty)
 | .lst xs=>.ok (!xs.isEmpty)
 |_=>.no
noncomputable def ixD:D->D->R D
 | .tup xs,.int i=>match atI xs i with|some d=>.ok d|none=>.no
 | .lst xs,.int i=>match atI xs i with|some d=>.ok d|none=>.no
 | .str x,.int i=>if x.length<=SZ then (match atI x.cps.toList i with|some c=>.ok (.str ⟨#[c]⟩)|none=>.no)else .no
 |_,_=>.no
noncomputable def cutD(xs:List D)(lo hi:Option Int):List D:=(xs.drop (HT.sIx xs.length 0 lo)).take (HT.sIx xs.length xs.length hi-HT.sIx xs.length 0 lo)
noncomputable def slD:D->Option Int->Option Int->R D
 | .tup xs,lo,hi=>.ok (.tup (cutD xs lo hi))
 | .lst xs,lo,hi=>.ok (.lst (cutD xs lo hi))
 | .str x,lo,hi=>if (zu x lo hi).length<=SZ then .ok (.str (zu x lo hi))else .no
 |_,_,_=>.no
noncomputable def fq(p:Int×Int):List (Int×Int)->List (Int×Int)
 | []=>[p]
 |q::r=>if ltP q p then q::fq p r else p::q::r
noncomputable def cU:List (Int×Int)->List (Int×Int)
 | []=>[]
 |p::r=>fq p (cU r)
noncomputable def pairD(p:Int×Int):D:=.tup [.int p.1,.int p.2]
noncomputable def dH(d:D)(k:List D->R D):R D:=match d with | .lst xs=>k xs|_=>.no
noncomputable def ibR(d:D)(f:Int->R D)(q:Bool->R D):R D:=match d with | .int i=>f i | .bl b=>q b|_=>.no
noncomputable def iiR(d e:D)(k:Int->Int->R D):R D:=match d,e with | .int i,.int j=>k i j|_,_=>.no
noncomputable def zW{α β:Type}(o:Option α)(k:α->R β):R β:=match o with|some a=>k a|none=>.no
noncomputable def tups?:List D->Option (List (List Int))
 | []=>some []
 | .tup xs::r=>(ints? xs).bind λn=>(tups? r).map (n :: ·)
 |_=>none
noncomputable def fw(p:List Int):List (List Int)->List (List Int)
 | []=>[p]
 |q::r=>if cF q p then q::fw p r else p::q::r
noncomputable def gq:List (List Int)->List (List Int)
 | []=>[]
 |p::r=>fw p (gq r)
noncomputable def iY(l:List Int):D:=.tup (l.map D.int)
noncomputable def b11(b:B1)(d:D):R D:=match b with
 | .len=>match d with
  | .str x=>if x.length<=SZ then .ok (.int x.length)else .no
  |d=>zW (seq? d) λxs=>.ok (.int xs.length)
 | .tuple=>zW (seq? d) λxs=>.ok (.tup xs)
 | .list=>.no
 | .all=>dH d λxs=>zW (bools? xs) λbs=>.ok (.bl (bs.all id))
 | .any=>dH d λxs=>zW (bools? xs) λbs=>.ok (.bl (bs.any id))
 | .sorted=>.no
 | .abs=>.no
 | .int=>match d with
  | .str x=>if x.length<=640 then zW (PySem.intText? x) λn=>.ok (.int n)else .no
  |d=>ibR d (λi=>.ok (.int i)) λb=>.ok (.int (if b then 1 else 0))
 | .bool=>.no
 | .min=>.no
 | .max=>.no
 | .sum=>.no
noncomputable def b12(b:B1)(d e:D):R D:=match b with
 | .min=>iiR d e λi j=>.ok (.int (if j<i then j else i))
 | .max=>iiR d e λi j=>.ok (.int (if j>i then j else i))
 |_=>.no
noncomputable def jz(ix:Bool)(x:D):R D:=dH x λxs=>zW (bools? xs) λbs=>if ix then zW (bs.findIdx? id) λj=>.ok (.int (j:Int))else .ok (.int ((bs.countP id:Nat):Int))
noncomputable def uq{α:Type} [DecidableEq α]:List α->List α
 | []=>[]
 |a::l=>if a∈l then uq l else a::uq l
noncomputable def gK(ln:Bool)(d:D):R D:=zW (seq? d) λxs=>if xs.length<64 then (zW (tups? xs) λts=>if ln then .no else if ts.all (λt=>!t.isEmpty)then .ok (.lst ((gq (uq ts)).map iY))else .no)else .no
noncomputable def b1(b:B1):List D->R D
 | [d]=>b11 b d
 | [d,e]=>b12 b d e
 |_=>.no
noncomputable def tyD:D->Option String
 | .non=>some "NoneType"
 | .bl _=>some "bool"
 | .int _=>some "int"
 | .str _=>some "str"
 | .tup _=>some "tuple"
 | .lst _=>some "list"
 | .dic=>some "dict"
 |_=>none
noncomputable def zT(lo:Int)(n:Nat):List D:=(a_ n).map λ(i:Nat)=>.int (lo+(i:Int))
noncomputable def eD:Nat->List D->List D
 |_,[]=>[]
 |k,x::r=>.tup [.int k,x]::eD (k+1) r
noncomputable def cB:List D->List D->List D
 |x::xs,y::ys=>.tup [x,y]::cB xs ys
 |_,_=>[]
noncomputable def zt(j:Int):Bool:=decide (-1000000<=j)&&decide (j<=1000000)
abbrev Env:=List (Option D)
structure W where
 call:Str->List D->R D
 glb:Str->Option D
 sub:Str->Cl->Option Bool
 cat:Str->Str->Bool
noncomputable def zU(w:W)(x:D)(c:Cl):R D:=match tyD x,c with
 |some t,.ty n=>if n = "ValueError" then .no else .ok (.bl (fS t n))
 |none,c=>match x with
  | .exn k=>match w.sub k c with|some b=>.ok (.bl b)|none=>.no
  |_=>.no
 |_,_=>.no
noncomputable def bX(τ:Env)(i:Nat):R D:=match τ[i]? with
 |some (some d)=>.ok d
 |_=>.no
noncomputable def setAll:List Nat->List D->Env->R Env
 | [],[],τ=>.ok τ
 |i::is,d::ds,τ=>setAll is ds (τ.set i (some d))
 |_,_,_=>.no
noncomputable def store:Tg->D->Env->R Env
 | .nm i,d,τ=>.ok (τ.set i (some d))
 | .tp is,.tup ds,τ=>if ds.length=is.length then setAll is ds τ else .no
 |_,_,_=>.no
noncomputable def ef(cap:List (Option Nat))(τ:Env):Env:=cap.map λo=>o.bind λj=>(τ[j]?).join
noncomputable def noEx{α:Type}:R α->R α
 | .ok a=>.ok a
 |_=>.no
noncomputable def zZ(body:D->Env->R (Env×List D)):List D->Env->List D->R (List D)
 | [],_,acc=>.ok acc
 |x::r,τ,acc=>(body x τ).bind λp=>zZ body r p.1 (acc++p.2)
noncomputable def jv(x:Str):List D:=x.cps.toList.map λc=>.str ⟨#[c]⟩
noncomputable def itr?:D->Option (List D)
 | .str x=>some (jv x)
 |d=>seq? d
abbrev zK(i:Int):Str:=(toString i:String)
noncomputable def iR{α:Type}(x:D)(f:Int->R α):R α:=match x with
 | .int i=>f i
 |_=>.no
noncomputable def sR{α:Type}(x:D)(f:Str->R α):R α:=match x with
 | .str i=>f i
 |_=>.no
noncomputable def fO(x:D):R D:=iR x λi=>if zt i then .ok (.str (zK i))else .no
noncomputable def strs?:List D->Option (List Str)
 | []=>some []
 |d::r=>match d with
  | .str x=>(strs? r).map (x :: ·)
  |_=>none
noncomputable def fb(sep:Str)(x:D):R D:=dH x λxs=>zW (strs? xs) λys=>if decide (sep.length<=16)&&decide ((ys.map (·.length)).sum+ys.length<=100000)then .ok (.str (zy sep ys))else .no
noncomputable def jZ(i:Str)(y:D):R D:=sR y λj=>if decide ((zP i j).length<=SZ)then .ok (.str (zP i j))else .no
noncomputable def iM(x:D):R D:=dH x λxs=>.ok (.lst (pickL xs none (some 0) (some (-1))))
noncomputable def iZ(i:Str)(y:D):R D:=sR y λj=>if decide (j.length≠0)&&decide (i.length<=SZ)&&decide ((qe i j).length<=SZ)then .ok (.lst ((qe i j).map D.str))else .no
noncomputable def eh(x y:D):R D:=sR x λi=>sR y λj=>if i.length+j.length<=SZ then .ok (.str (i++j))else .no
mutual
noncomputable def evE(w:W):E->Env->R D
 | .var i,τ=>bX τ i
 | .own i,τ=>bX τ i
 | .con d,_=>.ok d
 | .glb x,_=>match w.glb x with|some d=>.ok d|none=>.no
 | .fnv x,_=>.no
 | .op o a b,τ=>(evE w a τ).bind λx=>(evE w b τ).bind λy=>op2 o x y
 | .neg a,τ=>(evE w a τ).bind λx=>match x with | .int i=>.ok (.int (-i))|_=>.no
 | .inv a,_=>.no
 | .not a,τ=>(evE w a τ).bind λx=>match x with | .bl b=>.ok (.bl (!b))|_=>.no
 | .and a b,τ=>(evE w a τ).bind λx=>match x with | .bl true=>evE w b τ | .bl false=>.ok (.bl false)|_=>.no
 | .or a b,τ=>(evE w a τ).bind λx=>match x with | .bl true=>.ok (.bl true) | .bl false=>evE w b τ|_=>.no
 | .cmp c a b,τ=>(evE w a τ).bind λx=>(evE w b τ).bind λy=>(qg c x y).bind λr=>.ok (.bl r)
 | .cmp2 c c' a b d,τ=>(evE w a τ).bind λx=>(evE w b τ).bind λy=>(qg c x y).bind λr=>if r then (evE w d τ).bind λz=>(qg c' y z).bind λr'=>.ok (.bl r')else .ok (.bl false)
 | .cmp3 c c' c'' a b d e,τ=>(evE w a τ).bind λx=>(evE w b τ).bind λy=>(qg c x y).bind λr=>if r then (evE w d τ).bind λz=>(qg c' y z).bind λr'=>if r' then (evE w e τ).bind λu=>(qg c'' z u).bind λr''=>.ok (.bl r'')else .ok (.bl false)else .ok (.bl false)
 | .ite t a b,τ=>(evT w t τ).bind λr=>if r then evE w a τ else evE w b τ
 | .tup es,τ=>(zw w es τ).bind λds=>.ok (.tup ds)
 | .lst es,τ=>(zw w es τ).bind λds=>.ok (.lst ds)
 | .ix a b,τ=>(evE w a τ).bind λx=>(evE w b τ).bind λy=>ixD x y
 | .sl a lo hi,τ=>(evE w a τ).bind λx=>(evO w lo τ).bind λl=>(evO w hi τ).bind λh=>slD x l h
 | .call f es,τ=>(zw w es τ).bind λds=>w.call f ds
 | .callE f es,_=>.no
 | .bi b es,τ=>(zw w es τ).bind λds=>b1 b ds
 | .rtup a,_=>.no
 | .rlst a,_=>.no
 | .isi a c,τ=>(evE w a τ).bind λx=>zU w x c
 | .comp it cap tg t elt,τ=>(evI w it τ).bind λds=>if SZ<ds.length then .no else (zZ (λx σ=>noEx ((store tg x σ).bind λσ'=>(evT w t σ').bind λr=>if r then (evE w elt σ').bind λd=>.ok (σ',[d])else .ok (σ',[]))) ds (ef cap τ) []).bind λout=>.ok (.lst out)
 | .mth ix a,τ=>(evE w a τ).bind λx=>jz ix x
 | .cnt a b,_=>.no
 | .mxk mx a,_=>.no
 | .dic,_=>.ok .dic
 | .callo f es,_=>.no
 | .comp2 it cap tg it2 tg2 t elt,_=>.no
 | .fst2 t0 a t1 b t2,_=>.no
 | .sset ln a,τ=>(evE w a τ).bind (gK ln)
 | .rev a,τ=>(evE w a τ).bind λx=>match x with
  | .tup xs=>.ok (.tup xs.reverse)
  | .str z=>if (zH z).length<=SZ then .ok (.str (zH z))else .no
  |_=>.no
 | .stri a,τ=>(evE w a τ).bind fO
 | .joi sep a,τ=>(evE w a τ).bind (fb sep)
 | .fsm a t b,τ=>(evE w a τ).bind λx=>iR x λi=>if zt i&&decide (((Str.empty++zK i)++t).length<=SZ)then (evE w b τ).bind λy=>iR y λj=>if zt j&&decide ((cm i t j).length<=SZ)then .ok (.str (cm i t j))else .no else .no
 | .stp a b,τ=>(evE w a τ).bind λx=>sR x λi=>(evE w b τ).bind λy=>jZ i y
 | .rvt a,τ=>(evE w a τ).bind iM
 | .spl a b,τ=>(evE w a τ).bind λx=>sR x λi=>(evE w b τ).bind λy=>iZ i y
 | .sadd a b,τ=>(evE w a τ).bind λx=>(evE w b τ).bind λy=>eh x y
noncomputable def evO(w:W):OE->Env->R (Option Int)
 | .none,_=>.ok none
 | .some e,τ=>(evE w e τ).bind λx=>match x with | .int i=>.ok (some i)|_=>.no
noncomputable def zw(w:W):Es->Env->R (List D)
 | .nil,_=>.ok []
 | .cons e es,τ=>(evE w e τ).bind λd=>(zw w es τ).bind λds=>.ok (d::ds)
noncomputable def evI(w:W):It->Env->R (List D)
 | .seq e,τ=>(evE w e τ).bind λx=>match itr? x with|some xs=>.ok xs|none=>.no
 | .rng a,τ=>(evE w a τ).bind λx=>match x with | .int j=>if zt j then .ok (zT 0 j.toNat)else .no|_=>.no
 | .rng2 a b,τ=>(evE w a τ).bind λx=>(evE w b τ).bind λy=>match x,y with | .int i,.int j=>if zt i&&zt j then .ok (zT i (j-i).toNat)else .no|_,_=>.no
 | .enum e,τ=>(evE w e τ).bind λx=>match x with | .lst xs=>.ok (eD 0 xs)|_=>.no
 | .zip a b,τ=>(evE w a τ).bind λx=>(evE w b τ).bind λy=>match x,y with
  | .tup xs,.tup ys=>if xs.length=ys.length then .ok (cB xs ys)else .no
  | .lst xs,.lst ys=>if xs.length=ys.length then .ok (cB xs ys)else .no
  |_,_=>.no
 | .rng3 a b k,_=>.no
noncomputable def evT(w:W):T->Env->R Bool
 | .yes,_=>.ok true
 | .val e,τ=>(evE w e τ).bind λx=>truth x
 | .cmp c a b,τ=>(evE w a τ).bind λx=>(evE w b τ).bind λy=>qg c x y
 | .cmp2 c c' a b d,τ=>(evE w a τ).bind λx=>(evE w b τ).bind λy=>(qg c x y).bind λr=>if r then (evE w d τ).bind λz=>qg c' y z else .ok false
 | .and a b,τ=>(evT w a τ).bind λr=>if r then evT w b τ else .ok false
 | .or a b,τ=>(evT w a τ).bind λr=>if r then .ok true else evT w b τ
 | .not a,τ=>(evT w a τ).bind λr=>.ok (!r)
end
theorem za:∀{w i τ},@Eq (R D) (evE w (.var i) τ) (bX τ i):=rfl
theorem ze:∀{w i τ},@Eq (R D) (evE w (.own i) τ) (bX τ i):=rfl
theorem qY:∀{w d τ},@Eq (R D) (evE w (.con d) τ) (.ok d):=rfl
theorem zj:∀{w x τ},@Eq (R D) (evE w (.glb x) τ) (match w.glb x with|some d=>.ok d|none=>.no):=rfl
theorem zf:∀{w x τ},@Eq (R D) (evE w (.fnv x) τ) (.no):=rfl
theorem zb:∀{w o a b τ},@Eq (R D) (evE w (.op o a b) τ) ((evE w a τ).bind λx=>(evE w b τ).bind λy=>op2 o x y):=rfl
theorem zm:∀{w a τ},@Eq (R D) (evE w (.neg a) τ) ((evE w a τ).bind λx=>match x with | .int i=>.ok (.int (-i))|_=>.no):=rfl
theorem zk:∀{w a τ},@Eq (R D) (evE w (.inv a) τ) (.no):=rfl
theorem zg:∀{w a τ},@Eq (R D) (evE w (.not a) τ) ((evE w a τ).bind λx=>match x with | .bl b=>.ok (.bl (!b))|_=>.no):=rfl
theorem qE:∀{w a b τ},@Eq (R D) (evE w (.and a b) τ) ((evE w a τ).bind λx=>match x with | .bl true=>evE w b τ | .bl false=>.ok (.bl false)|_=>.no):=rfl
theorem qC:∀{w a b τ},@Eq (R D) (evE w (.or a b) τ) ((evE w a τ).bind λx=>match x with | .bl true=>.ok (.bl true) | .bl false=>evE w b τ|_=>.no):=rfl
theorem qy:∀{w c a b τ},@Eq (R D) (evE w (.cmp c a b) τ) ((evE w a τ).bind λx=>(evE w b τ).bind λy=>(qg c x y).bind λr=>.ok (.bl r)):=rfl
theorem qI:∀{w c c' a b d τ},@Eq (R D) (evE w (.cmp2 c c' a b d) τ) ((evE w a τ).bind λx=>(evE w b τ).bind λy=>(qg c x y).bind λr=>if r then (evE w d τ).bind λz=>(qg c' y z).bind λr'=>.ok (.bl r')else .ok (.bl false)):=rfl
theorem qG:∀{w c c' c'' a b d e τ},@Eq (R D) (evE w (.cmp3 c c' c'' a b d e) τ) ((evE w a τ).bind λx=>(evE w b τ).bind λy=>(qg c x y).bind λr=>if r then (evE w d τ).bind λz=>(qg c' y z).bind λr'=>if r' then (evE w e τ).bind λu=>(qg c'' z u).bind λr''=>.ok (.bl r'')else .ok (.bl false)else .ok (.bl false)):=rfl
theorem qz:∀{w t a b τ},@Eq (R D) (evE w (.ite t a b) τ) ((evT w t τ).bind λr=>if r then evE w a τ else evE w b τ):=rfl
theorem qt:∀{w es τ},@Eq (R D) (evE w (.tup es) τ) ((zw w es τ).bind λds=>.ok (.tup ds)):=rfl
theorem qD:∀{w es τ},@Eq (R D) (evE w (.lst es) τ) ((zw w es τ).bind λds=>.ok (.lst ds)):=rfl
theorem qk:∀{w a b τ},@Eq (R D) (evE w (.ix a b) τ) ((evE w a τ).bind λx=>(evE w b τ).bind λy=>ixD x y):=rfl
theorem qx:∀{w a lo hi τ},@Eq (R D) (evE w (.sl a lo hi) τ) ((evE w a τ).bind λx=>(evO w lo τ).bind λl=>(evO w hi τ).bind λh=>slD x l h):=rfl
theorem qp:∀{w f es τ},@Eq (R D) (evE w (.call f es) τ) ((zw w es τ).bind λds=>w.call f ds):=rfl
theorem qX:∀{w f es τ},@Eq (R D) (evE w (.callE f es) τ) (.no):=rfl
theorem qi:∀{w b es τ},@Eq (R D) (evE w (.bi b es) τ) ((zw w es τ).bind λds=>b1 b ds):=rfl
theorem qK:∀{w a τ},@Eq (R D) (evE w (.rtup a) τ) (.no):=rfl
theorem qU:∀{w a τ},@Eq (R D) (evE w (.rlst a) τ) (.no):=rfl
theorem qH:∀{w a c τ},@Eq (R D) (evE w (.isi a c) τ) ((evE w a τ).bind λx=>zU w x c):=rfl
theorem qw:∀{w it cap tg t elt τ},@Eq (R D) (evE w (.comp it cap tg t elt) τ) ((evI w it τ).bind λds=>if SZ<ds.length then .no else (zZ (λx σ=>noEx ((store tg x σ).bind λσ'=>(evT w t σ').bind λr=>if r then (evE w elt σ').bind λd=>.ok (σ',[d])else .ok (σ',[]))) ds (ef cap τ) []).bind λout=>.ok (.lst out)):=rfl
theorem qQ:∀{w ix a τ},@Eq (R D) (evE w (.mth ix a) τ) ((evE w a τ).bind λx=>jz ix x):=rfl
theorem qW:∀{w a b τ},@Eq (R D) (evE w (.cnt a b) τ) (.no):=rfl
theorem qO:∀{w mx a τ},@Eq (R D) (evE w (.mxk mx a) τ) (.no):=rfl
theorem qS:∀{w τ},@Eq (R D) (evE w (.dic) τ) (.ok .dic):=rfl
theorem qV:∀{w f es τ},@Eq (R D) (evE w (.callo f es) τ) (.no):=rfl
theorem qR:∀{w it cap tg it2 tg2 t elt τ},@Eq (R D) (evE w (.comp2 it cap tg it2 tg2 t elt) τ) (.no):=rfl
theorem qP:∀{w t0 a t1 b t2 τ},@Eq (R D) (evE w (.fst2 t0 a t1 b t2) τ) (.no):=rfl
theorem qN:∀{w ln a τ},@Eq (R D) (evE w (.sset ln a) τ) ((evE w a τ).bind (gK ln)):=rfl
theorem qF:∀{w a τ},@Eq (R D) (evE w (.rev a) τ) ((evE w a τ).bind λx=>match x with
  | .tup xs=>.ok (.tup xs.reverse)
  | .str z=>if (zH z).length<=SZ then .ok (.str (zH z))else .no
  |_=>.no):=rfl
theorem qA:∀{w a τ},@Eq (R D) (evE w (.stri a) τ) ((evE w a τ).bind fO):=rfl
theorem qr:∀{w sep a τ},@Eq (R D) (evE w (.joi sep a) τ) ((evE w a τ).bind (fb sep)):=rfl
theorem qT:∀{w a t b τ},@Eq (R D) (evE w (.fsm a t b) τ) ((evE w a τ).bind λx=>iR x λi=>if zt i&&decide (((Str.empty++zK i)++t).length<=SZ)then (evE w b τ).bind λy=>iR y λj=>if zt j&&decide ((cm i t j).length<=SZ)then .ok (.str (cm i t j))else .no else .no):=rfl
theorem qM:∀{w a b τ},@Eq (R D) (evE w (.stp a b) τ) ((evE w a τ).bind λx=>sR x λi=>(evE w b τ).bind λy=>jZ i y):=rfl
theorem qJ:∀{w a τ},@Eq (R D) (evE w (.rvt a) τ) ((evE w a τ).bind iM):=rfl
theorem qL:∀{w a b τ},@Eq (R D) (evE w (.spl a b) τ) ((evE w a τ).bind λx=>sR x λi=>(evE w b τ).bind λy=>iZ i y):=rfl
theorem qB:∀{w a b τ},@Eq (R D) (evE w (.sadd a b) τ) ((evE w a τ).bind λx=>(evE w b τ).bind λy=>eh x y):=rfl
theorem fM:∀{w τ},@Eq (R Bool) (evT w (.yes) τ) (.ok true):=rfl
theorem fj:∀{w e τ},@Eq (R Bool) (evT w (.val e) τ) ((evE w e τ).bind λx=>truth x):=rfl
theorem dj:∀{w c a b τ},@Eq (R Bool) (evT w (.cmp c a b) τ) ((evE w a τ).bind λx=>(evE w b τ).bind λy=>qg c x y):=rfl
theorem fh:∀{w c c' a b d τ},@Eq (R Bool) (evT w (.cmp2 c c' a b d) τ) ((evE w a τ).bind λx=>(evE w b τ).bind λy=>(qg c x y).bind λr=>if r then (evE w d τ).bind λz=>qg c' y z else .ok false):=rfl
theorem fg:∀{w a b τ},@Eq (R Bool) (evT w (.and a b) τ) ((evT w a τ).bind λr=>if r then evT w b τ else .ok false):=rfl
theorem zX:∀{w a b τ},@Eq (R Bool) (evT w (.or a b) τ) ((evT w a τ).bind λr=>if r then .ok true else evT w b τ):=rfl
theorem d_:∀{w a τ},@Eq (R Bool) (evT w (.not a) τ) ((evT w a τ).bind λr=>.ok (!r)):=rfl
mutual
inductive S where
 |set (tg:Tg) (e:E)
 |app (i:Nat) (e:E)
 |seti (i:Nat) (k e:E)
 |exp (e:E)
 |ret (e:E)|retN
 |ite (t:T) (a b:Ss)
 |for (tg:Tg) (it:It) (b:Ss)
 |while (t:T) (b:Ss)
 |raise (c:Str) (es:Es)
 |try (b:Ss) (c:Str) (i:Option Nat) (h:Ss)
 |ins (i:Nat) (k e:E)
 |pass|brk|cnt|unk
 |par (i j:Nat) (a b:E)
 |par3 (i j k:Nat) (a b c:E)
inductive Ss where
 |nil|cons (s:S) (r:Ss)
end
inductive O where
 |nx (τ:Env)|rt (d:D)|bk (τ:Env)|ct (τ:Env)|ex (c:Str)|no
noncomputable def R.out{α:Type}:R α->(α->O)->O
 | .ok a,f=>f a
 | .ex c,_=>.ex c
 | .no,_=>.no
@[simp] theorem R.out_ok{α:Type}(a:α)(f:α->O):(R.ok a).out f=f a:=rfl
@[simp] theorem R.out_ex{α:Type}(c:Str)(f:α->O):(R.ex c:R α).out f=.ex c:=rfl
@[simp] theorem R.out_no{α:Type}(f:α->O):(R.no:R α).out f=.no:=rfl
noncomputable def cV(tg:Tg)(body:Env->O):List D->Env->O
 | [],τ=>.nx τ
 |x::r,τ=>(store tg x τ).out λτ'=>match body τ' with
  | .nx σ=>cV tg body r σ
  | .ct σ=>cV tg body r σ
  | .bk σ=>.nx σ
  |o=>o
noncomputable def O.noEx:O->O
 | .ex _=>.no
 |o=>o
noncomputable def O.rtOnly:O->O
 | .rt d=>.rt d
 |_=>.no
noncomputable def cL(τ:Env)(i:Option Nat)(k:Str):Env:=match i with
 |none=>τ.map λ_=>none
 |some i=>(τ.map λ_=>none).set i (some (.exn k))
mutual
noncomputable def evS(w:W):S->Env->O
 | .set tg e,τ=>(evE w e τ).out λd=>(store tg d τ).out .nx
 | .app i e,τ=>(bX τ i).out λx=>(evE w e τ).out λd=>match x with
  | .lst xs=>if xs.length<SZ then .nx (τ.set i (some (.lst (xs++[d]))))else .no
  |_=>.no
 | .seti i k e,τ=>(evE w e τ).out λd=>(bX τ i).out λx=>(evE w k τ).out λn=>match x,n with
  | .lst xs,.int j=>match ixN xs.length j with
   |some m=>.nx (τ.set i (some (.lst (xs.set m d))))
   |none=>.no
  |_,_=>.no
 | .exp e,τ=>(evE w e τ).out λ_=>.nx τ
 | .ret e,τ=>(evE w e τ).out .rt
 | .retN,_=>.rt .non
 | .ite t a b,τ=>(evT w t τ).out λr=>if r then qf w a τ else qf w b τ
 | .for tg it b,τ=>((evI w it τ).out λds=>cV tg (λσ=>qf w b σ) ds τ).noEx
 | .while t b,_=>.no
 | .raise c es,τ=>(zw w es τ).out λ_=>.ex c
 | .try b c i h,τ=>match qf w b τ with
  | .ex k=>if w.cat k c=true then (qf w h (cL τ i k)).rtOnly else .no
  |o=>o
 | .ins i k e,_=>.no
 | .unk,_=>.no
 | .pass,τ=>.nx τ
 | .brk,τ=>.bk τ
 | .cnt,τ=>.ct τ
 | .par i j a b,_=>.no
 | .par3 i j k a b c,_=>.no
noncomputable def qf(w:W):Ss->Env->O
 | .nil,τ=>.nx τ
 | .cons s r,τ=>match evS w s τ with
  | .nx σ=>qf w r σ
  |o=>o
end
theorem zN:∀{w tg e τ},@Eq (O) (evS w (.set tg e) τ) ((evE w e τ).out λd=>(store tg d τ).out .nx):=rfl
theorem cD:∀{w i e τ},@Eq (O) (evS w (.app i e) τ) ((bX τ i).out λx=>(evE w e τ).out λd=>match x with
  | .lst xs=>if xs.length<SZ then .nx (τ.set i (some (.lst (xs++[d]))))else .no
  |_=>.no):=rfl
theorem dq:∀{w i k e τ},@Eq (O) (evS w (.seti i k e) τ) ((evE w e τ).out λd=>(bX τ i).out λx=>(evE w k τ).out λn=>match x,n with
  | .lst xs,.int j=>match ixN xs.length j with
   |some m=>.nx (τ.set i (some (.lst (xs.set m d))))
   |none=>.no
  |_,_=>.no):=rfl
theorem cQ:∀{w e τ},@Eq (O) (evS w (.exp e) τ) ((evE w e τ).out λ_=>.nx τ):=rfl
theorem zJ:∀{w e τ},@Eq (O) (evS w (.ret e) τ) ((evE w e τ).out .rt):=rfl
theorem cJ:∀{w τ},@Eq (O) (evS w (.retN) τ) (.rt .non):=rfl
theorem cC:∀{w t a b τ},@Eq (O) (evS w (.ite t a b) τ) ((evT w t τ).out λr=>if r then qf w a τ else qf w b τ):=rfl
theorem cA:∀{w tg it b τ},@Eq (O) (evS w (.for tg it b) τ) (((evI w it τ).out λds=>cV tg (λσ=>qf w b σ) ds τ).noEx):=rfl
theorem de:∀{w t b τ},@Eq (O) (evS w (.while t b) τ) (.no):=rfl
theorem cK:∀{w c es τ},@Eq (O) (evS w (.raise c es) τ) ((zw w es τ).out λ_=>.ex c):=rfl
theorem zV:∀{w b c i h τ},@Eq (O) (evS w (.try b c i h) τ) (match qf w b τ with
  | .ex k=>if w.cat k c=true then (qf w h (cL τ i k)).rtOnly else .no
  |o=>o):=rfl
theorem dr:∀{w i k e τ},@Eq (O) (evS w (.ins i k e) τ) (.no):=rfl
theorem dh:∀{w τ},@Eq (O) (evS w (.unk) τ) (.no):=rfl
theorem cX:∀{w τ},@Eq (O) (evS w (.pass) τ) (.nx τ):=rfl
theorem dk:∀{w τ},@Eq (O) (evS w (.brk) τ) (.bk τ):=rfl
theorem dv:∀{w τ},@Eq (O) (evS w (.cnt) τ) (.ct τ):=rfl
theorem cY:∀{w i j a b τ},@Eq (O) (evS w (.par i j a b) τ) (.no):=rfl
theorem du:∀{w i j k a b c τ},@Eq (O) (evS w (.par3 i j k a b c) τ) (.no):=rfl
structure Fn where
 ps:Nat
 N:Nat
 fr:Bool
 body:Ss
noncomputable def cz(w:W)(f:Fn)(ds:List D):R D:=if ds.length=f.ps then (match qf w f.body (ds.map some++bW (f.N-f.ps) none)with
  | .nx _=>if f.fr then .no else .ok .non
  | .rt d=>.ok d
  | .ex c=>.ex c
  |_=>.no)else .no
structure Pr where
 fns:Str->Option Fn
 glb:Str->Option D
 sub:Str->Cl->Option Bool
 cat:Str->Str->Bool
noncomputable def qa(p:Pr):Nat->Str->List D->R D
 | 0,_,_=>.no
 |k+1,x,ds=>match p.fns x with
  |some f=>cz ⟨qa p k,p.glb,p.sub,p.cat⟩ f ds
  |none=>.no
inductive GK where
  |fn (fresh:Bool)|val|bi (b:B1)|rng|enum|zip|isi|ty (n:String) (b:Option B1)|exc|exk|set
  deriving DecidableEq
structure Cc where
  nm:List (Str×aU)
  N:List Str
  own:List Str
  G:List (Str×GK)
  calm:Bool
  fnc:Bool
  thr:Bool
  GH:List (Str×GK)
  oc:List Str
  frz:Bool
noncomputable def loc(c:Cc)(x:Str):Option Nat:=
  if x == "__debug__" ||x == "__classdict__" then none else
  match c.nm.lookup x with
  |some .local|some .cell|some .free=>let i:=c.N.findIdx (· == x);if c.N[i]? = some x then some i else none
  |_=>none
noncomputable def dM(c:Cc)(x:Str):Option Nat:=
  match c.nm.lookup x with
  |some .local=>loc c x
  |some .cell=>if c.fnc||c.oc.contains x then loc c x else none
  |_=>none
noncomputable def glob(c:Cc)(x:Str):Option GK:=
  if x == "__debug__" ||x == "__name__" then none else
  match c.nm.lookup x with
  |some .globalImplicit=>c.G.lookup x
  |_=>none
noncomputable def esc:E->Bool
  | .own _=>false
  |_=>true
noncomputable def eQ:Es->Bool
  | .nil=>true
  | .cons e es=>esc e&&eQ es
noncomputable def isL:E->Bool
  | .lst _=>true
  | .rlst _=>true
  | .comp .. => true
  |_=>false
noncomputable def yt:O2->Bool
  | .add=>true
  | .mul=>true
  |_=>false
noncomputable def fresh(c:Cc):E->Bool
  | .op o a b=>yt o&&isL a||o==.add&&isL b
  | .lst _=>true
  | .rlst _=>true
  | .comp .. => true
  | .comp2 .. => true
  | .bi .list _=>true
  | .bi .sorted _=>true
  | .call f _=>c.G.lookup f==some (.fn true)
  |_=>false
noncomputable def o2:Operator->Option O2
  | .Add=>some .add
  | .Sub=>some .sub
  | .Mult=>some .mul
  | .FloorDiv=>some .fdiv
  | .Mod=>some .mod
  | .Pow=>some .pow
  | .RShift=>some .shr
  |_=>none
noncomputable def c2:CmpOp->C2
  | .Eq=>.eq
  | .NotEq=>.ne
  | .Lt=>.lt
  | .LtE=>.le
  | .Gt=>.gt
  | .GtE=>.ge
  | .Is=>.is
  | .IsNot=>.isnot
  | .In=>.isin
  | .NotIn=>.notin
noncomputable def fC:Expr->Bool
  | .ListComp .. => true
  | .SetComp .. => true
  | .DictComp .. => true
  |_=>false
noncomputable def zz:Expr->Bool
  | .Set .. => false
  |_=>true
noncomputable def jy(names nm:List (Str×aU)):List (Str×aU):=names.map λ(n,k)=>if k==b6&&(nm.lookup n==some .cell)then (n,aU.cell)else (n,k)
noncomputable def cb(names:List (Str×aU)):List Str:=(names.filter λp=>p.2==.local||p.2==.free||p.2==.cell).map (·.1)
noncomputable def gD(c:Cc)(names:List (Str×aU)):List (Option Nat):=(cb names).map λx=>if names.lookup x==some .free then loc c x else none
noncomputable def h8:List Expr->Option (List Str)
  | []=>some []
  | .Name x _::r=>(h8 r).map (x :: ·)
  |_=>none
noncomputable def cTg(c:Cc):Expr->Option Tg
  | .Name x _=>if c.own.contains x then none else (dM c x).map .nm
  | .Tuple es _ _=>if c.calm then do
      let xs <-h8 es
      if xs.any c.own.contains then none else
      let is <-xs.mapM (dM c)
      if is.Nodup then some (.tp is)else none
    else none
  |_=>none
noncomputable def isStar:Expr->Bool
  | .Starred .. => true
  |_=>false
noncomputable def isSlice:Expr->Bool
  | .Slice .. => true
  |_=>false
noncomputable def isTup:Expr->Bool
  | .Tuple .. => true
  |_=>false
noncomputable def h9(it:It)(tg:Expr):Bool:=match it with
  | .enum _=>isTup tg
  | .zip .. => isTup tg
  |_=>true
noncomputable def km(c:Cc):Expr->Option Cl
  | .Name x _=>match glob c x with
    |some (.ty n _)=>some (.ty n)
    |some .exc=>some (.ex x)
    |some .exk=>some (.ex x)
    |_=>none
  |_=>none
noncomputable def vr(c:Cc)(x:Str)(i:Nat):E:=if c.own.contains x then .own i else .var i
noncomputable def cMt(c:Cc)(o:Expr)(m:Str)(ap:Pos)(as:List Expr)(cp:Pos):Option E:=match o with
  | .Name x _=>match as with
    | [a]=>match a with
      | .Constant k _ _=>match k with
        | .bool b=>match loc c x with
          |some i=>if b&&ap.endLine==cp.line then (if m = "count" then some (.mth false (vr c x i))else if m = "index" then some (.mth true (vr c x i))else none)else none
          |none=>none
        |_=>none
      |_=>none
    |_=>none
  |_=>none
noncomputable def baseOk:Expr->Bool
  | .Call (.Name _ _) (_::_) _ _=>true
  | .Name .. => true
  |_=>false
noncomputable def owned:It->Bool
  | .seq (.own _)=>true
  | .enum (.own _)=>true
  | .zip (.own _) _=>true
  | .zip _ (.own _)=>true
  |_=>false
noncomputable def fc:Expr->Option Str
  | .Constant k _ _=>match k with
    | .str t=>some t
    |_=>none
  |_=>none
noncomputable def eS:Expr->Option Expr
  | .FormattedValue a k f _=>match f with
    |none=>if k = -1 then some a else none
    |_=>none
  |_=>none
noncomputable def kY:List Expr->Option (Str×Expr×Str×Expr×Str)
  | [x0,x1,x2,x3,x4]=>do
    let t0 <-fc x0
    let a <-eS x1
    let t1 <-fc x2
    let b <-eS x3
    let t2 <-fc x4
    if (Str.empty++t0).length<=1000 then some (t0,a,t1,b,t2)else none
  |_=>none
noncomputable def o_(vs:List Expr):Option (Expr×Str×Expr):=match vs with
  |x0::r=>match r with
    |x1::r=>match r with
      |x2::r=>if r.isEmpty then (match eS x0 with
        |some a=>match fc x1 with
          |some t=>match eS x2 with
            |some b=>some (a,t,b)
            |none=>none
          |none=>none
        |none=>none)else none
      | []=>none
    | []=>none
  | []=>none
noncomputable def vG(e:Expr):Bool:=match e with
  | .Call f _ _ _=>(match f with
    | .Name x _=>x == "str"
    |_=>false)
  |e=>(fc e).isSome
noncomputable def oX(o:O2)(b:Expr):Bool:=o==.add&&vG b
noncomputable def fz:Expr->Bool
  | .UnaryOp .USub (.Constant (.int i) _ _) _=>decide (i=1)
  |_=>false
noncomputable def ig:Expr->Bool
  | .Constant (.int i) _ _=>decide (i=0)
  |_=>false
noncomputable def cUp(lo hi:Option Expr)(s:Expr):Bool:=lo.isNone&&(match hi with|some h=>ig h|none=>false)&&fz s
noncomputable def lx(c:Cc)(b:B1):List Expr->Option Expr
  | [.Call (.Name g _) [a] [] _]=>if (b==.sorted)&&loc c g==none&&glob c g==some .set && !isStar a&&c.calm then some a else none
  |_=>none
noncomputable def lB:Expr->Bool
  | .ListComp _ gs _ _=>gs.length==2
  |_=>false
mutual
noncomputable def cE:Nat->Cc->Expr->Option E
  | 0,_,_=>none
  |n+1,c,e=>match e with
    | .Name x _=>match loc c x with
      |some i=>if c.own.contains x then some (.own i)else some (.var i)
      |none=>match glob c x with
        |some .val=>some (.glb x)
        |some (.fn _)=>some (.fnv x)
        |_=>none
    | .Constant k _ _=>match k with
      | .int i=>some (.con (.int i))
      | .bool i=>some (.con (.bl i))
      | .none=>some (.con .non)
      | .str x=>some (.con (.str x))
      |_=>none
    | .BinOp a op b _=>do
      let o <-o2 op
      let a <-cE n c a
      let b' <-cE n c b
      some (if oX o b then .sadd a b' else .op o a b')
    | .UnaryOp op a _=>do
      let a <-cE n c a
      match op with
      | .USub=>some (.neg a)
      | .Invert=>some (.inv a)
      | .Not=>some (.not a)
      |_=>none
    | .BoolOp op vs _=>cBo n c op vs
    | .Compare a ops bs _=>match ops,bs with
      | [o],[b]=>do
        let a <-cE n c a
        let b' <-cE n c b
        if zz b then some (.cmp (c2 o) a b')else none
      | [o,o'],[b,d]=>do
        let a <-cE n c a
        let b' <-cE n c b
        let d' <-cE n c d
        if zz b&&zz d then some (.cmp2 (c2 o) (c2 o') a b' d')else none
      | [o,o',o''],[b,d,f]=>do
        let a <-cE n c a
        let b' <-cE n c b
        let d' <-cE n c d
        let f' <-cE n c f
        if zz b&&zz d&&zz f then some (.cmp3 (c2 o) (c2 o') (c2 o'') a b' d' f')else none
      |_,_=>none
    | .Dict ks vs _=>if ks.isEmpty&&vs.isEmpty then some .dic else none
    | .JoinedStr vs _=>match kY vs with
      |some (t0,a,t1,b,t2)=>do
        let a <-cE n c a
        let b <-cE n c b
        some (.fst2 t0 a t1 b t2)
      |none=>match o_ vs with
        |some (a,t,b)=>do
          let a <-cE n c a
          let b <-cE n c b
          some (.fsm a t b)
        |none=>none
    | .IfExp t a b _=>do
      let t <-cT n c t
      let a <-cE n c a
      let b <-cE n c b
      if esc a&&esc b then some (.ite t a b)else none
    | .Tuple es _ _=>do
      let es <-cEs n c es
      if eQ es then some (.tup es)else none
    | .List es _=>do
      let es <-cEs n c es
      if eQ es then some (.lst es)else none
    | .Subscript a b _=>match b with
      | .Slice lo hi st _=>match st with
        |some s=>if lo.isNone&&hi.isNone&&fz s then (cE n c a).map .rev else if cUp lo hi s then (cE n c a).map .rvt else none
        |none=>do
          let a <-cE n c a
          let lo <-cO n c lo
          let hi <-cO n c hi
          some (.sl a lo hi)
      |b=>do
        if isSlice b then none else
        let a <-cE n c a
        let b <-cE n c b
        some (.ix a b)
    | .ListComp elt gs sc _=>match gs with
     | [⟨tgt,it,ifs,asy⟩]=>do
      if !(asy==0) || !c.calm || !zz it then none else
      let c':Cc:={c with nm:=jy sc.names c.nm,N:=cb sc.names,fnc:=false,oc:=iV sc.names}
      let cap:=gD c sc.names
      if !jf (λx=>c.nm.lookup x) c.N (cb sc.names) cap sc || !decide (cb sc.names).Nodup then none else
      let it <-cI n c it
      let tg <-cTg c' tgt
      let t <-fF n c' ifs
      let elt <-cE n c' elt
      if esc elt&&h9 it tgt then some (.comp it cap tg t elt)else none
     |_=>none
    | .Call fe as ks cp=>match ks with
     | []=>match fe with
      | .Name f _=>match loc c f with
        |some _=>none
        |none=>match glob c f with
          |some (.fn _)=>do
            let es <-cEs n c as
            if eQ es && !as.isEmpty then some (.call f es)else if !as.isEmpty then some (.callo f es)else none
          |some (.bi b)=>match lx c b as with
            |some a=>(cE n c a).map (.sset (b==.len))
            |none=>do
              let es <-cEs n c as
              if !as.isEmpty&&(c.calm||b==.len||b==.abs)then some (.bi b es)else none
          |some (.ty t (some b))=>match as with
            | [.Call (.Name g p) as' [] q]=>if loc c g==none&&glob c g==some .rng then (if c.calm&&(t == "tuple" ||t == "list")then (match as' with
                | [a]=>if isStar a then none else do
                  let a <-cE n c a
                  some (if t = "tuple" then .rtup (.rng a)else .rlst (.rng a))
                | [a,d]=>if isStar a||isStar d then none else do
                  let a <-cE n c a
                  let d <-cE n c d
                  some (if t = "tuple" then .rtup (.rng2 a d)else .rlst (.rng2 a d))
                | [a,d,k]=>if isStar a||isStar d||isStar k then none else do
                  let a <-cE n c a
                  let d <-cE n c d
                  let k <-cE n c k
                  if t == "tuple" then some (.rtup (.rng3 a d k))else none
                |_=>none)
                else none)
              else do
                let es <-cEs n c as
                some (.bi b es)
            |_=>do
              let es <-cEs n c as
              if !as.isEmpty then some (.bi b es)else none
          |some .isi=>match as with
            | [a,k]=>do
              if isStar a then none else
              let a <-cE n c a
              let k <-km c k
              some (.isi a k)
            |_=>none
          |some (.ty t none)=>match as with
            | [a]=>if t == "str" && !isStar a then (cE n c a).map .stri else none
            |_=>none
          |_=>none
      | .Attribute o m ap=>match cMt c o m ap as cp with
        |some e=>some e
        |none=>match as with
          | [a]=>match fc o with
           |some sep=>if m == "join" && !isStar a&&(ap.endLine==cp.line)then (cE n c a).map (.joi sep)else none
           |none=>if m == "strip" then (do
              if !baseOk o||isStar a || !(ap.endLine==cp.line)then none else
              let o' <-cE n c o
              let a' <-cE n c a
              some (.stp o' a'))else if m == "split" then (do
              if !baseOk o||isStar a || !(ap.endLine==cp.line)then none else
              let o' <-cE n c o
              let a' <-cE n c a
              some (.spl o' a'))else do
            if !baseOk o||isStar a || !(m == "count") || !(ap.endLine==cp.line)then none else
            let o' <-cE n c o
            let a' <-cE n c a
            if esc a' then some (.cnt o' a')else none
          |_=>none
      |_=>none
     |_=>none
    |_=>none
noncomputable def fF:Nat->Cc->List Expr->Option T
  | 0,_,_=>none
  |n+1,c,ifs=>match ifs with
    | []=>some .yes
    | [t]=>cT n c t
    |_=>none
noncomputable def cBo:Nat->Cc->BoolOp->List Expr->Option E
  | 0,_,_,_=>none
  |n+1,c,op,vs=>match vs with
    | []=>none
    | [a]=>do
      let a <-cE n c a
      if esc a then some a else none
    |a::b::r=>do
      let a <-cE n c a
      let r <-cBo n c op (b::r)
      match op with
      | .And=>some (.and a r)
      | .Or=>some (.or a r)
noncomputable def cO:Nat->Cc->Option Expr->Option OE
  | 0,_,_=>none
  |n+1,c,o=>match o with
    |none=>some .none
    |some e=>(cE n c e).map .some
noncomputable def cEs:Nat->Cc->List Expr->Option Es
  | 0,_,_=>none
  |n+1,c,es=>match es with
    | []=>some .nil
    |e::r=>do
      if isStar e then none else
      let e <-cE n c e
      let r <-cEs n c r
      some (.cons e r)
noncomputable def cI:Nat->Cc->Expr->Option It
  | 0,_,_=>none
  |n+1,c,e=>match e with
    | .Call (.Name f p) as [] q=>match loc c f with
      |some _=>(cE n c (.Call (.Name f p) as [] q)).map .seq
      |none=>match glob c f with
        |some .rng=>(match as with
          | [a]=>if isStar a then none else (cE n c a).map .rng
          | [a,b]=>if isStar a||isStar b then none else do
            let a <-cE n c a
            let b <-cE n c b
            some (.rng2 a b)
          |_=>none)
        |some .enum=>(match as with
          | [a]=>if isStar a then none else (cE n c a).map .enum
          |_=>none)
        |some .zip=>(match as with
          | [a,b]=>if isStar a||isStar b then none else do
            let a <-cE n c a
            let b <-cE n c b
            some (.zip a b)
          |_=>none)
        |_=>(cE n c (.Call (.Name f p) as [] q)).map .seq
    |e=>(cE n c e).map .seq
noncomputable def cT:Nat->Cc->Expr->Option T
  | 0,_,_=>none
  |n+1,c,e=>match e with
    | .UnaryOp .Not a _=>(cT n c a).map .not
    | .BoolOp op vs _=>cTs n c op vs
    | .IfExp .. => none
    | .Compare a ops bs _=>match ops,bs with
      | [o],[b]=>do
        let a <-cE n c a
        let b' <-cE n c b
        if zz b then some (.cmp (c2 o) a b')else none
      | [o,o'],[b,d]=>do
        let a <-cE n c a
        let b' <-cE n c b
        let d' <-cE n c d
        if zz b&&zz d then some (.cmp2 (c2 o) (c2 o') a b' d')else none
      | [o,o',o''],[b,d,f]=>do
        let a <-cE n c a
        let b' <-cE n c b
        let d' <-cE n c d
        let f' <-cE n c f
        if zz b&&zz d&&zz f then some (.val (.cmp3 (c2 o) (c2 o') (c2 o'') a b' d' f'))else none
      |_,_=>none
    |e=>(cE n c e).map .val
noncomputable def cTs:Nat->Cc->BoolOp->List Expr->Option T
  | 0,_,_,_=>none
  |n+1,c,op,vs=>match vs with
    | []=>none
    | [a]=>cT n c a
    |a::b::r=>do
      let a <-cT n c a
      let r <-cTs n c op (b::r)
      match op with
      | .And=>some (.and a r)
      | .Or=>some (.or a r)
end
noncomputable def gF(c:Cc):Cc:={c with calm:=false,thr:=false,G:=c.GH,GH:=[]}

noncomputable def lz:Expr->Option (Str×Str×Pos×Expr×Pos)
  | .Call f as ks cp=>match f with
    | .Attribute o m ap=>match o with
      | .Name x _=>match as with
        | [a]=>if ks.isEmpty then some (x,m,ap,a,cp)else none
        |_=>none
      |_=>none
    |_=>none
  |_=>none
noncomputable def pk(_:Expr):Option (Str×Pos×Expr×Expr×Pos):=none
noncomputable def raiseOf:Expr->Option (Str×Expr×List Expr)
  | .Call f as ks _=>match f with
    | .Name x _=>match as with
      |a::as=>if ks.isEmpty then some (x,a,as)else none
      |_=>none
    |_=>none
  |_=>none
noncomputable def lW:Expr->Bool
  | .Tuple es _ _=>es.all (foldedForSure 8)
  |_=>false
mutual
noncomputable def cS:Nat->Cc->Bool->Stmt->Option S
  | 0,_,_,_=>none
  |n+1,c,fr,s=>match s with
    | .Assign ts e _=>match ts with
      | [t]=>match t with
        | .Name x _=>do
          if lB e then none else
          let i <-dM c x
          let e' <-cE n c e
          if c.own.contains x then (if fresh c e' && !c.frz then some (.set (.nm i) e')else none)else if esc e' then some (.set (.nm i) e')else none
        | .Tuple ts k p=>do
              let tg <-cTg c (.Tuple ts k p)
              let e' <-cE n c e
              if (isTup e && !lW e)||fC e || !esc e' then none else some (.set tg e')
        | .Subscript a k _=>match a with
          | .Name x _=>do
            let i <-dM c x
            let e' <-cE n c e
            let k' <-cE n c k
            if c.own.contains x&&esc e' && !isSlice k && !fC e && !c.frz then some (.seti i k' e')else none
          |_=>none
        |_=>none
      |_=>none
    | .Expr e _=>match pk e with
      |some (x,ap,k,a,cp)=>do
        let i <-dM c x
        let k' <-cE n c k
        let a' <-cE n c a
        if c.own.contains x&&esc a' && !isStar k && !isStar a&&ap.endLine==cp.line && !c.frz then some (.ins i k' a')else none
      |none=>match lz e with
      |some (x,m,ap,a,cp)=>do
        let i <-dM c x
        let a' <-cE n c a
        if m == "append" && c.own.contains x&&esc a' && !isStar a&&ap.endLine==cp.line && !c.frz then some (.app i a')else none
      |none=>do
        if fC e then none else
        let e' <-cE n c e
        some (.exp e')
    | .Return o _=>match o with
      |some e=>do
        let e' <-cE n c e
        if fr then (match e with
          | .Name y _=>if c.own.contains y then (loc c y).map (λi=>.ret (.own i))else none
          |_=>if fresh c e' then some (.ret e')else none)
        else some (.ret e')
      |none=>if fr then none else some .retN
    | .If t a b _=>do
      let t <-cT n c t
      let a <-cSs n c fr a
      let b <-cSs n c fr b
      some (.ite t a b)
    | .For tg it b els _=>do
      if !els.isEmpty || !c.calm || !zz it then none else
      let tg' <-cTg c tg
      let it <-cI n c it
      if !h9 it tg then none else
      let b <-cSs n {c with frz:=c.frz||owned it} fr b
      some (.for tg' it b)
    | .While t b els _=>do
      if !els.isEmpty || !c.calm then none else
      let t <-cT n c t
      let b <-cSs n c fr b
      some (.while t b)
    | .Raise o o' _=>match o with
      |some r=>match raiseOf r with
        |some (x,a,as)=>do
          if !o'.isNone || !c.calm || !c.thr then none else
          match glob c x with
          |some .exc=>do
            let es <-cEs n c (a::as)
            some (.raise x es)
          |_=>none
        |none=>none
      |none=>none
    | .Try b hs els fin _=>match hs with
      | [.ExceptHandler ty y h _]=>match ty with
        |some (.Name x _)=>do
          if !els.isEmpty || !fin.isEmpty || !c.calm || !c.fnc||fr||h.isEmpty || !c.own.isEmpty||c.frz then none else
          let b <-cSs n {c with thr:=false} fr b
          let h <-cSs n (gF c) fr h
          if !(glob c x==some .exc||glob c x==some .exk)then none else
          match y with
          |none=>some (.try b x none h)
          |some y=>do
            let i <-dM c y
            if c.nm.lookup y==some .local then some (.try b x (some i) h)else none
        |_=>none
      |_=>none
    | .Pass _=>some .pass
    | .Break _=>some .brk
    | .Continue _=>some .cnt
    |_=>none
noncomputable def cSs:Nat->Cc->Bool->List Stmt->Option Ss
  | 0,_,_,_=>none
  |n+1,c,fr,ss=>match ss with
    | []=>some .nil
    |s::r=>do
      let r <-cSs n c fr r
      some (.cons ((cS n c fr s).getD .unk) r)
end
noncomputable def noOwn(c:Cc):Cc:={c with own:=[],frz:=false}
noncomputable def gY(n:Nat)(c:Cc)(fr:Bool)(b:List Stmt):Option Ss:=cSs n c fr b
noncomputable def argNames(a:Arguments):List Str:=a.args.map (·.arg)
noncomputable def eO(a:Arguments)(sc:aY):List Str:=argNames a++((sc.names.filter λp=>p.2==.local||p.2==.cell).map (·.1)).filter λx=>!(argNames a).contains x
noncomputable def gU(N ps:List Str)(sc:aY):Bool:=
  sc.kind==.function && !sc.isCoroutine && !sc.isGenerator&&decide N.Nodup&&decide (N.take ps.length=ps)&&ps.all (λx=>sc.names.lookup x==some .local||sc.names.lookup x==some .cell)&&sc.names.all λy=>y.2 != .free
noncomputable def iE:Nat:=60
noncomputable def cFn(G GH:List (Str×GK))(own:List Str)(fr:Bool)(st:Stmt):Option Fn:=do
  let a:=zd st
  let sc:=zc st
  let N:=eO a sc
  if !gU N (argNames a) sc||(argNames a).any own.contains then none else
  let b <-gY iE ⟨sc.names,N,own,G,true,true,true,GH,[],false⟩ fr (dR st)
  some ⟨(argNames a).length,N.length,fr,b⟩
noncomputable def hZ(GU:List (Str×GK))(own:List Str)(fr:Bool)(st:Stmt):Option Fn:=do
  let a:=zd st
  let sc:=zc st
  let N:=eO a sc
  if !gU N (argNames a) sc||(argNames a).any own.contains then none else
  let b <-gY iE ⟨sc.names,N,own,GU,false,true,false,[],[],false⟩ fr (dR st)
  some ⟨(argNames a).length,N.length,fr,b⟩
end EV

namespace EV
open PySem PySem.Spec PyProof.Rows L2
structure Gc where
 K:ax
 fnA:Str->Option Addr
 clA:Str->Option Addr
mutual
inductive Rep(g:Gc)(H:Hp):D->V->Prop
 |non:Rep g H .non .non
 |bl (b:Bool):Rep g H (.bl b) (.bl b)
 |int (i:Int):Rep g H (.int i) (.int i)
 |str (x:Str):Rep g H (.str x) (.str x)
 |tup {a:Addr}{xs:List V}{ds:List D}:SqT g.K H a xs->qZ g H ds xs->Rep g H (.tup ds) (.ref a)
 |lst {a:Addr}{xs:List V}{ds:List D}:SqL g.K H a xs->qZ g H ds xs->Rep g H (.lst ds) (.ref a)
 |fn {x:Str}{a:Addr}:g.fnA x=some a->Rep g H (.fn x) (.ref a)
 |exn {c:Str}{a C:Addr}:g.clA c=some C->H a=some (gM a (.ref C))->Rep g H (.exn c) (.ref a)
 |dic {a:Addr}:H a=some (.dK [])->Rep g H .dic (.ref a)
inductive qZ(g:Gc)(H:Hp):List D->List V->Prop
 |nil:qZ g H [] []
 |cons {d:D}{ds:List D}{x:V}{xs:List V}:Rep g H d x->qZ g H ds xs->qZ g H (d::ds) (x::xs)
end
theorem zB{K:ax}{H H':Hp}{a:Addr}{xs:List V}(e:qh H H')(h:SqT K H a xs):SqT K H' a xs:=by
 rcases h with (h|⟨o,h⟩)|h
 ·exact .inl (.inl (e _ _ h))
 ·exact .inl (.inr ⟨o,e _ _ h⟩)
 ·exact .inr h
section
variable{g:Gc}{H H':Hp}
theorem tj{a b:Bool}(h:(a&&b)=true):a=true/\b=true:=by rw[aJ]at h;exact h
theorem Rep.mono(e:qh H H'){d:D}{v:V}(h:Rep g H d v):Rep g H' d v:=
 h.rec (motive_1:=λd v _=>Rep g H' d v) (motive_2:=λd v _=>qZ g H' d v) .non .bl .int .str (λq _ r=>.tup (zB e q) r) (λq _ r=>.lst (e.seq q) r) .fn (λq r=>.exn q (e _ _ r)) (λq=>.dic (e _ _ q)) .nil (λ_ _ a b=>.cons a b)
theorem qZ.mono(e:qh H H'){d:List D}{v:List V}(h:qZ g H d v):qZ g H' d v:=
 h.rec (motive_1:=λd v _=>Rep g H' d v) (motive_2:=λd v _=>qZ g H' d v) .non .bl .int .str (λq _ r=>.tup (zB e q) r) (λq _ r=>.lst (e.seq q) r) .fn (λq r=>.exn q (e _ _ r)) (λq=>.dic (e _ _ q)) .nil (λ_ _ a b=>.cons a b)
theorem qZ.length{ds:List D}:∀{vs:List V},qZ g H ds vs->ds.length=vs.length:=by
 induction ds with
 |nil=>intro vs h;cases h;rfl
 |cons d ds ih=>intro vs h;cases h with|cons _ r=>exact congrArg (· + 1) (ih r)
theorem qZ.get{ds:List D}:∀{vs:List V}{i:Nat}{d:D},qZ g H ds vs->ds[i]? = some d->∃v,vs[i]? = some v/\Rep g H d v:=by
 induction ds with
 |nil=>intro vs i d h e;cases e
 |cons d ds ih=>
  intro vs i d' h e;cases h with
  |cons h t=>cases i with
   |zero=>cases e;exact⟨_,rfl,h⟩
   |succ i=>exact ih (i:=i) t e
theorem qZ.append{ds:List D}:∀{es:List D}{vs us:List V},qZ g H ds vs->qZ g H es us->qZ g H (ds++es) (vs++us):=by
 induction ds with
 |nil=>intro es vs us h s;cases h;exact s
 |cons d ds ih=>intro es vs us h s;cases h with|cons r t=>exact .cons r (ih t s)
theorem qZ.take{ds:List D}:∀{vs:List V} (n:Nat),qZ g H ds vs->qZ g H (ds.take n) (vs.take n):=by
 induction ds with
 |nil=>intro vs n h;cases h;cases n<;>exact .nil
 |cons d ds ih=>intro vs n h;cases h with|cons r t=>cases n with
  |zero=>exact .nil
  |succ n=>exact .cons r (ih n t)
theorem qZ.drop{ds:List D}:∀{vs:List V} (n:Nat),qZ g H ds vs->qZ g H (ds.drop n) (vs.drop n):=by
 induction ds with
 |nil=>intro vs n h;cases h;cases n<;>exact .nil
 |cons d ds ih=>intro vs n h;cases n with
  |zero=>exact h
  |succ n=>cases h with|cons r t=>exact ih n t
theorem qZ.set{d:D}{v:V}(r:Rep g H d v){ds:List D}:∀{vs:List V} (i:Nat),qZ g H ds vs->qZ g H (ds.set i d) (vs.set i v):=by
 induction ds with
 |nil=>intro vs i h;cases h;exact .nil
 |cons d' ds ih=>intro vs i h;cases h with|cons q t=>cases i with
  |zero=>exact .cons r t
  |succ i=>exact .cons q (ih i t)
theorem qZ.ints{ds:List D}:∀{vs:List V}{ns:List Int},qZ g H ds vs->ints? ds=some ns->vs=ns.map V.int/\ds=ns.map D.int:=by
 induction ds with
 |nil=>intro vs ns h e;cases h;cases e;exact⟨rfl,rfl⟩
 |cons d ds ih=>
  intro vs ns h e;cases h with
  |cons h t=>cases d with
   |int i=>
    obtain⟨ms,e1,rfl⟩:=br.mp (show (ints? ds).map (i :: ·)=some ns from e);obtain⟨h1,h2⟩:=ih t e1;cases h;exact⟨by rw[h1];rfl,by rw[h2];rfl⟩
   |_=>cases (show none=some ns from e)
theorem qZ.bools{ds:List D}:∀{vs:List V}{ns:List Bool},qZ g H ds vs->bools? ds=some ns->vs=ns.map V.bl:=by
 induction ds with
 |nil=>intro vs ns h e;cases h;cases e;rfl
 |cons d ds ih=>
  intro vs ns h e;cases h with
  |cons h t=>cases d with
   |bl i=>
    obtain⟨ms,e1,rfl⟩:=br.mp (show (bools? ds).map (i :: ·)=some ns from e);have h1:=ih t e1;cases h;rw[h1];rfl
   |_=>cases (show none=some ns from e)
theorem qZ.ofInts:∀(ns:List Int),qZ g H (ns.map D.int) (ns.map V.int)
 | []=>.nil
 |i::r=>.cons (.int i) (qZ.ofInts r)
end
structure Sh where
 o:Addr->Bool
 h:Addr->Bool
 z:L2.St
 y:Hp
noncomputable def hid(H:Hp)(S:Sh):Hp:=λb=>if S.h b=true then none else H b
noncomputable def cG(S:Sh)(a:Addr):Sh:=⟨S.o,λb=>S.h b||b==a,S.z,S.y⟩
theorem b8{H:Hp}{S:Sh}{b:Addr}{o:HO}:hid H S b=some o↔S.h b=false/\H b=some o:=by
 unfold hid;cases h:S.h b<;>simp
theorem zF{H:Hp}{S:Sh}:qh (hid H S) H:=λ_ _ h=>(b8.mp h).2
theorem zq{H H':Hp}{S:Sh}(e:qh H H'):qh (hid H S) (hid H' S):=λb o h=>b8.mpr ⟨(b8.mp h).1,e _ _ (b8.mp h).2⟩
noncomputable def Sub(S:Sh)(H:Hp):Prop:=∀a,(S.h a=true\/S.o a=true)->H a≠none
theorem Sub.same{S:Sh}{H H':Hp}(h:Sub S H)(e:qh H H'):Sub S H':=λa s n=>by
 cases q:H a with
 |none=>exact h a s q
 |some o=>rw[e _ _ q]at n;cases n
theorem Sub.free{S:Sh}{H:Hp}(h:Sub S H){p:Addr}(n:H p=none):S.h p=false:=by
 cases q:S.h p with
 |false=>rfl
 |true=>exact absurd n (h p (.inl q))
theorem Sub.freeO{S:Sh}{H:Hp}(h:Sub S H){p:Addr}(n:H p=none):S.o p=false:=by
 cases q:S.o p with
 |false=>rfl
 |true=>exact absurd n (h p (.inr q))
theorem zx{H:Hp}{p:Addr}{o:HO}(n:H p=none):qh H (upd H p o):=λb u h=>by
 rw[qq (λz=>by rw[z,n]at h;cases h)];exact h
theorem lD{H:Hp}{S:Sh}{p:Addr}{o:HO}(hs:Sub S H)(n:H p=none):hid (upd H p o) S p=some o:=b8.mpr ⟨hs.free n,zC⟩
theorem jL{H:Hp}{S:Sh}{p:Addr}{o:HO}(n:H p=none):qh (hid H S) (hid (upd H p o) (cG S p)):=λb u h=>by
 obtain⟨h1,h2⟩:=b8.mp h;have hb:b≠p:=λz=>by rw[z,n]at h2;cases h2
 refine b8.mpr ⟨?_,by rw[qq hb];exact h2⟩;show (S.h b||b==p)=false;rw[h1]
 simpa using hb
theorem tF{H:Hp}{S:Sh}{p:Addr}:qh (hid H (cG S p)) (hid H S):=λb u h=>by
 obtain⟨h1,h2⟩:=b8.mp h;refine b8.mpr ⟨?_,h2⟩;have h1:(S.h b||b==p)=false:=h1;simp at h1;exact h1.1
noncomputable def zE(g:Gc)(H:Hp)(S:Sh)(d:D)(v:V):Prop:=
 Rep g (hid H S) d v\/∃a vs ds,S.o a=true/\v=.ref a/\d=.lst ds/\H a=some (.lst vs)/\qZ g (hid H S) ds vs
noncomputable def Fr(g:Gc)(H0:Hp)(S:Sh)(H:Hp)(d:D)(v:V):Prop:=
 ∃a vs ds,v=.ref a/\d=.lst ds/\H0 a=none/\H a=some (.lst vs)/\qZ g (hid H (cG S a)) ds vs
section
variable{g:Gc}{H H' H0:Hp}{S:Sh}{d:D}{v:V}
theorem zE.mono(e:qh H H')(h:zE g H S d v):zE g H' S d v:=by
 rcases h with h|⟨a,vs,ds,h1,h2,h3,h4,h5⟩
 ·exact .inl (h.mono (zq e))
 ·exact .inr ⟨a,vs,ds,h1,h2,h3,e _ _ h4,h5.mono (zq e)⟩
theorem zE.rep(h:zE g H S d v):Rep g H d v:=by
 rcases h with h|⟨a,vs,ds,h1,rfl,rfl,h4,h5⟩
 ·exact h.mono zF
 ·exact .lst (SqL.of h4) (h5.mono zF)
theorem zE.lst{ds:List D}(h:zE g H S (.lst ds) v):∃a vs,v=.ref a/\SqL g.K H a vs/\qZ g (hid H S) ds vs:=by
 rcases h with h|⟨a,vs,ds',h1,rfl,h3,h4,h5⟩
 ·cases h with
  |lst h r=>exact⟨_,_,rfl,zF.seq h,r⟩
 ·cases h3;exact⟨a,vs,rfl,SqL.of h4,h5⟩
theorem zE.strong(h:zE g H S d v)(n:∀ds,d≠.lst ds):Rep g (hid H S) d v:=by
 rcases h with h|⟨a,vs,ds',h1,rfl,h3,h4,h5⟩
 ·exact h
 ·exact absurd h3 (n _)
theorem zE.tup{ds:List D}(h:zE g H S (.tup ds) v):∃a vs,v=.ref a/\SqT g.K H a vs/\qZ g (hid H S) ds vs:=by
 cases h.strong (by intro _ z;cases z)with
 |tup h2 r=>exact⟨_,_,rfl,zB zF h2,r⟩
theorem zE.seq{ds:List D}(h:zE g H S d v)(e:seq? d=some ds):∃a vs,v=.ref a/\(SqL g.K H a vs\/SqT g.K H a vs)/\qZ g (hid H S) ds vs:=by
 cases d with
 |tup xs=>cases e;obtain⟨a,vs,h1,h2,h3⟩:=h.tup;exact⟨a,vs,h1,.inr h2,h3⟩
 |lst xs=>cases e;obtain⟨a,vs,h1,h2,h3⟩:=h.lst;exact⟨a,vs,h1,.inl h2,h3⟩
 |_=>cases e
theorem zE.int{i:Int}(h:zE g H S (.int i) v):v=.int i:=by cases h.strong (by intro _ z;cases z);rfl
theorem zE.bl{b:Bool}(h:zE g H S (.bl b) v):v=.bl b:=by cases h.strong (by intro _ z;cases z);rfl
theorem fP{ds:List D}{vs:List V}{p:Addr}(hs:Sub S H)(n:H p=none)(r:qZ g (hid H S) ds vs):Rep g (hid (upd H p (.tup vs)) S) (.tup ds) (.ref p):=
 .tup (SqT.of (lD hs n)) (r.mono (zq (zx n)))
theorem gy{ds:List D}{vs:List V}{p:Addr}(hs:Sub S H)(n:H p=none)(r:qZ g (hid H S) ds vs):Rep g (hid (upd H p (.lst vs)) S) (.lst ds) (.ref p):=
 .lst (SqL.of (lD hs n)) (r.mono (zq (zx n)))
theorem p6{ds:List D}{vs:List V}{p:Addr}(e:qh H0 H)(n:H p=none)(r:qZ g (hid H S) ds vs):Fr g H0 S (upd H p (.lst vs)) (.lst ds) (.ref p):=
 ⟨p,vs,ds,rfl,rfl,e.free n,zC,r.mono (jL n)⟩
end
end EV
namespace HT
open PySem PySem.Spec PyProof.Rows L2
section
variable{prog:aB}{w:aw}{A:aC}{E:ae->af->Prop}{s:af}
end
end HT
namespace L2
open PySem PySem.Spec PyProof.Rows
variable{X:Cx}
section
variable{X:Cx}
end
end L2
namespace EV
open PySem PySem.Spec PySem.P PyProof.Rows L2
mutual
noncomputable def D.py:D->PyData
 | .non=>.none
 | .bl b=>.bool b
 | .int i=>.int i
 | .str x=>.str x
 | .tup xs=>.tuple (pys xs)
 | .lst xs=>.list (pys xs)
 | .fn _=>.none
 | .exn _=>.none
 | .dic=>.none
noncomputable def pys:List D->List PyData
 | []=>[]
 |x::xs=>x.py::pys xs
end
mutual
theorem rL:∀{d:D},d.plain=true->d.py.canLay0=true
 | .non,_ | .bl _,_ | .int _,_=>by simp[D.py,PyData.canLay0]
 | .str x,h=>by simpa[D.py,PyData.canLay0,D.plain]using h
 | .tup xs,h=>by simp only[D.py,PyData.canLay0];exact lO (by simpa[D.plain]using h)
 | .lst xs,h=>by simp only[D.py,PyData.canLay0];exact lO (by simpa[D.plain]using h)
 | .fn _,h | .exn _,h | .dic,h=>by simp[D.plain]at h
theorem lO:∀{ds:List D},plainAll ds=true->PyData.canLayAll0 (pys ds)=true
 | [],_=>by simp[pys,PyData.canLayAll0]
 |x::xs,h=>by
  simp only[plainAll,aJ]at h;simp only[pys,PyData.canLayAll0,aJ];exact⟨rL h.1,lO h.2⟩
end
mutual
theorem s_:∀(d:D),d.py.depth=d.deep
 | .non | .bl _ | .int _ | .str _ | .fn _ | .exn _ | .dic=>by simp[D.py,PyData.depth,D.deep]
 | .tup xs=>by simp only[D.py,PyData.depth,D.deep];rw[l5 xs]
 | .lst xs=>by simp only[D.py,PyData.depth,D.deep];rw[l5 xs]
theorem l5:∀(ds:List D),PyData.depthAll (pys ds)=dN ds
 | []=>by simp[pys,PyData.depthAll,dN]
 |x::xs=>by simp only[pys,PyData.depthAll,dN];rw[s_ x,l5 xs]
end
mutual
theorem lN:∀(a b:D),a.plain=true->b.plain=true->PyData.eqv a.py b.py=a.eqv b
 | .tup xs,.tup ys,h,h'=>by simp only[D.py,PyData.eqv,D.eqv];exact lg xs ys (by simpa[D.plain]using h) (by simpa[D.plain]using h')
 | .lst xs,.lst ys,h,h'=>by simp only[D.py,PyData.eqv,D.eqv];exact lg xs ys (by simpa[D.plain]using h) (by simpa[D.plain]using h')
 | .fn _,_,h,_=>by simp[D.plain]at h
 | .exn _,_,h,_=>by simp[D.plain]at h
 | .dic,_,h,_=>by simp[D.plain]at h
 | .non,b,_,h' | .bl _,b,_,h' | .int _,b,_,h' | .str _,b,_,h'=>by cases b<;>simp[D.py,PyData.eqv,D.eqv,D.plain]at h' ⊢
 | .tup _,.non,_,_ | .tup _,.bl _,_,_ | .tup _,.int _,_,_ | .tup _,.str _,_,_ | .tup _,.lst _,_,_=>by simp[D.py,PyData.eqv,D.eqv]
 | .lst _,.non,_,_ | .lst _,.bl _,_,_ | .lst _,.int _,_,_ | .lst _,.str _,_,_ | .lst _,.tup _,_,_=>by simp[D.py,PyData.eqv,D.eqv]
 | .tup _,.fn _,_,h' | .tup _,.exn _,_,h' | .lst _,.fn _,_,h' | .lst _,.exn _,_,h' | .tup _,.dic,_,h' | .lst _,.dic,_,h'=>by simp[D.plain]at h'
theorem lg:∀(xs ys:List D),plainAll xs=true->plainAll ys=true->PyData.eqvAll (pys xs) (pys ys)=eqvAll xs ys
 | [],[],_,_=>by simp[pys,PyData.eqvAll,eqvAll]
 |x::xs,y::ys,h,h'=>by
  simp only[plainAll,aJ]at h h';simp only[pys,PyData.eqvAll,eqvAll];rw[lN x y h.1 h'.1,lg xs ys h.2 h'.2]
 | [],_::_,_,_=>by simp[pys,PyData.eqvAll,eqvAll]
 |_::_,[],_,_=>by simp[pys,PyData.eqvAll,eqvAll]
end
theorem Rep.data{g:Gc}{H:Hp}{d:D}{v:V}(h:Rep g H d v):d.plain=true->eY g.K H v d.py:=
 h.rec (motive_1:=λd v _=>d.plain=true->eY g.K H v d.py) (motive_2:=λds vs _=>plainAll ds=true->gA g.K H vs (pys ds)) (λ_=>.non) (λb _=>.bl b) (λb _=>.int b) (λb _=>.str b) (λq _ r p=>.tup q (r p)) (λq _ r p=>.lst q (r p)) (λ_ p=>nomatch p) (λ_ _ p=>nomatch p) (λ_ p=>nomatch p) (λ_=>.nil) (λ_ _ a b p=>.cons (a (tj p).1) (b (tj p).2))
theorem iy{d:D}:d.asks=true↔d.plain=true/\d.deep<=20:=by simp[D.asks]
section
variable{X:Cx}{g:Gc}
theorem OpR.imp{f:ae->ae->Sem ae}{r r':R2}(h:OpR X f r)(i:∀x y H Q,r' x y H Q->r x y H Q):OpR X f r':=
 λpins s σ H x y v u Q I rx ry q=>h pins s σ H x y v u Q I rx ry (i _ _ _ _ q)
noncomputable def v7(K:ax):R2:=λx y H Q=>∃l b xs zs,x=.ref l/\y=.ref b/\SqL K H l xs/\SqL K H b zs/\xs.length+zs.length<=aL/\∀p,H p=none->Q (.ref p) (upd H p (.lst (xs++zs)))
theorem xg:OpR X (binaryOp .Add) (v7 X.K):=by
 intro pins s σ H x y v u Q I rx ry h;obtain⟨l,b,xs,zs,rfl,rfl,hH,hB,hz,q⟩:=h;cases rx;cases ry;obtain⟨its,r,pl,z⟩:=I.list hH;obtain⟨its2,r2,pl2,z2⟩:=I.list hB;have l1:=r.length;have l2:=r2.length;obtain⟨⟨cls,dd,data,sl⟩,ho,hc,n,hd⟩:=pl.isList;obtain⟨⟨cls2,dd2,data2,sl2⟩,ho2,hc2,n2,hd2⟩:=pl2.isList;simp only at hc hd hc2 hd2;subst hc hd hc2 hd2;refine concat_meets ⟨_,ho,rfl⟩ ⟨_,ho2,rfl⟩ noFill_list_add seq_list_add PySem.F.slot_list_add PySem.F.entry_list_add (PySem.F.args_list_add_2 _ _) (list_addW l b its.toArray its2.toArray n n2 dd dd2 sl sl2 (by rw[aP,aP];lia)) ⟨ho,ho2,?_⟩;have ea:its.toArray++its2.toArray=(its++its2).toArray:=by simp
 rw[ea];exact⟨.ref _,_,I.lnew (t':=s.toks) (r.append r2) (by rw[List.length_append];lia),rfl,q _ I.fresh⟩
noncomputable def rOp(g:Gc)(o:O2):R2:=λx y H Q=>∃S da db,Sub S H/\zE g H S da x/\zE g H S db y /\
 match op2 o da db with
 | .ok d=>∀v H',qh H H'->Rep g (hid H' S) d v->(m7 da=true->Fr g H S H' d v)->Q v H'
 |_=>False
theorem jd{o:O2}(ho:o≠.add)(hm:o≠.mul){da db d:D}(h:op2 o da db=.ok d):∃i j,da=.int i/\db=.int j/\opI o i j=.ok d:=by
 unfold op2 at h;split at h
 ·exact⟨_,_,rfl,rfl,h⟩
 ·rw[if_neg (λz=>ho z.1)]at h;cases h
 ·rw[if_neg (λz=>ho z.1)]at h;cases h
 ·rw[if_neg (λz=>ho z.1)]at h;cases h
 ·cases h
theorem pA{j:Int}(h:small j=true):-(2^64)<j/\j<2^64:=by simpa[small]using h
theorem gJ{n:Nat}(h:n<=SZ):n<=sizeLine:=bf h (by rw[bA];decide)
theorem log2_small{j:Int}(h1:0<j)(h2:j<1000000000000000000000000000000):j.natAbs.log2<9000:=by
 have h3:j.natAbs<2^100:=by
  have:(2:Nat)^100=1267650600228229401496703205376:=by decide +kernel
  rw[this];lia
 have:=(Nat.log2_lt (n:=j.natAbs) (k:=100) (by lia)).mpr h3;lia
theorem E1:OpR X (binaryOp .FloorDiv) (rI (λ_ j=>0<j/\j<1000000000000000000000000000000) λi j=>.int (i/j)):=L2.opI λi j _ _ _ _ _ hc q=>by
 have h1:(0:Int)<j:=hc.1;exact floordiv_int (by lia) (by rw[Int.fdiv_eq_ediv_of_nonneg i (by lia)];exact q) (.inl (PyProof.noPylong_of_log2 (log2_small hc.1 hc.2)))
theorem yx(hK:X.K=g.K){op:Operator}{o:O2}(h:o2 op=some o):OpR X (binaryOp op) (rOp g o):=by
 have two:∀{f:ae->ae->Sem ae}{C:Int->Int->Prop}{q:Int->Int->Int} (o:O2),OpR X f (rI C λi j=>.int (q i j))->(∀da db d,op2 o da db=.ok d->∃i j,da=.int i/\db=.int j/\C i j/\d=.int (q i j))->OpR X f (rOp g o):=λo k e=>by
  refine OpR.imp k λx y H Q ⟨S,da,db,hs,ra,rb,m⟩=>?_
  cases e1:op2 o da db with
  |ok d=>
   rw[e1]at m;obtain⟨i,j,rfl,rfl,c,rfl⟩:=e da db d e1;exact⟨i,j,ra.int,rb.int,c,m _ _ (qh.refl _) (.int _) (λz=>nomatch z)⟩
  |ex c=>rw[e1]at m;exact m.elim
  |no=>rw[e1]at m;exact m.elim
 have two0:∀{f:ae->ae->Sem ae}{q:Int->Int->Int} (o:O2),OpR X f (rI0 λi j=>.int (q i j))->(∀da db d,op2 o da db=.ok d->∃i j,da=.int i/\db=.int j/\d=.int (q i j))->OpR X f (rOp g o):=λ{f q} o k e=>
  two (C:=λ_ _=>True) (q:=q) o (OpR.imp k λx y H Q ⟨i,j,h1,h2,_,h3⟩=>⟨i,j,h1,h2,h3⟩) λda db d h=>by
   obtain⟨i,j,h1,h2,h3⟩:=e da db d h;exact⟨i,j,h1,h2,trivial,h3⟩
 cases op<;>simp only[o2,bY]at h<;>first|subst h|cases h
 ·-- Add
  refine OpR.imp (DO.or (xp.or (xg.or rO))) λx y H Q ⟨S,da,db,hs,ra,rb,m⟩=>?_
  cases da with
  |int i=>
   cases db with
   |int j=>exact .inl ⟨i,j,ra.int,rb.int,m _ _ (qh.refl _) (.int _) (λz=>nomatch z)⟩
   |_=>exact m.elim
  |tup xs=>
   cases db with
   |tup ys=>
    simp only[op2,true_and]at m;split at m
    ·rename_i e
     split at e<;>cases e
     rename_i hz
     obtain⟨a,vs,rfl,h1,r1⟩:=ra.tup;obtain⟨b,us,rfl,h2,r2⟩:=rb.tup;refine .inr (.inl ⟨a,b,vs,us,rfl,rfl,by rw[hK];exact h1,by rw[hK];exact h2,by rw[<-r1.length,<-r2.length];exact gJ hz,λe=>?_,λ_ e=>?_,λ_ _ p hp=>?_⟩)
     ·subst e;cases r1;exact m _ _ (qh.refl _) (rb.strong (by intro _ z;cases z)) (λz=>nomatch z)
     ·subst e;cases r2;rw[dD]at m;exact m _ _ (qh.refl _) (ra.strong (by intro _ z;cases z)) (λz=>nomatch z)
     ·exact m _ _ (zx hp) (fP hs hp (r1.append r2)) (λz=>nomatch z)
    ·exact m.elim
   |_=>exact m.elim
  |lst xs=>
   cases db with
   |lst ys=>
    simp only[op2,true_and]at m;split at m
    ·rename_i e
     split at e<;>cases e
     rename_i hz
     obtain⟨a,vs,rfl,h1,r1⟩:=ra.lst;obtain⟨b,us,rfl,h2,r2⟩:=rb.lst;refine .inr (.inr (.inl ⟨a,b,vs,us,rfl,rfl,by rw[hK];exact h1,by rw[hK];exact h2,by rw[<-r1.length,<-r2.length];exact gJ hz,λp hp=>?_⟩));exact m _ _ (zx hp) (gy hs hp (r1.append r2)) (λ_=>p6 (qh.refl _) hp (r1.append r2))
    ·exact m.elim
   |_=>exact m.elim
  |str i=>
   cases db with
   |str j=>
    simp only[op2,true_and]at m;split at m
    ·rename_i e
     split at e<;>cases e
     rename_i hz
     have hx:x=.str i:=by cases ra.rep;rfl
     have hy:y=.str j:=by cases rb.rep;rfl
     exact .inr (.inr (.inr ⟨i,j,hx,hy,gJ hz,m _ _ (qh.refl _) (.str _) (λz=>nomatch z)⟩))
    ·exact m.elim
   |_=>exact m.elim
  |_=>exact m.elim
 ·exact two0 .sub xj λda db d h=>by obtain⟨i,j,rfl,rfl,h'⟩:=jd (by decide) (by decide) h;clear h;rename _=>h;cases h;exact⟨_,_,rfl,rfl,rfl⟩
 ·refine OpR.imp yg λx y H Q ⟨S,da,db,hs,ra,rb,m⟩=>?_
  cases e1:op2 .mul da db with
  |ok d=>
   rw[e1]at m;unfold op2 at e1;split at e1
   ·simp only[opI]at e1;split at e1
    ·rename_i i j hc
     cases e1;refine⟨i,j,ra.int,rb.int,?_,m _ _ (qh.refl _) (.int _) (λz=>nomatch z)⟩;rcases(by simpa using hc)with z|z
     ·exact .inl (pA z)
     ·exact .inr (pA z)
    ·cases e1
   ·rw[if_neg (λz=>nomatch z.1)]at e1;cases e1
   ·rw[if_neg (λz=>nomatch z.1)]at e1;cases e1
   ·rw[if_neg (λz=>nomatch z.1)]at e1;cases e1
   ·cases e1
  |ex c=>rw[e1]at m;exact m.elim
  |no=>rw[e1]at m;exact m.elim
 ·exact two .mod vz λda db d h=>by obtain⟨i,j,rfl,rfl,h'⟩:=jd (by decide) (by decide) h;clear h;rename _=>h;simp only[opI]at h;split at h<;>cases h;rename_i hc;exact⟨_,_,rfl,rfl,hc,rfl⟩
 ·exact two .pow Bb λda db d h=>by obtain⟨i,j,rfl,rfl,h'⟩:=jd (by decide) (by decide) h;clear h;rename _=>h;simp only[opI]at h;split at h<;>cases h;rename_i hc;exact⟨_,_,rfl,rfl,hc,rfl⟩
 ·exact two .shr EX λda db d h=>by obtain⟨i,j,rfl,rfl,h'⟩:=jd (by decide) (by decide) h;clear h;rename _=>h;simp only[opI]at h;split at h<;>cases h;rename_i hc;exact⟨_,_,rfl,rfl,hc,rfl⟩
 ·exact two .fdiv E1 λda db d h=>by obtain⟨i,j,rfl,rfl,h'⟩:=jd (by decide) (by decide) h;clear h;rename _=>h;simp only[opI]at h;split at h<;>cases h;rename_i hc;exact⟨_,_,rfl,rfl,hc,rfl⟩
theorem kv(hK:X.K=g.K){pins:List (Addr×Obj)}{σ:L2.St}{H:Hp}{s:af}(I:Inv X pins σ H s){d:D}{v:V}{u:ae}(r:Rep g H d v)(a:d.asks=true)(ru:RelV v u):∃as,Reads s.heap u d.py as/\d.py.canLay0=true/\d.py.depth<=20:=by
 obtain⟨h1,h2⟩:=iy.mp a;have h:=r.data h1;rw[<-hK]at h;obtain⟨as,q⟩:=I.reads h ru;exact⟨as,q,rL h1,by rw[s_];exact h2⟩
theorem oq:∀(a b:List Int),cF a b=HT.lexLt a b
 | [],[]=>by simp[cF,HT.lexLt]
 | [],_::_=>by simp[cF,HT.lexLt]
 |_::_,[]=>by simp[cF,HT.lexLt]
 |a::r,b::t=>by
  simp only[cF,HT.lexLt];rw[oq r t]
  try (by_cases h:a=b<;>simp[h])
noncomputable def rCm(g:Gc)(c:C2):R2:=λx y H Q=>∃S da db,zE g H S da x/\zE g H S db y /\
 match qg c da db with
 | .ok b=>Q (.bl b) H
 |_=>False
open Classical in
noncomputable def e_(h:Heap)(q:PyData)(u:ae):Bool:=if e:∃d as,Reads h u d as then PyData.eqv e.choose q else false
theorem sC{h:Heap}{q d:PyData}{u:ae}{as:List Addr}(r:Reads h u d as):e_ h q u=PyData.eqv d q:=by
 have e:∃d as,Reads h u d as:=⟨d,as,r⟩
 unfold e_;rw[dif_pos e];obtain⟨bs,r'⟩:=e.choose_spec;rw[(PySem.Reads.unique r' d as r).1]
theorem any_eq(hK:X.K=g.K){pins:List (Addr×Obj)}{σ:L2.St}{H:Hp}{s:af}(I:Inv X pins σ H s){da:D}(ha:da.asks=true){ds:List D}:∀{vs:List V}{us:List ae},qZ g H ds vs->Vals vs us->ds.all D.asks=true ->
  us.any (e_ s.heap da.py)=inD da ds/\∀u∈us,∃d as,Reads s.heap u d as/\d.canLay0=true/\d.depth<=20:=by
 induction ds with
 |nil=>intro vs us h r _;cases h;cases r;exact⟨rfl,λu h=>nomatch h⟩
 |cons d ds ih=>
  intro vs us h q e;cases h with
  |cons h r=>cases q with
   |cons q t=>
    rw[List.all_cons,aJ]at e;obtain⟨as,h1,h2,h3⟩:=kv hK I h e.1 q;obtain⟨i1,i2⟩:=ih r t e.2;refine⟨?_,λu hu=>?_⟩
    ·rw[List.any_cons,i1,sC h1,lN _ _ (iy.mp e.1).1 (iy.mp ha).1]
     rfl
    ·rcases aG.mp hu with rfl|hu
     ·exact⟨_,as,h1,h2,h3⟩
     ·exact i2 u hu
theorem E9{A:aC}{s:af}{u v:ae}{d:PyData}{as:List Addr}{q:PyData}{bs:List Addr}(hu:A.units+60<cLine)(r:Reads s.heap u d as)(r':Reads s.heap v q bs)(h1:d.canLay0=true)(h2:q.canLay0=true)(h3:d.depth<=20):SeqAt.EqAt A.in1 s u v (e_ s.heap q u):=by
 rw[sC r];refine SeqAt.eqAt_reads d q A.in1 s u v as bs r r' h1 h2 ?_;have:min d.depth q.depth<=d.depth:=Nat.min_le_left _ _;show A.units+1+_<_;lia
theorem oM(hK:X.K=g.K)(hu:X.A.units+64<cLine)(neg:Bool):OpR X (ba (if neg then .NotIn else .In)) (λx y H Q=>∃S da db ds,zE g H S da x/\zE g H S db y/\seq? db=some ds/\da.asks=true/\ds.all D.asks=true/\Q (.bl (if neg then !inD da ds else inD da ds)) H):=by
 intro pins s σ H x y v u Q I rx ry h;obtain⟨S,da,db,ds,ra,rb,es,aa,ad,q⟩:=h;obtain⟨as,h1,h2,h3⟩:=kv hK I ra.rep aa rx;obtain⟨a,vs,rfl,hsq,rr⟩:=rb.seq es;cases ry;have go:∀{its:List ae},Vals vs its->(∀w∈its.toArray,SeqAt.EqAt X.A.in1 s w v (e_ s.heap da.py w))/\its.toArray.any (e_ s.heap da.py)=inD da ds:=λ{its} rv=>by
  obtain⟨i1,i2⟩:=any_eq hK I aa (rr.mono zF) rv ad;refine⟨λw hw=>?_,by simpa using i1⟩;obtain⟨d,bs,r1,r2,r3⟩:=i2 w (by simpa using hw);exact E9 (Nat.lt_of_le_of_lt (Nat.add_le_add_left (by decide) _) hu) r1 h1 r2 h2 r3
 rcases hsq with hsq|hsq
 ·obtain⟨its,rv,pl,_⟩:=I.list (by rw[hK];exact hsq);obtain⟨g1,g2⟩:=go rv;cases neg with
  |false=>exact SeqAt.in_listAt (e_ s.heap da.py) pl.isList g1 ⟨.bl _,H,I,rfl,by rw[g2];exact q⟩
  |true=>exact SeqAt.notIn_listAt (e_ s.heap da.py) pl.isList g1 ⟨.bl _,H,I,rfl,by rw[g2];exact q⟩
 ·obtain⟨its,rv,pl,_⟩:=I.tuple (by rw[hK];exact hsq);obtain⟨g1,g2⟩:=go rv;cases neg with
  |false=>exact SeqAt.in_tupleAt (e_ s.heap da.py) pl g1 ⟨.bl _,H,I,rfl,by rw[g2];exact q⟩
  |true=>exact SeqAt.notIn_tupleAt (e_ s.heap da.py) pl g1 ⟨.bl _,H,I,rfl,by rw[g2];exact q⟩
theorem rG(hK:X.K=g.K)(hu:X.A.units+64<cLine)(neg:Bool):OpR X (ba (if neg then .NotEq else .Eq)) (λx y H Q=>∃S da db,zE g H S da x/\zE g H S db y/\da.asks=true/\db.asks=true/\Q (.bl (if neg then !da.eqv db else da.eqv db)) H):=by
 intro pins s σ H x y v u Q I rx ry h;obtain⟨S,da,db,ra,rb,aa,ab,q⟩:=h;obtain⟨as,h1,h2,h3⟩:=kv hK I ra.rep aa rx;obtain⟨bs,k1,k2,k3⟩:=kv hK I rb.rep ab ry;have e:=lN da db (iy.mp aa).1 (iy.mp ab).1;have room:X.A.units+min da.py.depth db.py.depth<cLine:=by
  have:min da.py.depth db.py.depth<=da.py.depth:=Nat.min_le_left _ _;lia
 cases neg with
 |false=>exact SeqAt.compareEq_reads h1 k1 h2 k2 room ⟨.bl _,H,I,by rw[e];rfl,q⟩
 |true=>exact SeqAt.compareNe_reads h1 k1 h2 k2 room ⟨.bl _,H,I,by rw[e];rfl,q⟩
theorem zE.non_iff{S:Sh}{H:Hp}{d:D}{v:V}(r:zE g H S d v):decide (v=.non)=fD d:=by
 cases r.rep<;>rfl
theorem eT{op:CmpOp}{c:C2}{r:R2}(h:OpR X (ba op) r)(k:∀S da db b x y H Q,zE g H S da x->zE g H S db y->qg c da db=.ok b->Q (.bl b) H->r x y H Q):OpR X (ba op) (rCm g c):=by
 refine OpR.imp h λx y H Q ⟨S,da,db,ra,rb,m⟩=>?_
 cases e:qg c da db with
 |ok b=>rw[e]at m;exact k S da db b x y H Q ra rb e m
 |ex c'=>rw[e]at m;exact m.elim
 |no=>rw[e]at m;exact m.elim
theorem yN:OpR X (ba .Is) (λx y H Q=>∃a b,x=.bl a/\y=.bl b/\Q (.bl (a==b)) H):=by
 intro pins s σ H x y v u Q I rx ry h;obtain⟨a,b,rfl,rfl,q⟩:=h;cases rx;cases ry;exact is_bool (gI I q rfl)
theorem AI:OpR X (ba .IsNot) (λx y H Q=>∃a b,x=.bl a/\y=.bl b/\Q (.bl (!(a==b))) H):=by
 intro pins s σ H x y v u Q I rx ry h;obtain⟨a,b,rfl,rfl,q⟩:=h;cases rx;cases ry;exact isnot_bool (gI I q rfl)
theorem m_{n:Bool}{a b:EV.D}{c:Bool}(h:isB n a b=.ok c):∃x y,a=.bl x/\b=.bl y/\c=(n != (x==y)):=by
 unfold isB at h;split at h
 ·cases h;exact⟨_,_,rfl,rfl,rfl⟩
 ·cases h
theorem oY{a b:EV.D}{c:Bool}(h:eE a b=.ok c):∃i j,a=.str i/\b=.str j/\c = !(Builtin.Str.occurrences j i 0 j.length 1).isEmpty:=by
 unfold eE at h;split at h
 ·cases h;exact⟨_,_,rfl,rfl,rfl⟩
 ·cases h
theorem er(hK:X.K=g.K)(hu:X.A.units+64<cLine)(op:CmpOp):OpR X (ba op) (rCm g (c2 op)):=by
 cases op
 ·exact eT (rG hK hu false) λS da db b x y H Q ra rb e q=>by
   simp only[c2,qg]at e;split at e<;>cases e
   rename_i a
   simp only[aJ]at a;exact⟨S,da,db,ra,rb,a.1,a.2,q⟩
 ·exact eT (rG hK hu true) λS da db b x y H Q ra rb e q=>by
   simp only[c2,qg]at e;split at e<;>cases e
   rename_i a
   simp only[aJ]at a;exact⟨S,da,db,ra,rb,a.1,a.2,q⟩
 ·exact eT (ye.or (Cn (by lia))) λS da db b x y H Q ra rb e q=>by
   simp only[c2]at e;cases da with
   |int i=>
    cases db with
    |int j=>cases e;exact .inl ⟨i,j,ra.int,rb.int,q⟩
    |_=>cases e
   |tup xs=>
    cases db with
    |tup ys=>
     simp only[qg]at e;split at e
     ·rename_i ns ms e1 e2
      cases e;obtain⟨a,vs,rfl,h1,r1⟩:=ra.tup;obtain⟨b,us,rfl,h2,r2⟩:=rb.tup;obtain⟨rfl,_⟩:=r1.ints e1;obtain⟨rfl,_⟩:=r2.ints e2;exact .inr ⟨a,b,ns,ms,rfl,rfl,by rw[hK];exact h1,by rw[hK];exact h2,oq ns ms▸q⟩
     ·cases e
    |_=>cases e
   |_=>cases db<;>cases e
 ·exact eT uX λS da db b x y H Q ra rb e q=>by
   cases da with
   |int i=>
    cases db with
    |int j=>cases e;exact⟨_,_,ra.int,rb.int,q⟩
    |_=>cases e
   |_=>cases e
 ·exact eT vJ λS da db b x y H Q ra rb e q=>by
   cases da with
   |int i=>
    cases db with
    |int j=>cases e;exact⟨_,_,ra.int,rb.int,q⟩
    |_=>cases e
   |_=>cases e
 ·exact eT ud λS da db b x y H Q ra rb e q=>by
   cases da with
   |int i=>
    cases db with
    |int j=>cases e;exact⟨_,_,ra.int,rb.int,q⟩
    |_=>cases e
   |_=>cases e
 ·exact eT (uu.or yN) λS da db b x y H Q ra rb e q=>by
   simp only[c2,qg]at e;split at e
   ·rename_i hd
    cases e;have hd:db=.non:=by cases db<;>first|rfl|cases hd
    subst hd;cases rb.rep;exact .inl ⟨rfl,by rw[ra.non_iff];exact q⟩
   ·obtain⟨a,c,rfl,rfl,rfl⟩:=m_ e;cases ra.rep;cases rb.rep;exact .inr ⟨a,c,rfl,rfl,by cases a<;>cases c<;>exact q⟩
 ·exact eT (vw.or AI) λS da db b x y H Q ra rb e q=>by
   simp only[c2,qg]at e;split at e
   ·rename_i hd
    cases e;have hd:db=.non:=by cases db<;>first|rfl|cases hd
    subst hd;cases rb.rep;exact .inl ⟨rfl,by rw[ra.non_iff];exact q⟩
   ·obtain⟨a,c,rfl,rfl,rfl⟩:=m_ e;cases ra.rep;cases rb.rep;exact .inr ⟨a,c,rfl,rfl,by cases a<;>cases c<;>exact q⟩
 ·exact eT ((oM hK hu false).or xk) λS da db b x y H Q ra rb e q=>by
   simp only[c2,qg]at e;split at e
   ·rename_i xs es
    split at e<;>cases e
    rename_i a
    simp only[aJ]at a;exact .inl ⟨S,da,db,xs,ra,rb,es,a.1,a.2,q⟩
   ·obtain⟨i,j,rfl,rfl,rfl⟩:=oY e;cases ra.rep;cases rb.rep;exact .inr ⟨i,j,rfl,rfl,q⟩
 ·exact eT ((oM hK hu true).or vM) λS da db b x y H Q ra rb e q=>by
   simp only[c2,qg]at e;split at e
   ·rename_i xs es
    split at e<;>cases e
    rename_i a
    simp only[aJ]at a;exact .inl ⟨S,da,db,xs,ra,rb,es,a.1,a.2,q⟩
   ·cases z:eE da db with
    |ok r=>
     rw[z]at e;cases e;obtain⟨i,j,rfl,rfl,rfl⟩:=oY z;cases ra.rep;cases rb.rep;exact .inr ⟨i,j,rfl,rfl,q⟩
    |ex k=>rw[z]at e;cases e
    |no=>rw[z]at e;cases e
end
abbrev fm(g:Gc)(H:Hp)(S:Sh):List D->List V->Prop:=Paired (zE g H S)
section
variable{X:Cx}{g:Gc}
theorem pT{H:Hp}{ds:List D}{vs:List V}{i:Int}{d:D}(r:qZ g H ds vs)(e:atI ds i=some d):∃v,atI vs i=some v/\Rep g H d v:=by
 unfold atI at e ⊢;rw[<-r.length];cases q:ixN ds.length i with
 |none=>rw[q]at e;cases e
 |some j=>rw[q]at e;exact r.get e
noncomputable def yl(g:Gc):R2:=λx y H Q=>∃S da db,zE g H S da x/\zE g H S db y /\
 match ixD da db with
 | .ok d=>∀v,Rep g (hid H S) d v->Q v H
 |_=>False
theorem v9(hK:X.K=g.K):IxR X (yl g):=by
 have k:IxR X (λx y H Q=>pK X.K x y H Q\/(mW X.K x y H Q\/nF x y H Q)):=A7.or (Fw.or Ek);intro value slice pins s σ H x y v u Q I rx ry h hs;refine k value slice pins s σ H x y v u Q I rx ry ?_ hs;obtain⟨S,da,db,ra,rb,m⟩:=h;cases da with
 |tup xs=>
  cases db with
  |int i=>
   simp only[ixD]at m;cases e:atI xs i with
   |none=>rw[e]at m;exact m.elim
   |some d=>
    rw[e]at m;obtain⟨a,vs,rfl,h1,r1⟩:=ra.tup;obtain⟨w,h2,h3⟩:=pT r1 e;exact .inr (.inl ⟨a,vs,i,w,rfl,rb.int,by rw[hK];exact h1,h2,m w h3⟩)
  |_=>exact m.elim
 |str z=>
  cases db with
  |int i=>
   simp only[ixD]at m;by_cases hz:z.length<=SZ
   ·rw[if_pos hz]at m;cases e:atI z.cps.toList i with
    |none=>rw[e]at m;exact m.elim
    |some c=>
     rw[e]at m;cases ra.rep;exact .inr (.inr ⟨z,i,c,rfl,rb.int,gJ hz,e,m _ (.str _)⟩)
   ·rw[if_neg hz]at m;exact m.elim
  |_=>exact m.elim
 |lst xs=>
  cases db with
  |int i=>
   simp only[ixD]at m;cases e:atI xs i with
   |none=>rw[e]at m;exact m.elim
   |some d=>
    rw[e]at m;obtain⟨a,vs,rfl,h1,r1⟩:=ra.lst;obtain⟨w,h2,h3⟩:=pT r1 e;exact .inl ⟨a,vs,i,w,rfl,rb.int,by rw[hK];exact h1,h2,m w h3⟩
  |_=>exact m.elim
 |_=>exact m.elim
noncomputable def uP(g:Gc):V->Option Int->Option Int->Hp->VK->Prop:=λx lo hi H Q=>∃S da,Sub S H/\zE g H S da x /\
 match slD da lo hi with
 | .ok d=>∀v H',qh H H'->Rep g (hid H' S) d v->Q v H'
 |_=>False
theorem o3{H:Hp}{ds:List D}{vs:List V}(r:qZ g H ds vs)(lo hi:Option Int):qZ g H (cutD ds lo hi) (fL vs lo hi):=by
 unfold cutD fL;rw[r.length];exact(r.drop _).take _
theorem xC(hK:X.K=g.K):SlR X (uP g):=by
 intro pins s σ H x v vl vu lo hi sl Q I rx hs pl pu h;obtain⟨S,da,hS,ra,m⟩:=h;cases da with
 |lst xs=>
  obtain⟨a,vs,rfl,h1,r1⟩:=ra.lst;exact Ft pins s σ H _ v vl vu lo hi sl Q I rx hs pl pu ⟨a,vs,rfl,by rw[hK];exact h1,λp hp=>m _ _ (zx hp) (gy hS hp (o3 r1 lo hi))⟩
 |tup xs=>
  obtain⟨a,vs,rfl,h1,r1⟩:=ra.tup;simp only[slD]at m;by_cases hw:HT.sIx xs.length 0 lo=0/\HT.sIx xs.length xs.length hi=xs.length
  ·have e:cutD xs lo hi=xs:=by unfold cutD;rw[hw.1,hw.2];simp
   rw[e]at m;rw[r1.length]at hw;exact BA pins s σ H _ v vl vu lo hi sl Q I rx hs pl pu ⟨a,vs,rfl,by rw[hK];exact h1,hw.1,hw.2,m _ _ (qh.refl _) (ra.strong (by intro _ z;cases z))⟩
  ·rw[r1.length]at hw;exact vC pins s σ H _ v vl vu lo hi sl Q I rx hs pl pu ⟨a,vs,rfl,by rw[hK];exact h1,hw,λp hp=>m _ _ (zx hp) (fP hS hp (o3 r1 lo hi))⟩
 |str z=>
  simp only[slD]at m;by_cases hz:(zu z lo hi).length<=SZ
  ·rw[if_pos hz]at m;have hx:x=.str z:=by cases ra.rep;rfl
   exact k_ pins s σ H _ v vl vu lo hi sl Q I rx hs pl pu ⟨z,hx,gJ hz,m _ _ (qh.refl _) (.str _)⟩
  ·rw[if_neg hz]at m;exact m.elim
 |_=>exact m.elim
noncomputable def b1V:B1->ae
 | .len=>.builtin "len"
 | .tuple=>.type "tuple"
 | .list=>.type "list"
 | .sorted=>.builtin "sorted"
 | .all=>.builtin "all"
 | .any=>.builtin "any"
 | .sum=>.builtin "sum"
 | .min=>.builtin "min"
 | .max=>.builtin "max"
 | .abs=>.builtin "abs"
 | .int=>.type "int"
 | .bool=>.type "bool"
noncomputable def rB1(g:Gc)(b:B1):List V->Hp->VK->Prop:=λvs H Q=>∃S ds,Sub S H/\fm g H S ds vs /\
 match b1 b ds with
 | .ok d=>∀v H',qh H H'->Rep g (hid H' S) d v->(b=.list\/b=.sorted->Fr g H S H' d v)->Q v H'
 |_=>False
theorem zv.imp{f:ae}{r r':List V->Hp->VK->Prop}(h:zv X f r)(i:∀xs H Q,r' xs H Q->r xs H Q):zv X f r':=
 λpins s σ H xs us Q I rv q=>h pins s σ H xs us Q I rv (i _ _ _ q)
theorem fW{f:ae}{b:B1}{r:List V->Hp->VK->Prop}(h:zv X f r)
  (k:∀S ds d vs H Q,Sub S H->fm g H S ds vs->b1 b ds=.ok d->(∀v H',qh H H'->Rep g (hid H' S) d v->(b=.list\/b=.sorted->Fr g H S H' d v)->Q v H')->r vs H Q):zv X f (rB1 g b):=by
 refine zv.imp h λvs H Q ⟨S,ds,hs,rs,m⟩=>?_
 cases e:b1 b ds with
 |ok d=>rw[e]at m;exact k S ds d vs H Q hs rs e m
 |ex c=>rw[e]at m;exact m.elim
 |no=>rw[e]at m;exact m.elim
theorem kh{f:ae}{b:B1}(h1:∀d,b11 b d=.no)(h2:∀d e,b12 b d e=.no):zv X f (rB1 g b):=λpins s σ H xs us Q I rv ⟨S,ds,hs,rs,m⟩=>by
 have e:b1 b ds=.no:=by
  unfold b1;split
  ·exact h1 _
  ·exact h2 _ _
  ·rfl
 rw[e]at m;exact m.elim
theorem iw{b:B1}(hb:∀x y,b12 b x y=.no){ds:List D}{d:D}(h:b1 b ds=.ok d):∃x,ds=[x]/\b11 b x=.ok d:=by
 match ds,h with
 | [x],h=>exact⟨x,rfl,h⟩
 | [x,y],h=>have h:b12 b x y=.ok d:=h;rw[hb]at h;cases h
 | [],h=>cases h
 |_::_::_::_,h=>cases h
theorem jV{x r:D}{k:List D->R D}(h:dH x k=.ok r):∃xs,x=.lst xs/\k xs=.ok r:=by
 cases x with
 |lst xs=>exact⟨xs,rfl,h⟩
 |_=>cases h
theorem EW{x r:D}{f:Int->R D}{q:Bool->R D}(h:ibR x f q=.ok r):(∃i,x=.int i/\f i=.ok r)\/(∃b,x=.bl b/\q b=.ok r):=by
 cases x with
 |int i=>exact .inl ⟨i,rfl,h⟩
 |bl i=>exact .inr ⟨i,rfl,h⟩
 |_=>cases h
theorem oA{x y r:D}{k:Int->Int->R D}(h:iiR x y k=.ok r):∃i j,x=.int i/\y=.int j/\k i j=.ok r:=by
 cases x with
 |int i=>
  cases y with
  |int j=>exact⟨i,j,rfl,rfl,h⟩
  |_=>cases h
 |_=>cases h
theorem i8{α β:Type}{o:Option α}{k:α->R β}{r:β}(h:zW o k=.ok r):∃a,o=some a/\k a=.ok r:=by
 cases o with
 |some a=>exact⟨a,rfl,h⟩
 |none=>cases h
theorem vq{b:B1}{ds:List D}{d:D}{q:List D->R D}(h:b1 b ds=.ok d)(e:∀x,b1 b [x]=zW (seq? x) q)(n:ds.length≠1->b1 b ds=.no):∃x xs,ds=[x]/\seq? x=some xs/\q xs=.ok d:=by
 match ds with
 | []=>rw[n (by simp)]at h;cases h
 | [x]=>
  rw[e]at h;cases z:seq? x with
  |none=>rw[z]at h;cases h
  |some xs=>rw[z]at h;exact⟨x,xs,rfl,z,h⟩
 |x::y::r=>rw[n (by simp)]at h;cases h
theorem Cp(hK:X.K=g.K):zv X (.builtin "len") (rB1 g .len):=fW (Cj.or uC) λS ds d vs H Q hs rs h q=>by
 obtain⟨x,rfl,h'⟩:=iw (λ_ _=>rfl) h;cases rs with
 |cons r rs=>
  cases rs;by_cases hx:∃z,x=.str z
  ·obtain⟨z,rfl⟩:=hx;have h':(if z.length<=SZ then R.ok (D.int z.length)else .no)=R.ok d:=h';split at h'
   ·rename_i hz
    cases h';cases r.rep;exact .inr ⟨z,rfl,gJ hz,q _ _ (qh.refl _) (.int _) (by simp)⟩
   ·cases h'
  ·have h':(zW (seq? x) λxs=>R.ok (D.int xs.length))=R.ok d:=by cases x<;>first|exact absurd ⟨_,rfl⟩ hx|exact h'
   obtain⟨xs,e,h2⟩:=i8 h';cases h2;obtain⟨a,us,rfl,h1,r1⟩:=r.seq e;exact .inl ⟨a,us,rfl,by rw[hK];exact h1,by rw[<-r1.length];exact q _ _ (qh.refl _) (.int _) (by simp)⟩
theorem AE(hK:X.K=g.K):zv X (.type "tuple") (rB1 g .tuple):=fW C_ λS ds d vs H Q hs rs h q=>by
 obtain⟨x,xs,rfl,e,h⟩:=vq (q:=λxs=>.ok (.tup xs)) h (λ_=>rfl) (λn=>by match ds,n with | [],_=>rfl | [_,_],_=>rfl|_::_::_::_,_=>rfl);cases h;cases rs with
 |cons r rs=>
  cases rs;cases x with
  |lst ys=>
   cases e;obtain⟨a,us,rfl,h1,r1⟩:=r.lst;exact⟨a,us,rfl,.inl ⟨by rw[hK];exact h1,λp hp=>q _ _ (zx hp) (fP hs hp r1) (by simp)⟩⟩
  |tup ys=>
   cases e;have z:=r.strong (by intro _ z;cases z);obtain⟨a,us,rfl,h1,r1⟩:=r.tup;exact⟨a,us,rfl,.inr ⟨by rw[hK];exact h1,q _ _ (qh.refl _) z (by simp)⟩⟩
  |_=>cases e
theorem Ce(hK:X.K=g.K):zv X (.type "list") (rB1 g .list):=kh (λ_=>rfl) λ_ _=>rfl
theorem Dx(hc:X.calm=true)(al:Bool):zv X (.builtin (if al then "all" else "any")) (λxs H Q=>∃(l:Addr) (bs:List Bool),xs=[.ref l]/\SqL X.K H l (bs.map V.bl)/\Q (.bl (if al then bs.all id else bs.any id)) H):=by
 intro pins s σ H xs us Q I r h;obtain⟨l,bs,rfl,hl,q⟩:=h;obtain⟨u,rfl,ru⟩:=r.one;cases ru;obtain⟨its,rv,pl,hz⟩:=I.list hl;have e:=lq (A:=X.A) rv;subst e;have hlt:l<s.heap.objs.size:=by obtain⟨_,e,_⟩:=pl.isList;exact aI e
 have tr:TruthOf X.prog X.w X.A.in1 (λi v=>(bs.map bH).toArray[i]? = some v) (λi=>(bs[i]?).getD al):=λi v s' Q' E' hP hQ=>by
  have hv:(bs.map bH)[i]? = some v:=by simpa using hP
  rw[List.getElem?_map]at hv;cases e:bs[i]? with
  |none=>rw[e]at hv;cases hv
  |some b=>
   rw[e]at hv;cases hv;simp only[e,Option.getD_some]at hQ;exact bJ hQ
 have wk:=Walks.list (prog:=X.prog) (w:=X.w) (A:=X.A.in1) (I.ok.hd hc) s.heap.objs.size l (a7 hlt) (bs.map bH).toArray;cases al with
 |true=>
  refine call_all_walk (wpAny_pyIter_list pl.isList ?_);refine⟨s.heap.objs.size,[s.heap.objs.size,l],[s.heap.objs.size],_,_,_,_,rfl,wk,⟨⟨_,Heap.get?_push_size _ rfl,rfl,rfl⟩,pl.isList.push _⟩,tr,λh' tk hk=>?_⟩;have e:((a_ (bs.map bH).toArray.size).all λi=>(bs[i]?).getD true)=bs.all id:=by
   rw[aP,aQ];exact LSm.range_all bs
  rw[e];exact⟨.bl _,H,I.kept (LSm.kept_iter hk),rfl,q⟩
 |false=>
  refine call_any_walk (wpAny_pyIter_list pl.isList ?_);refine⟨s.heap.objs.size,[s.heap.objs.size,l],[s.heap.objs.size],_,_,_,_,rfl,wk,⟨⟨_,Heap.get?_push_size _ rfl,rfl,rfl⟩,pl.isList.push _⟩,tr,λh' tk hk=>?_⟩;have e:((a_ (bs.map bH).toArray.size).any λi=>(bs[i]?).getD false)=bs.any id:=by
   rw[aP,aQ,Bool.eq_iff_iff];simp only[List.any_eq_true,List.mem_range,id];constructor
   ·rintro⟨i,hi,e⟩;rw[List.getElem?_eq_getElem hi]at e;exact⟨_,dC hi,e⟩
   ·rintro⟨b,hb,e⟩;obtain⟨i,hi,rfl⟩:=List.getElem_of_mem hb;exact⟨i,hi,by rw[List.getElem?_eq_getElem hi];exact e⟩
  rw[e];exact⟨.bl _,H,I.kept (LSm.kept_iter hk),rfl,q⟩
theorem nG(hK:X.K=g.K)(hc:X.calm=true)(al:Bool):zv X (.builtin (if al then "all" else "any")) (rB1 g (if al then .all else .any)):=fW (Dx hc al) λS ds d vs H Q hs rs h q=>by
 obtain⟨xs,bs,rfl,e,rfl⟩:∃xs bs,ds=[.lst xs]/\bools? xs=some bs/\d=.bl (if al then bs.all id else bs.any id):=by
  cases al
  ·obtain⟨x,rfl,h'⟩:=iw (λ_ _=>rfl) h;obtain⟨xs,rfl,h'⟩:=jV h';obtain⟨bs,e,h'⟩:=i8 h';cases h';exact⟨xs,bs,rfl,e,rfl⟩
  ·obtain⟨x,rfl,h'⟩:=iw (λ_ _=>rfl) h;obtain⟨xs,rfl,h'⟩:=jV h';obtain⟨bs,e,h'⟩:=i8 h';cases h';exact⟨xs,bs,rfl,e,rfl⟩
 cases rs with
 |cons r rs=>
  cases rs;obtain⟨a,us,rfl,h1,r1⟩:=r.lst;have e2:=r1.bools e;subst e2;exact⟨a,bs,rfl,by rw[hK];exact h1,q _ _ (qh.refl _) (.bl _) (by cases al<;>simp)⟩
end
end EV
namespace TS
open PySem PyProof.Rows
structure Cmp(prog:aB)(w:aw)(A:aC)(s:af)(κ:SortKind)(D:aD->Prop)(LT:aD->aD->Bool):Prop where
 lt:∀x y,D x->D y->∀Q:Bool->af->Prop,Q (LT x y) s->ah (ak prog w) A (keyLt' κ x.1 y.1) Q (λ_ _=>False) s
 asym:∀x y,LT x y=true->LT y x=false
 neg:∀x y z,LT y x=false->LT z y=false->LT z x=false
section
variable{prog:aB}{w:aw}{A:aC}{E:ae->af->Prop}{s:af}{κ:SortKind}{D:aD->Prop}{LT:aD->aD->Bool}
theorem mK{arr:Array aD}{i:Nat}{x:aD}{Q:aD->bg->Prop}{st:bg}(hx:arr[i]? = some x)(h:Q x st):wpS (ak prog w) A E s (elem' arr i) Q st:=by
 rw[elem'_eq,hx];exact aX h
theorem yO(C:Cmp prog w A s κ D LT){x y:aD}(hx:D x)(hy:D y){Q:Option Bool->bg->Prop}{st:bg}(hk:kindOf st=κ)(h:Q (some (LT x y)) st):wpS (ak prog w) A E s (lt' x y) Q st:=by
 rw[lt'_eq];refine aN (wpS_get ?_);rw[hk];refine aN (wpS_lift (wpAny_attempt (bT (C.lt x y hx hy (λb s'=>s'=s/\b=LT x y) ⟨rfl,rfl⟩) (λb s' hb=>?_) λ_ _ z=>z.elim)));obtain⟨rfl,rfl⟩:=hb;exact⟨rfl,aX h⟩
end
structure Wo(LT:aD->aD->Bool):Prop where
 asym:∀x y,LT x y=true->LT y x=false
 neg:∀x y z,LT y x=false->LT z y=false->LT z x=false
section
variable{LT:aD->aD->Bool}
theorem Wo.irr(W:Wo LT)(x:aD):LT x x=false:=by
 cases h:LT x x with
 |false=>rfl
 |true=>have:=W.asym x x h;rw[h]at this;cases this
theorem Wo.lt_le(W:Wo LT){x y z:aD}(h1:LT x y=true)(h2:LT z y=false):LT x z=true:=by
 cases h:LT x z with
 |true=>rfl
 |false=>have:=W.neg y z x h2 h;rw[h1]at this;cases this
abbrev df:Keyed:=(bP,bP)
noncomputable def at'(a:Array aD)(i:Nat):Keyed:=a.getD i df
theorem ip{a:Array aD}{i:Nat}(h:i<a.size):a[i]? = some (at' a i):=by
 unfold at' Array.getD;rw[dif_pos h];exact Array.getElem?_eq_getElem h
theorem vV{a:Array aD}{i:Nat}(h:i<a.size):at' a i∈a.toList:=by
 have:=ip h;rw[<-Array.getElem?_toList]at this;exact List.mem_of_getElem? this
variable{a b out:Array aD}{ia ib:Nat}
end
section
variable{prog:aB}{w:aw}{A:aC}{E:ae->af->Prop}{s:af}{κ:SortKind}{D:aD->Prop}{LT:aD->aD->Bool}
end
section
variable{LT:aD->aD->Bool}
variable{a b out:Array aD}{na nb:Nat}
end
section
variable{prog:aB}{w:aw}{A:aC}{E:ae->af->Prop}{s:af}{κ:SortKind}{D:aD->Prop}{LT:aD->aD->Bool}
end
structure Rk(D:aD->Prop)(LT:aD->aD->Bool)(R:aD->Int):Prop where
 rk:∀x y,D x->D y->LT x y=decide (R x<R y)
structure SB(κ:SortKind)(p:Array (Nat×Nat×Nat))(a₁:Array aD)(lo:Nat)(st:bg):Prop where
 kd:kindOf st=κ
 fl:failedOf st=none
 pn:pendingOf st=p
 pm:(au st).Perm a₁
 lw:∀i,i<lo->at' (au st) i=at' a₁ i
noncomputable def Kr(R:aD->Int)(xs:Array aD)(i:Nat):Int:=R (at' xs i)
noncomputable def Seg(R:aD->Int)(xs:Array aD)(lo n:Nat):Prop:=∀i j,i<=j->j<n->Kr R xs (lo+i)<=Kr R xs (lo+j)
noncomputable def Dsc(R:aD->Int)(xs:Array aD)(lo n:Nat):Prop:=∀i j,i<=j->j<n->Kr R xs (lo+j)<=Kr R xs (lo+i)
theorem iu{xs ys:Array aD}{i j:Nat}(h:xs[i]? = ys[j]?):at' xs i=at' ys j:=by
 unfold at';rw[Array.getD_eq_getD_getElem?,Array.getD_eq_getD_getElem?,h]
theorem o9{xs:Array aD}{src d:Nat}(hs:src<xs.size)(hd:d<=src)(k:Nat) :
  at' (bubble xs src d) k=if k=src-d then at' xs src else if src-d<k/\k<=src then at' xs (k-1)else at' xs k:=by
 have e:=getElem?_bubble hs d hd k;by_cases h1:k=src-d
 ·rw[if_pos h1]at e ⊢;exact iu e
 ·rw[if_neg h1]at e ⊢;by_cases h2:src-d<k/\k<=src
  ·rw[if_pos h2]at e ⊢;exact iu e
  ·rw[if_neg h2]at e ⊢;exact iu e
theorem pG{xs:Array aD}{i j:Nat}(hj:j<=xs.size)(k:Nat) :
  at' (aS xs i j ((j-i)/2)) k=if i<=k/\k<j then at' xs (i+j-1-k)else at' xs k:=by
 have e:=getElem?_mirror_all (i:=i) hj k;by_cases h1:i<=k/\k<j
 ·rw[if_pos h1]at e ⊢;exact iu e
 ·rw[if_neg h1]at e ⊢;exact iu e
section
variable{prog:aB}{w:aw}{A:aC}{E:ae->af->Prop}{s:af}{κ:SortKind}{D:aD->Prop}{LT:aD->aD->Bool}{R:aD->Int}{p:Array (Nat×Nat×Nat)}{a₁:Array aD}{lo:Nat}
theorem rE{xs:Array aD}{src d:Nat}(hs:src<xs.size)(hd:d<=src)(k:Nat) :
  Kr R (bubble xs src d) k=if k=src-d then Kr R xs src else if src-d<k/\k<=src then Kr R xs (k-1)else Kr R xs k:=by
 unfold Kr;rw[o9 hs hd];repeat' split
 all_goals rfl
theorem kC{xs:Array aD}{i j:Nat}(hj:j<=xs.size)(k:Nat) :
  Kr R (aS xs i j ((j-i)/2)) k=if i<=k/\k<j then Kr R xs (i+j-1-k)else Kr R xs k:=by
 unfold Kr;rw[pG hj];split
 all_goals rfl
theorem jq{xs:Array aD}{i j:Nat}(hj:j<=xs.size)(heq:∀k,i<=k->k<j->Kr R xs k=Kr R xs (j-1))(k:Nat) :
  Kr R (aS xs i j ((j-i)/2)) k=Kr R xs k:=by
 rw[kC hj];split
 ·rw[heq _ (by lia) (by lia),heq k (by lia) (by lia)]
 ·rfl
theorem SB.size{st:bg}(h:SB κ p a₁ lo st):(au st).size=a₁.size:=h.pm.size_eq
theorem SB.dom{st:bg}(h:SB κ p a₁ lo st)(Da:∀x∈a₁.toList,D x){i:Nat}(hi:i<a₁.size):D (at' (au st) i):=
 Da _ ((Array.perm_iff_toList_perm.mp h.pm).mem_iff.mp (vV (by rw[h.size];exact hi)))
theorem SB.setArr{st:bg}(h:SB κ p a₁ lo st){xs:Array aD}(hp:xs.Perm (au st))(hl:∀i,i<lo->at' xs i=at' (au st) i):SB κ p a₁ lo (setArr st xs):=
 ⟨h.kd,h.fl,h.pn,hp.trans h.pm,λi hi=>(hl i hi).trans (h.lw i hi)⟩
theorem SB.mir{st:bg}(h:SB κ p a₁ lo st){i j:Nat}(hi:lo<=i)(hj:j<=a₁.size):SB κ p a₁ lo (PyProof.Rows.setArr st (aS (au st) i j ((j-i)/2))):=
 h.setArr (mirror_perm _ _ _ _) λk hk=>by
  rw[pG (by rw[h.size];exact hj),if_neg (by lia)]
theorem eF{st:bg}{i j:Nat}{Q:Option Bool->bg->Prop}(C:Cmp prog w A s κ D LT)(K:Rk D LT R)(Da:∀x∈a₁.toList,D x)(hB:SB κ p a₁ lo st)(hi:i<a₁.size)(hj:j<a₁.size)
  (h:Q (some (decide (Kr R (au st) i<Kr R (au st) j))) st):wpS (ak prog w) A E s (ltAt' i j) Q st:=by
 rw[ltAt'_eq];refine aN (wpS_get ?_);refine aN (mK (ip (by rw[hB.size];exact hi)) ?_);refine aN (mK (ip (by rw[hB.size];exact hj)) ?_);refine yO C (hB.dom Da hi) (hB.dom Da hj) hB.kd ?_;rw[K.rk _ _ (hB.dom Da hi) (hB.dom Da hj)];exact h
structure Hf(R:aD->Int)(xs:Array aD)(lo k x l r:Nat):Prop where
 lr:l<=r
 rk:r<=k
 fu:r-l+x<=k
 low:∀i,lo<=i->i<lo+l->Kr R xs i<=Kr R xs (lo+k)
 upp:∀i,lo+r<=i->i<lo+k->Kr R xs (lo+k)<Kr R xs i
theorem Seg.at{xs:Array aD}{n:Nat}(S:Seg R xs lo n){i j:Nat}(a:lo<=i)(b:i<=j)(c:j<lo+n):Kr R xs i<=Kr R xs j:=by
 have z:=S (i-lo) (j-lo) (by lia) (by lia)
 rwa[Nat.add_sub_cancel' a,Nat.add_sub_cancel' (bf a b)]at z
theorem Hf.go{xs:Array aD}{k x l r:Nat}(h:Hf R xs lo k x l r)(S:Seg R xs lo k)(hl:l<r) :
  (Kr R xs (lo+k)<Kr R xs (lo+(l+r)/2)->Hf R xs lo k (x+1) l ((l+r)/2))/\(¬ Kr R xs (lo+k)<Kr R xs (lo+(l+r)/2)->Hf R xs lo k (x+1) ((l+r)/2+1) r):=by
 have:=h.rk;have:=h.fu;refine⟨λz=>⟨by lia,by lia,by lia,h.low,λi a b=>Int.lt_of_lt_of_le z (S.at (by lia) a (by lia))⟩,λz=>⟨by lia,h.rk,by lia,λi a b=>?_,h.upp⟩⟩;have:=S.at (i:=i) (j:=lo+(l+r)/2) a (by lia) (by lia);lia
theorem Hf.put{xs:Array aD}{k x l:Nat}(h:Hf R xs lo k x l l)(hk:lo+k<xs.size)(S:Seg R xs lo k) :
  Seg R (bubble xs (lo+k) (lo+k-(lo+l))) lo (k+1)/\∀i,i<lo->at' (bubble xs (lo+k) (lo+k-(lo+l))) i=at' xs i:=by
 have:=h.rk;have e:lo+k-(lo+k-(lo+l))=lo+l:=by lia
 refine⟨λi j hij hj=>?_,λi hi=>by rw[o9 hk (by lia),if_neg (by lia),if_neg (by lia)]⟩;rw[rE hk (by lia),rE hk (by lia),e];by_cases ai:lo+i=lo+l<;>by_cases aj:lo+j=lo+l<;>by_cases bi:lo+l<lo+i/\lo+i<=lo+k<;>by_cases bj:lo+l<lo+j/\lo+j<=lo+k<;>simp only[ai,aj,bi,bj,if_true,if_false,and_self]<;>first
  | (exfalso;lia)
  |lia
  |exact h.low _ (by lia) (by lia)
  |exact Int.le_of_lt (h.upp _ (by lia) (by lia))
  |exact S.at (by lia) (by lia) (by lia)
theorem we(C:Cmp prog w A s κ D LT)(K:Rk D LT R)(Da:∀x∈a₁.toList,D x){st:bg}{n ok:Nat}{Q:Bool->bg->Prop}(hn:lo+n<=a₁.size)(hok:ok<=n)(hB:SB κ p a₁ lo st)(hs:Seg R (au st) lo ok)
  (h:∀st',SB κ p a₁ lo st'->Seg R (au st') lo n->Q true st'):wpS (ak prog w) A E s (binarySort' lo n ok) Q st:=by
 rw[binarySort'_eq];have seg1:Seg R (au st) lo (min (max ok 1) n):=λi j a b=>by
  by_cases z:ok=0
  ·rw[show i=j by lia];exact Int.le_refl _
  ·exact hs i j a (by lia)
 refine aN (wpS_mono (wpS_forRange (λk c t=>c=(none,())/\SB κ p a₁ lo t/\Seg R (au t) lo (min k n)) (Q:=λc t=>c=(none,())/\SB κ p a₁ lo t/\Seg R (au t) lo n) ?_ ?_ ⟨rfl,hB,seg1⟩) λc t ⟨e,b,z⟩=>by rw[e];exact aX (h t b z))
 ·rintro k c t k1 k2 ⟨rfl,B,S⟩;rw[Nat.min_eq_left (Nat.le_of_lt k2)]at S;have kz:lo+k<a₁.size:=by lia
  have kz':lo+k<(au t).size:=by rw[B.size];exact kz
  refine aN (wpS_mono (wpS_forRange (λx c u=>u=t/\∃l r,c=(none,l,r)/\Hf R (au t) lo k x l r) (Q:=λc u=>u=t/\∃x l,c=(none,l,l)/\Hf R (au t) lo k x l l) ?_ ?_ ⟨rfl,0,k,rfl,bu _,aE _,by lia,λi a b=>by lia,λi a b=>by lia⟩) ?_)
  ·rintro x c u _ x2 ⟨rfl,l,r,rfl,f⟩;dsimp only;have:=f.lr;by_cases z:l >= r
   ·rw[if_pos z];obtain rfl:l=r:=by lia
    exact aX ⟨rfl,x,l,rfl,f⟩
   rw[if_neg z];have:=f.rk;refine aN (eF C K Da B kz (by lia) ?_);obtain⟨g1,g2⟩:=f.go S (by lia);cases q:decide (Kr R (au u) (lo+k)<Kr R (au u) (lo+(l+r)/2))with
   |true=>exact aX ⟨rfl,_,_,rfl,g1 (of_decide_eq_true q)⟩
   |false=>exact aX ⟨rfl,_,_,rfl,g2 (of_decide_eq_false q)⟩
  ·rintro c u ⟨rfl,l,r,rfl,f⟩;have:=f.lr;have:=f.fu;obtain rfl:l=r:=by lia
   exact⟨rfl,_,l,rfl,f⟩
  ·rintro c u ⟨rfl,x,l,rfl,f⟩;obtain⟨g1,g2⟩:=f.put kz' S;dsimp only;rw[moveDown'_eq];refine aN (wpS_modify (aX ⟨rfl,B.setArr (bubble_perm _ _ _) g2,?_⟩));rw[Nat.min_eq_left k2];exact g1
 ·rintro c t ⟨e,b,z⟩;rw[show min (max (max ok 1) n) n=n by lia]at z;exact⟨e,b,z⟩
end
section
variable{prog:aB}{w:aw}{A:aC}{E:ae->af->Prop}{s:af}{κ:SortKind}{D:aD->Prop}{LT:aD->aD->Bool}{R:aD->Int}{p:Array (Nat×Nat×Nat)}{a₁:Array aD}{lo:Nat}{xs:Array aD}
theorem Seg.one:Seg R xs lo 1:=λi j a b=>by rw[show i=j by lia];exact Int.le_refl _
theorem Seg.more{n:Nat}(S:Seg R xs lo n)(z:1<=n->Kr R xs (lo+n-1)<=Kr R xs (lo+n)):Seg R xs lo (n+1):=λi j a b=>by
 by_cases c:j=n
 ·subst c;by_cases d:i=j
  ·rw[d];exact Int.le_refl _
  ·have y:=S i (j-1) (by lia) (by lia);rw[show lo+(j-1)=lo+j-1 by lia]at y;exact Int.le_trans y (z (by lia))
 ·exact S i j a (by lia)
theorem Dsc.one:Dsc R xs lo 1:=λi j a b=>by rw[show i=j by lia];exact Int.le_refl _
theorem Dsc.more{n:Nat}(S:Dsc R xs lo n)(z:1<=n->Kr R xs (lo+n)<=Kr R xs (lo+n-1)):Dsc R xs lo (n+1):=λi j a b=>by
 by_cases c:j=n
 ·subst c;by_cases d:i=j
  ·rw[d];exact Int.le_refl _
  ·have y:=S i (j-1) (by lia) (by lia);rw[show lo+(j-1)=lo+j-1 by lia]at y;exact Int.le_trans (z (by lia)) y
 ·exact S i j a (by lia)
theorem Dsc.alike{ys:Array aD}{n:Nat}(S:Dsc R xs lo n)(e:∀k,Kr R ys k=Kr R xs k):Dsc R ys lo n:=λi j a b=>by rw[e,e];exact S i j a b
theorem iq{st:bg}{a nrem:Nat}{β:Type}{mk:Nat->β}{Q:β->bg->Prop}(hn:lo+nrem<=a₁.size)(ha:1<=a)(han:a<=nrem)(S0:Seg R (au st) lo a)
  {body:Nat->β->StateT bg Sem (ForInStep β)}
  (hb:∀x n (Q':ForInStep β->bg->Prop),lo+n<a₁.size->1<=n->(Kr R (au st) (lo+n)<Kr R (au st) (lo+n-1)->Q' (.done (mk n)) st)->(¬ Kr R (au st) (lo+n)<Kr R (au st) (lo+n-1)->Q' (.yield (mk (n+1))) st)->wpS (ak prog w) A E s (body x (mk n)) Q' st)
  (h:∀n,a<=n->n<=nrem->Seg R (au st) lo n->(n≠nrem->Kr R (au st) (lo+n)<Kr R (au st) (lo+n-1))->Q (mk n) st) :
  wpS (ak prog w) A E s (forIn [a:nrem] (mk a) body) Q st:=
 wpS_forRange (λx c t=>t=st/\c=mk x/\Seg R (au st) lo x) (λx c t x1 x2 ⟨e1,e2,S⟩=>by
   subst e1 e2;exact hb x x _ (by lia) (by lia) (λz=>h x x1 (by lia) S λ_=>z) λz=>⟨rfl,rfl,S.more λ_=>by lia⟩)
  (λc t ⟨e1,e2,S⟩=>by
   subst e1 e2;rw[Nat.max_eq_right han]at S ⊢;exact h nrem han (aE _) S λz=>absurd rfl z) ⟨rfl,rfl,S0⟩
theorem Dsc.turn{n:Nat}(S:Dsc R xs lo n)(hz:lo+n<=xs.size):Seg R (aS xs lo (lo+n) ((lo+n-lo)/2)) lo n:=λi j a b=>by
 have y:=S (n-1-j) (n-1-i) (by lia) (by lia);rw[show lo+(n-1-j)=lo+(lo+n)-1-(lo+j)by lia,show lo+(n-1-i)=lo+(lo+n)-1-(lo+i)by lia]at y
 rwa[kC hz,kC hz,if_pos ⟨by lia,by lia⟩,if_pos ⟨by lia,by lia⟩]
noncomputable def Flat(R:aD->Int)(xs:Array aD)(lo m neq:Nat):Prop:=∀i,lo+m-(neq+1)<=i->i<lo+m->Kr R xs i=Kr R xs (lo+m-1)
theorem Flat.zero{m:Nat}:Flat R xs lo m 0:=λi a b=>by rw[show i=lo+m-1 by lia]
theorem Flat.more{m neq:Nat}(f:Flat R xs lo m neq)(z:Kr R xs (lo+m)=Kr R xs (lo+m-1)):Flat R xs lo (m+1) (neq+1):=λi a b=>by
 rw[show lo+(m+1)-1=lo+m by lia];by_cases c:i=lo+m
 ·rw[c]
 ·rw[z];exact f i (by lia) (by lia)
theorem sO{st:bg}{n nrem:Nat}{β:Type}{mk:Nat->Nat->β}{Q:β->bg->Prop}(hn:lo+nrem<=a₁.size)(h1:1<=n)(hnn:n<=nrem)(B0:SB κ p a₁ lo st)(S0:Dsc R (au st) lo n)
  {body:Nat->β->StateT bg Sem (ForInStep β)}
  (hb:∀x n neq t (Q':ForInStep β->bg->Prop),SB κ p a₁ lo t->lo+n<a₁.size->1<=n ->
   (Kr R (au t) (lo+n)<Kr R (au t) (lo+n-1)->neq>0->Q' (.yield (mk (n+1) 0)) (setArr t (aS (au t) (lo+n-(neq+1)) (lo+n) ((lo+n-(lo+n-(neq+1)))/2)))) ->
   (Kr R (au t) (lo+n)<Kr R (au t) (lo+n-1)->¬ neq>0->Q' (.yield (mk (n+1) 0)) t) ->
   (Kr R (au t) (lo+n-1)<Kr R (au t) (lo+n)->Q' (.done (mk n neq)) t) ->
   (Kr R (au t) (lo+n)=Kr R (au t) (lo+n-1)->Q' (.yield (mk (n+1) (neq+1))) t) ->
   wpS (ak prog w) A E s (body x (mk n neq)) Q' t)
  (h:∀m neq t,SB κ p a₁ lo t->n<=m->m<=nrem->Dsc R (au t) lo m->neq+1<=m->Flat R (au t) lo m neq->Q (mk m neq) t) :
  wpS (ak prog w) A E s (forIn [n:nrem] (mk n 0) body) Q st:=
 wpS_forRange (λx c t=>∃neq,c=mk x neq/\SB κ p a₁ lo t/\Dsc R (au t) lo x/\neq+1<=x/\Flat R (au t) lo x neq) (λx c t x1 x2 ⟨neq,e,B,S,q,f⟩=>by
   subst e;have hz:lo+x<=(au t).size:=by rw[B.size];lia
   refine hb x x neq t _ B (by lia) (by lia) (λz _=>?_) (λz _=>?_) (λ_=>h x neq t B x1 (by lia) S q f) λz=>⟨neq+1,rfl,B,S.more λ_=>Int.le_of_eq z,by lia,f.more z⟩
   ·exact⟨0,rfl,B.mir (by lia) (by lia),(S.more λ_=>Int.le_of_lt z).alike (jq hz f),by lia,Flat.zero⟩
   ·exact⟨0,rfl,B,S.more λ_=>Int.le_of_lt z,by lia,Flat.zero⟩)
  (λc t ⟨neq,e,B,S,q,f⟩=>by
   subst e;rw[Nat.max_eq_right hnn]at S q f ⊢;exact h nrem neq t B hnn (aE _) S q f) ⟨0,rfl,B0,S0,by lia,Flat.zero⟩
theorem Au(C:Cmp prog w A s κ D LT)(K:Rk D LT R)(Da:∀x∈a₁.toList,D x){st:bg}{nrem:Nat}{Q:Option Nat->bg->Prop}(hn:lo+nrem<=a₁.size)(h1:1<=nrem)(hB:SB κ p a₁ lo st)
  (h:∀m st',SB κ p a₁ lo st'->1<=m->m<=nrem->Seg R (au st') lo m->Q (some m) st') :
  wpS (ak prog w) A E s (countRun' lo nrem) Q st:=by
 rw[countRun'_eq];refine aN (iq (R:=R) (mk:=λn=>(none,n)) hn (aE 1) h1 Seg.one ?_ ?_)
 ·intro x n Q' hl n1 q1 q2;dsimp only;refine aN (eF C K Da (hB) hl (by lia) ?_);cases z:decide (Kr R (au st) (lo+n)<Kr R (au st) (lo+n-1))with
  |true=>exact aX (q1 (of_decide_eq_true z))
  |false=>exact aX (q2 (of_decide_eq_false z))
 intro n n1 n2 S z;dsimp only;by_cases e:(n==nrem)=true
 ·rw[if_pos e];exact aX (h n st hB n1 n2 S)
 rw[if_neg e];have e':n≠nrem:=by simpa using e
 have lt:=z e';have hz:lo+n<=(au st).size:=by rw[hB.size];lia
 by_cases g:n>1
 ·rw[if_pos g];refine aN (eF C K Da hB (by lia) (by lia) ?_);cases y:decide (Kr R (au st) lo<Kr R (au st) (lo+n-1))with
  |true=>exact aX (h n st hB n1 n2 S)
  |false=>
   have y':=of_decide_eq_false y;have f:∀k,lo<=k->k<lo+n->Kr R (au st) k=Kr R (au st) (lo+n-1):=λk a b=>by
    have b1:=S.at (i:=lo) (j:=k) (aE _) a b;have b2:=S.at (i:=k) (j:=lo+n-1) a (by lia) (by lia);lia
   dsimp only;rw[if_neg cf];refine aN (wpS_reverse ?_);have dB:SB κ p a₁ lo (setArr st (aS (au st) lo (lo+n) ((lo+n-lo)/2))):=hB.mir (aE _) (by lia);have dS:Dsc R (au (setArr st (aS (au st) lo (lo+n) ((lo+n-lo)/2)))) lo (n+1):=Dsc.alike (xs:=au st) (Dsc.more (λi j a b=>by rw[f (lo+i) (by lia) (by lia),f (lo+j) (by lia) (by lia)];exact Int.le_refl _) λ_=>Int.le_of_lt lt) (jq hz f);refine aN (wpS_lift (wpAny_rule ⟨rfl,?_⟩));refine aN (sO (mk:=λn q=>(none,n,q)) hn (by lia) (by lia) (dB) dS ?_ ?_)
   ·intro x n neq t Q' tB hl n1 q1 q2 q3 q4;dsimp only;refine aN (eF C K Da tB hl (by lia) ?_);cases z:decide (Kr R (au t) (lo+n)<Kr R (au t) (lo+n-1))with
    |true=>
     by_cases y:neq>0
     ·dsimp only;rw[if_pos rfl,if_pos y];exact aN (wpS_reverse (aX (q1 (of_decide_eq_true z) y)))
     ·dsimp only;rw[if_pos rfl,if_neg y];exact aX (q2 (of_decide_eq_true z) y)
    |false=>
     have z':=of_decide_eq_false z;refine aN (eF C K Da tB (by lia) hl ?_);cases y:decide (Kr R (au t) (lo+n-1)<Kr R (au t) (lo+n))with
     |true=>exact aX (q3 (of_decide_eq_true y))
     |false=>
      have y':=of_decide_eq_false y;exact aX (q4 (by lia))
   ·intro m neq t tB m1 m2 tS nm f;have hz:lo+m<=(au t).size:=by rw[tB.size];lia
    dsimp only;by_cases y:neq>0
    ·rw[if_pos y];refine aN (wpS_reverse ?_);have MB:SB κ p a₁ lo (setArr t (aS (au t) (lo+m-(neq+1)) (lo+m) ((lo+m-(lo+m-(neq+1)))/2))):=tB.mir (by lia) (by lia);have MS:Dsc R (au (setArr t (aS (au t) (lo+m-(neq+1)) (lo+m) ((lo+m-(lo+m-(neq+1)))/2)))) lo m:=tS.alike (jq hz f);refine aN (wpS_reverse ?_);have TB:SB κ p a₁ lo (setArr (setArr t (aS (au t) (lo+m-(neq+1)) (lo+m) ((lo+m-(lo+m-(neq+1)))/2))) (aS (au (setArr t (aS (au t) (lo+m-(neq+1)) (lo+m) ((lo+m-(lo+m-(neq+1)))/2)))) lo (lo+m) ((lo+m-lo)/2))):=(MB).mir (aE _) (by lia);refine aN (iq (R:=R) (mk:=λn=>(none,n)) hn (by lia) m2 (Dsc.turn (MS) (by show lo+m<=(au (setArr t (aS (au t) (lo+m-(neq+1)) (lo+m) ((lo+m-(lo+m-(neq+1)))/2)))).size;rw[(MB).size];lia)) ?_ ?_)
     ·intro x n Q' hl n1 q1 q2;dsimp only;refine aN (eF C K Da (TB) hl (by lia) ?_);cases z:decide (Kr R (au (setArr (setArr t (aS (au t) (lo+m-(neq+1)) (lo+m) ((lo+m-(lo+m-(neq+1)))/2))) (aS (au (setArr t (aS (au t) (lo+m-(neq+1)) (lo+m) ((lo+m-(lo+m-(neq+1)))/2)))) lo (lo+m) ((lo+m-lo)/2)))) (lo+n)<Kr R (au (setArr (setArr t (aS (au t) (lo+m-(neq+1)) (lo+m) ((lo+m-(lo+m-(neq+1)))/2))) (aS (au (setArr t (aS (au t) (lo+m-(neq+1)) (lo+m) ((lo+m-(lo+m-(neq+1)))/2)))) lo (lo+m) ((lo+m-lo)/2)))) (lo+n-1))with
      |true=>exact aX (q1 (of_decide_eq_true z))
      |false=>exact aX (q2 (of_decide_eq_false z))
     ·intro j j1 j2 j3 _;exact aX (h j _ TB (by lia) j2 j3)
    ·rw[if_neg y];refine aN (wpS_reverse ?_);have TB:SB κ p a₁ lo (setArr t (aS (au t) lo (lo+m) ((lo+m-lo)/2))):=(tB).mir (aE _) (by lia);refine aN (iq (R:=R) (mk:=λn=>(none,n)) hn (by lia) m2 (Dsc.turn (tS) (by show lo+m<=(au t).size;rw[(tB).size];lia)) ?_ ?_)
     ·intro x n Q' hl n1 q1 q2;dsimp only;refine aN (eF C K Da (TB) hl (by lia) ?_);cases z:decide (Kr R (au (setArr t (aS (au t) lo (lo+m) ((lo+m-lo)/2)))) (lo+n)<Kr R (au (setArr t (aS (au t) lo (lo+m) ((lo+m-lo)/2)))) (lo+n-1))with
      |true=>exact aX (q1 (of_decide_eq_true z))
      |false=>exact aX (q2 (of_decide_eq_false z))
     ·intro j j1 j2 j3 _;exact aX (h j _ TB (by lia) j2 j3)
 ·rw[if_neg g];obtain rfl:n=1:=by lia
  have dS:Dsc R (au st) lo (1+1):=Dsc.one.more λ_=>Int.le_of_lt lt
  refine aN (wpS_lift (wpAny_rule ⟨rfl,?_⟩));refine aN (sO (mk:=λn q=>(none,n,q)) hn (by lia) (by lia) (hB) dS ?_ ?_)
  ·intro x n neq t Q' tB hl n1 q1 q2 q3 q4;dsimp only;refine aN (eF C K Da tB hl (by lia) ?_);cases z:decide (Kr R (au t) (lo+n)<Kr R (au t) (lo+n-1))with
   |true=>
    by_cases y:neq>0
    ·dsimp only;rw[if_pos rfl,if_pos y];exact aN (wpS_reverse (aX (q1 (of_decide_eq_true z) y)))
    ·dsimp only;rw[if_pos rfl,if_neg y];exact aX (q2 (of_decide_eq_true z) y)
   |false=>
    have z':=of_decide_eq_false z;refine aN (eF C K Da tB (by lia) hl ?_);cases y:decide (Kr R (au t) (lo+n-1)<Kr R (au t) (lo+n))with
    |true=>exact aX (q3 (of_decide_eq_true y))
    |false=>
     have y':=of_decide_eq_false y;exact aX (q4 (by lia))
  ·intro m neq t tB m1 m2 tS nm f;have hz:lo+m<=(au t).size:=by rw[tB.size];lia
   dsimp only;by_cases y:neq>0
   ·rw[if_pos y];refine aN (wpS_reverse ?_);have MB:SB κ p a₁ lo (setArr t (aS (au t) (lo+m-(neq+1)) (lo+m) ((lo+m-(lo+m-(neq+1)))/2))):=tB.mir (by lia) (by lia);have MS:Dsc R (au (setArr t (aS (au t) (lo+m-(neq+1)) (lo+m) ((lo+m-(lo+m-(neq+1)))/2)))) lo m:=tS.alike (jq hz f);refine aN (wpS_reverse ?_);have TB:SB κ p a₁ lo (setArr (setArr t (aS (au t) (lo+m-(neq+1)) (lo+m) ((lo+m-(lo+m-(neq+1)))/2))) (aS (au (setArr t (aS (au t) (lo+m-(neq+1)) (lo+m) ((lo+m-(lo+m-(neq+1)))/2)))) lo (lo+m) ((lo+m-lo)/2))):=(MB).mir (aE _) (by lia);refine aN (iq (R:=R) (mk:=λn=>(none,n)) hn (by lia) m2 (Dsc.turn (MS) (by show lo+m<=(au (setArr t (aS (au t) (lo+m-(neq+1)) (lo+m) ((lo+m-(lo+m-(neq+1)))/2)))).size;rw[(MB).size];lia)) ?_ ?_)
    ·intro x n Q' hl n1 q1 q2;dsimp only;refine aN (eF C K Da (TB) hl (by lia) ?_);cases z:decide (Kr R (au (setArr (setArr t (aS (au t) (lo+m-(neq+1)) (lo+m) ((lo+m-(lo+m-(neq+1)))/2))) (aS (au (setArr t (aS (au t) (lo+m-(neq+1)) (lo+m) ((lo+m-(lo+m-(neq+1)))/2)))) lo (lo+m) ((lo+m-lo)/2)))) (lo+n)<Kr R (au (setArr (setArr t (aS (au t) (lo+m-(neq+1)) (lo+m) ((lo+m-(lo+m-(neq+1)))/2))) (aS (au (setArr t (aS (au t) (lo+m-(neq+1)) (lo+m) ((lo+m-(lo+m-(neq+1)))/2)))) lo (lo+m) ((lo+m-lo)/2)))) (lo+n-1))with
     |true=>exact aX (q1 (of_decide_eq_true z))
     |false=>exact aX (q2 (of_decide_eq_false z))
    ·intro j j1 j2 j3 _;exact aX (h j _ TB (by lia) j2 j3)
   ·rw[if_neg y];refine aN (wpS_reverse ?_);have TB:SB κ p a₁ lo (setArr t (aS (au t) lo (lo+m) ((lo+m-lo)/2))):=(tB).mir (aE _) (by lia);refine aN (iq (R:=R) (mk:=λn=>(none,n)) hn (by lia) m2 (Dsc.turn (tS) (by show lo+m<=(au t).size;rw[(tB).size];lia)) ?_ ?_)
    ·intro x n Q' hl n1 q1 q2;dsimp only;refine aN (eF C K Da (TB) hl (by lia) ?_);cases z:decide (Kr R (au (setArr t (aS (au t) lo (lo+m) ((lo+m-lo)/2)))) (lo+n)<Kr R (au (setArr t (aS (au t) lo (lo+m) ((lo+m-lo)/2)))) (lo+n-1))with
     |true=>exact aX (q1 (of_decide_eq_true z))
     |false=>exact aX (q2 (of_decide_eq_false z))
    ·intro j j1 j2 j3 _;exact aX (h j _ TB (by lia) j2 j3)
end
section
variable{prog:aB}{w:aw}{A:aC}{E:ae->af->Prop}{s:af}{κ:SortKind}{D:aD->Prop}{LT:aD->aD->Bool}{R:aD->Int}{a₁:Array aD}
structure Rdy(R:aD->Int)(a₁:Array aD)(st:bg):Prop where
 pm:(au st).Perm a₁
 fl:failedOf st=none
 sg:Seg R (au st) 0 a₁.size
 pn:(pendingOf st).size<=1
theorem SB.rdy{st:bg}(B:SB κ #[] a₁ 0 st)(S:Seg R (au st) 0 a₁.size):Rdy R a₁ (setPending st ((pendingOf st).push (0,a₁.size,0))):=
 ⟨B.pm,B.fl,S,by show ((pendingOf st).push _).size<=1;rw[B.pn];exact aE 1⟩
theorem DE(C:Cmp prog w A s κ D LT)(K:Rk D LT R)(Da:∀x∈a₁.toList,D x){st:bg}{Q:Unit->bg->Prop}(hk:kindOf st=κ)(hf:failedOf st=none)(hp:pendingOf st = #[])(ha:au st=a₁)(h2:2<=a₁.size)(h64:a₁.size<64)
  (h:∀st',(au st').Perm a₁->failedOf st'=none->Seg R (au st') 0 a₁.size->Q () st'):wpS (ak prog w) A E s sortRuns' Q st:=by
 have B0:SB κ #[] a₁ 0 st:=⟨hk,hf,hp,by rw[ha],λ_ _=>by rw[ha]⟩
 rw[sortRuns'_eq];refine aN (wpS_get ?_);dsimp only;rw[ha];have mr:minRun' a₁.size a₁.size 0=a₁.size:=by
  cases e:a₁.size with
  |zero=>lia
  |succ f=>rw[minRun'_succ,if_pos (by lia),Nat.add_zero]
 rw[mr];refine aN (wpS_mono (wpS_forRange
  (I:=λx c st'=>(c=(none,0)/\x=0/\SB κ #[] a₁ 0 st')\/(c=(none,a₁.size)/\Rdy R a₁ st'))
  (Q:=λc st'=>c=(none,a₁.size)/\Rdy R a₁ st') ?step ?fin (.inl ⟨rfl,rfl,B0⟩)) ?post)
 case fin=>
  rintro c st' (⟨_,hx,_⟩|q)
  ·lia
  ·exact q
 case step=>
  rintro x c st' _ hx (⟨rfl,rfl,B⟩|⟨rfl,q⟩)
  ·dsimp only;rw[if_neg (by lia)];refine aN (Au C K Da (by lia) (by lia) B λm st2 B2 m1 m2 S2=>?_);dsimp only;by_cases e3:m<a₁.size
   ·rw[if_pos e3];refine aN (wpS_lift (wpAny_rule ⟨rfl,?_⟩));refine aN (we C K Da (by lia) (by lia) B2 S2 λst3 B3 S3=>?_);simp only[bR,aR,if_false];refine aN (wpS_get ?_);rw[show (pendingOf st3).back? = none by rw[B3.pn];rfl];dsimp only;have e:min (a₁.size-0) a₁.size=a₁.size:=by lia
    rw[e]at S3 ⊢;exact aN (wpS_modify (aX (.inr ⟨by rw[Nat.zero_add],B3.rdy S3⟩)))
   ·rw[if_neg e3];have e:m=a₁.size:=by lia
    subst e;refine aN (wpS_get ?_);rw[show (pendingOf st2).back? = none by rw[B2.pn];rfl];dsimp only;exact aN (wpS_modify (aX (.inr ⟨by rw[Nat.zero_add],B2.rdy S2⟩)))
  ·dsimp only;rw[if_pos (by lia)];exact aX ⟨rfl,q⟩
 case post=>
  rintro c st' ⟨rfl,H⟩;dsimp only;refine aN (wpS_mono (wpS_forRange (I:=λx c st''=>c=(none,())/\Rdy R a₁ st'')
   (Q:=λc st''=>c=(none,())/\Rdy R a₁ st'') ?_ (λ_ _ q=>q) ⟨rfl,H⟩) ?_)
  ·rintro x c st3 _ hx ⟨rfl,H3⟩;refine aN (wpS_get ?_);rw[if_pos H3.pn];exact aX ⟨rfl,H3⟩
  ·rintro c st3 ⟨rfl,H3⟩;exact aX (h st3 H3.pm H3.fl H3.sg)
end
theorem tK{α:Type}{p q:α->Bool}{a:α}:∀{l:List α},(∀x∈l,p x=true->q x=true)->a∈l->p a=false->q a=true->l.countP p<l.countP q
 | [],_,h,_,_=>nomatch h
 |x::l,hi,h,h1,h2=>by
  rw[List.countP_cons,List.countP_cons];have le:=List.countP_mono_left (l:=l) (p:=p) (q:=q) λy hy=>hi y (aK _ hy)
  rcases aG.mp h with e|h
  ·subst e;rw[h1,h2];simp only[aR,if_false,if_true];lia
  ·have:=tK (λy hy=>hi y (aK _ hy)) h h1 h2;have:=hi x aO;cases e:p x with
   |true=>rw[this e];simp only[if_true];lia
   |false=>simp only[aR,if_false];split<;>lia
noncomputable def ko(LT:aD->aD->Bool)(l:List aD)(x:aD):Int:=(l.countP λz=>LT z x:Nat)
theorem Wo.rank{LT:aD->aD->Bool}(W:Wo LT)(l:List aD):Rk (·∈l) LT (ko LT l):=⟨λx y hx hy=>by
 unfold ko;cases e:LT x y with
 |true=>
  have:=tK (p:=λz=>LT z x) (q:=λz=>LT z y) (a:=x) (λz _ q=>W.lt_le (x:=z) (y:=x) (z:=y) q (W.asym x y e)) hx (W.irr x) e;exact(decide_eq_true (by lia)).symm
 |false=>
  have:=List.countP_mono_left (l:=l) (p:=λz=>LT z y) (q:=λz=>LT z x) λz _ q=>W.lt_le (x:=z) (y:=y) (z:=x) q e
  exact(decide_eq_false (by lia)).symm⟩
noncomputable def ltL:List Int->List Int->Bool
 | [],[]=>false
 | [],_::_=>true
 |_::_,[]=>false
 |a::x,b::y=>if a=b then ltL x y else decide (a<b)
theorem iT:∀{x y:List Int},ltL x y=true->ltL y x=false
 | [],[],h=>nomatch h
 | [],_::_,_=>rfl
 |_::_,[],h=>nomatch h
 |a::x,b::y,h=>by
  unfold ltL at h ⊢;by_cases e:a=b
  ·rw[if_pos e]at h;rw[if_pos e.symm];exact iT h
  ·rw[if_neg e]at h;have:=of_decide_eq_true h;rw[if_neg (λz=>e z.symm)];exact decide_eq_false (by lia)
theorem i9:∀{x y z:List Int},ltL y x=false->ltL z y=false->ltL z x=false
 | [],_,[],_,_=>rfl
 |_::_,[],[],h,_=>nomatch h
 |_::_,_::_,[],_,h=>nomatch h
 | [],_,_::_,_,_=>rfl
 |_::_,[],_::_,h,_=>nomatch h
 |a::x,b::y,c::z,h1,h2=>by
  unfold ltL at h1 h2 ⊢;by_cases e1:b=a
  ·rw[if_pos e1]at h1;by_cases e2:c=b
   ·rw[if_pos e2]at h2;rw[if_pos (e2.trans e1)];exact i9 h1 h2
   ·rw[if_neg e2]at h2;have:=of_decide_eq_false h2;rw[if_neg (λq=>e2 (q.trans e1.symm))];exact decide_eq_false (by lia)
  ·rw[if_neg e1]at h1;have q1:=of_decide_eq_false h1;by_cases e2:c=b
   ·rw[if_neg (λq=>e1 (e2.symm.trans q))];exact decide_eq_false (by lia)
   ·rw[if_neg e2]at h2;have q2:=of_decide_eq_false h2;rw[if_neg (by lia)];exact decide_eq_false (by lia)
theorem Fi(f:aD->List Int):Wo λx y=>ltL (f x) (f y):=⟨λ_ _ h=>iT h,λ_ _ _ h1 h2=>i9 h1 h2⟩
theorem so:∀{x y:List Int},ltL x y=false->ltL y x=false->x=y
 | [],[],_,_=>rfl
 | [],_::_,h,_=>nomatch h
 |_::_,[],_,h=>nomatch h
 |a::x,b::y,h1,h2=>by
  unfold ltL at h1 h2;by_cases e:a=b
  ·rw[if_pos e]at h1;rw[if_pos e.symm]at h2;rw[e,so h1 h2]
  ·rw[if_neg e]at h1;rw[if_neg (λz=>e z.symm)]at h2;have:=of_decide_eq_false h1;have:=of_decide_eq_false h2;lia
theorem nX:∀x y:List Int,ltL x y=HT.lexLt x y
 | [],[]=>(HT.sj).symm
 | [],_::_=>(HT.m6 ..).symm
 |_::_,[]=>(HT.mU ..).symm
 |a::x,b::y=>by
  rw[HT.sL,<-nX x y]
  rfl
section
variable{prog:aB}{w:aw}{A:aC}{E:ae->af->Prop}{s:af}
theorem Dq{l b:Addr}{items items2:Array ae}{ns ms:List Int}{Q:Bool->af->Prop}(hl:IsTup s.heap l items)(hb:IsTup s.heap b items2)(hi:bq items.toList ns)(hj:bq items2.toList ms)
  (hu:A.units<cLine) (h:Q (ltL ns ms) s):ah (ak prog w) A (oneLt' true (.ref l) (.ref b)) Q E s:=by
 obtain⟨⟨c1,d1,a1,s1⟩,ho,hc,n,hd⟩:=id hl;obtain⟨⟨c2,d2,a2,s2⟩,ho2,hc2,n2,hd2⟩:=id hb;simp only at hc hd hc2 hd2;subst hc hd hc2 hd2;rw[nX]at h;rw[oneLt'_eq];simp only[if_true];refine ag (wpAny_cRoomFor hu ?_);refine ag (wpAny_callSpecialIfBound?_slot ⟨_,ho,rfl⟩ PySem.F.slot_tuple_lt (call_meets PySem.F.slot_tuple_lt ⟨_,ho,rfl⟩ PySem.F.entry_tuple_lt (PySem.F.args_tuple_lt_2 _ _) (HT.nO l b items items2 n n2 d1 d2 s1 s2 ns ms hi hj) ⟨ho,ho2,?_⟩));exact bJ h
end
end TS
namespace TS
open PySem PySem.W PyProof.Rows
noncomputable def TupAt(h:Heap)(v:ae)(ns:List Int):Prop:=∃a o items n,v=.ref a/\h.get? a=some o/\o.cls=.type "tuple"/\o.data=.seq items n/\bq items.toList ns
inductive cj(h:Heap):List ae->List (List Int)->Prop
 |nil:cj h [] []
 |cons {v:ae}{vs:List ae}{k:List Int}{ks:List (List Int)}:TupAt h v k->cj h vs ks->cj h (v::vs) (k::ks)
theorem cj.mem{h:Heap}{vs:List ae}{ks:List (List Int)}(t:cj h vs ks):∀v∈vs,∃k,TupAt h v k:=by
 induction t with
 |nil=>intro v hv;cases hv
 |cons a t ih=>
  intro v hv;rcases aG.mp hv with e|hv
  ·subst e;exact⟨_,a⟩
  ·exact ih v hv
section
variable{M:Model}{A:aC}{E:ae->af->Prop}{s:af}
theorem pX{h:Heap}{v:ae}{k:List Int}(t:TupAt h v k):Looks M h (typeOf v) (.type "tuple"):=by
 obtain⟨a,o,items,n,rfl,ho,hc,_⟩:=t;have:Looks M h (typeOf (.ref a)) o.cls:=(Looks.ld ho).andThen .now
 rwa[hc]at this
theorem As{vs:List ae}{ks:List (List Int)}(t:cj s.heap vs ks):∀{Q:List (Option ae)->af->Prop},(∀os:List (Option ae),os.map Option.isSome=ks.map (λk=>!k.isEmpty)->Q os s)->ah M A (vs.mapM firstOfTuple') Q E s:=by
 induction t with
 |nil=>intro Q h;rw[List.mapM_nil];exact aq (h [] rfl)
 | @cons v vs k ks a t ih=>
  intro Q h;rw[List.mapM_cons];refine ag ?_;rw[kas_first_eq];refine ag ((pX a).here ?_);rw[if_neg (by first|decide|simp)];obtain⟨b,o,items,n,rfl,ho,hc,hd,hi⟩:=a;refine ag (listItems_at ho hd (aq (ag (ih λos e=>aq (h _ ?_)))));rw[aM,e,aM]
  congr 1
  obtain⟨l⟩:=items;cases hi with
  |nil=>rfl
  |cons _ _ _=>rfl
theorem De{vs:List ae}{ks:List (List Int)}{Q:SortKind->af->Prop}(t:cj s.heap vs ([]::ks))(h:Q oneType' s):ah M A (keyKind' vs.toArray) Q E s:=by
 rw[keyKind'_eq,List.mapM_toArray,map_eq_pure_bind];refine ag (ag (As t λos e=>aq ?_));obtain⟨o,os',rfl,eo⟩:∃o os',os=o::os'/\o.isSome=false:=by
  cases os with
  |nil=>cases e
  |cons o os'=>rw[aM,aM]at e;exact⟨o,os',rfl,(List.cons.inj e).1⟩
 obtain rfl:o=none:=by cases o with
  |none=>rfl
  |some _=>cases eo
 rw[if_neg (by simp),if_neg (by simp),oneTypeOnly'_eq,List.mapM_toArray,map_eq_pure_bind];refine ag (ag (ag (kas_mapM (r:=bE "tuple") _ (λv hv Q' hq=>by obtain⟨k,a⟩:=t.mem v hv;exact(pX a).here hq) (aq ?_))));have e0:(List.map (λ_=>bE "tuple") vs).toArray[0]? = some (bE "tuple"):=by
  cases t with
  |cons a t=>simp
 have e1:((List.map (λ_=>bE "tuple") vs).toArray.all λx=>x==bE "tuple")=true:=by
  simp only[List.all_toArray,List.all_map,bL];intro _ _
  rfl
 rw[e0];simp only[e1,if_true];exact aq (aq h)
end
section
variable{M:Model}{A:aC}{E:ae->af->Prop}{s:af}
theorem cj.firsts{h:Heap}{vs:List ae}{ks:List (List Int)}(t:cj h vs ks)(hne:∀k∈ks,k≠[]):∃fs,KatTups h vs fs/\fs.length=vs.length/\∀v∈fs,∃i t,v=ae.int i t:=by
 induction t with
 |nil=>exact⟨[],trivial,rfl,λ_ h=>nomatch h⟩
 | @cons v vs k ks a t ih=>
  obtain⟨fs,k1,k2,k3⟩:=ih λk hk=>hne k (aK _ hk)
  obtain⟨b,o,items,n,rfl,ho,hc,hd,hi⟩:=a;obtain⟨l⟩:=items;cases hi with
  |nil=>exact absurd rfl (hne [] aO)
  |cons i t _=>exact⟨.int i t::fs,KatTups.cons ho hc hd rfl k1,by simp[k2],λw hw=>(aG.mp hw).elim (λz=>⟨i,t,z⟩) (k3 w)⟩
theorem kind_all{vs:List ae}{ks:List (List Int)}{Q:SortKind->af->Prop}(t:cj s.heap vs ks)(h1:0<vs.length)(hne:∀k∈ks,k≠[])(h:Q (tuples' true) s):ah M A (keyKind' vs.toArray) Q E s:=by
 obtain⟨fs,k1,k2,k3⟩:=t.firsts hne;refine kat_kind (T:=.type "int") (fs:=fs) k1 (by lia) (λv hv=>?_) (by decide) ?_
 ·obtain⟨i,t,rfl⟩:=k3 v hv;exact Looks.of_pure rfl
 ·have hb:((bE "int") != bE "tuple")=true:=by decide
  rw[hb];exact h
theorem rD{prog:aB}{w:aw}{Q:Bool->af->Prop}{fin:Bool}:∀{xs ys:List ae}{ns ms:List Int} (i:Nat),bq xs ns->bq ys ms->fin=decide (xs.length<ys.length)->Q (ltL ns ms) s->KatLex prog w A true fin Q (xs.zip ys) i s
 |_,_,_,_,i,.nil,.nil,hf,h=>kat_nil (by rw[hf];exact h)
 |_,_,_,_,i,.nil,.cons _ _ _,hf,h=>kat_nil (by rw[hf];exact h)
 |_,_,_,_,i,.cons _ _ _,.nil,hf,h=>kat_nil (by rw[hf];exact h)
 |_,_,_,_,i,.cons (vs:=xs) (ns:=ns) a t hx,.cons (vs:=ys) (ns:=ms) b u hy,hf,h=>by
  rw[List.zip_cons_cons];refine kat_cons (SeqAt.EqAt.int_int _ _ _ _ prog w _ _ ?_);unfold ltL at h;by_cases hc:a=b
  ·rw[if_pos hc]at h;rw[show (a==b)=true by simp[hc]];exact kat_yes (rD (i+1) hx hy (by rw[hf];simp) h)
  ·rw[if_neg hc]at h;rw[show (a==b)=false by simp[hc]];refine kat_no ?_;cases i with
   |zero=>exact oneLt_int h
   |succ i=>exact kat_one _ _ (lt_int h)
end
noncomputable def cR(h:Heap)(x:aD):List Int:=open Classical in if z:∃k,TupAt h x.1 k then z.choose else []
theorem TupAt.keep{h h':Heap}(k:∀b o,h.get? b=some o->h'.get? b=some o){v:ae}{ns:List Int}(t:TupAt h v ns):TupAt h' v ns:=by
 obtain⟨a,o,its,n,e1,e2,e3⟩:=t;exact⟨a,o,its,n,e1,k _ _ e2,e3⟩
theorem cj.keep{h h':Heap}(k:∀b o,h.get? b=some o->h'.get? b=some o){vs:List ae}{ks:List (List Int)}(t:cj h vs ks):cj h' vs ks:=by
 induction t with
 |nil=>exact .nil
 |cons a _ ih=>exact .cons (a.keep k) ih
theorem je{h:Heap}{x:aD}(z:∃k,TupAt h x.1 k):TupAt h x.1 (cR h x):=by
 unfold cR;rw[dif_pos z];exact z.choose_spec
theorem xh{prog:aB}{w:aw}{A:aC}{s:af}{h0:Heap}{l:List aD}(hk:∀b o,h0.get? b=some o->s.heap.get? b=some o)(hl:∀x∈l,∃k,TupAt h0 x.1 k)(hu:A.units<cLine):Cmp prog w A s oneType' (·∈l) (λx y=>ltL (cR h0 x) (cR h0 y)):=
 ⟨λx y hx hy Q h=>by
  obtain⟨a,o,its,n,e1,e2,e3,e4,e5⟩:=(je (hl x hx)).keep hk;obtain⟨a',o',its',n',f1,f2,f3,f4,f5⟩:=(je (hl y hy)).keep hk;rw[keyLt'_oneType,e1,f1];exact Dq ⟨o,e2,e3,n,e4⟩ ⟨o',f2,f3,n',f4⟩ e5 f5 hu h,
  λ_ _ h=>iT h,λ_ _ _ h1 h2=>i9 h1 h2⟩
theorem Cg{prog:aB}{w:aw}{A:aC}{s:af}{h0:Heap}{l:List aD}(hk:∀b o,h0.get? b=some o->s.heap.get? b=some o)(hl:∀x∈l,∃k,TupAt h0 x.1 k):Cmp prog w A s (tuples' true) (·∈l) (λx y=>ltL (cR h0 x) (cR h0 y)):=
 ⟨λx y hx hy Q h=>by
  obtain⟨a,o,its,n,e1,e2,e3,e4,e5⟩:=(je (hl x hx)).keep hk;obtain⟨a',o',its',n',f1,f2,f3,f4,f5⟩:=(je (hl y hy)).keep hk;rw[e1,f1];refine kat_lt e2 e4 f2 f4 (rD 0 e5 f5 ?_ h);rw[bU,bU],
  λ_ _ h=>iT h,λ_ _ _ h1 h2=>i9 h1 h2⟩
theorem rA{h:Heap}:∀(l:List aD),(∀x∈l,x.1=x.2/\∃k,TupAt h x.1 k)->cj h (l.map (·.2)) (l.map (cR h))
 | [],_=>.nil
 |x::l,z=>.cons (by have:=z x aO;show TupAt h x.2 _;rw[<-this.1];exact je this.2) (rA l λy hy=>z y (aK _ hy))
theorem B7{LT:aD->aD->Bool}{R:aD->Int}{a:Array aD}(S:Seg R a 0 a.size)(K:∀x∈a.toList,∀y∈a.toList,LT x y=decide (R x<R y)):a.toList.Pairwise λx y=>LT y x=false:=by
 rw[List.pairwise_iff_getElem];intro i j hi hj hij;rw[K _ (dC hj) _ (dC hi)];rw[bU]at hi hj;have:=S i j (by lia) hj;unfold Kr at this;have e1:=ip hi;have e2:=ip hj;rw[Array.getElem?_eq_getElem hi]at e1;rw[Array.getElem?_eq_getElem hj]at e2;injection e1 with e1
 injection e2 with e2
 rw[Nat.zero_add,Nat.zero_add,<-e1,<-e2]at this;rw[Array.getElem_toList,Array.getElem_toList];exact decide_eq_false (by lia)
section
variable{prog:aB}{w:aw}{A:aC}{E:ae->af->Prop}{s:af}
theorem DM{h0:Heap}{a:Addr}{vs:List ae}{ks:List (List Int)}{P:Fin->af->Prop}(hoL:s.heap.get? a=some (bc "list" vs.toArray 0))(keep:∀b o,h0.get? b=some o->s.heap.get? b=some o)(hap:∀b o,h0.get? b=some o->b≠a)(h2:2<=vs.length)(h64:vs.length<64)(hz:vs.length<=aL)(t:cj h0 vs ks)(hed:ks.head? = some []\/∀k∈ks,k≠[])(hu:A.units<cLine)
  (h:∀(out:List ae) (ks':List (List Int)),out.Perm vs->cj h0 out ks'->ks'.Pairwise (λa b=>ltL b a=false)->P (.done (.ret .none)) {s with heap:=sortedHeap s.heap a vs out.toArray}) :
  ah (ak prog w) A (Builtin.«list.sort» ⟨[.ref a],[]⟩) P E s:=by
 rw[list_sort_plain];refine ag (listItems_at  hoL rfl ?_);refine ag (listUpdate_at  hoL rfl ?_ (by rw[aP];exact hz) (bu _));obtain⟨e1,ho1⟩:∃e1,(s.heap.update a (bB λ_=>#[])).get? a=some (bc "list" #[] e1):=⟨_,get?_update_seq hoL (λ_=>#[])⟩
 refine ag (seqEpoch_at ho1 rfl ?_);refine ag (wpAny_newTuple ?_ (by show vs.length<=_;exact hz));refine ag (wpAny_newList ?_ (bu _));refine bS ?_;have hlt:a<s.heap.objs.size:=aI hoL;have k6:∀b o,h0.get? b=some o->(((s.heap.update a (bB λ_=>#[])).push (bc "tuple" vs.toArray 0)).push (bc "list" #[] 0)).get? b=some o:=λb o q=>
  Heap.get?_push_of_some _ (Heap.get?_push_of_some _ (by rw[Heap.get?_update_ne _ _ _ _ (hap b o q)];exact keep b o q))
 have ho6:(((s.heap.update a (bB λ_=>#[])).push (bc "tuple" vs.toArray 0)).push (bc "list" #[] 0)).get? a=some (bc "list" #[] e1):=Heap.get?_push_of_some _ (Heap.get?_push_of_some _ ho1);show ah (ak prog w) _ _ _ _ {s with heap:=((s.heap.update a (bB λ_=>#[])).push (bc "tuple" vs.toArray 0)).push (bc "list" #[] 0)};dsimp only;have h2':¬ vs.toArray.size<2:=by rw[aP];lia
 rw[if_neg h2',if_neg h2'];have pz:(vs.toArray.zip vs.toArray)=pairsOf vs:=rfl;have hx:∀x∈(pairsOf vs).toList,x.1=x.2/\∃k,TupAt h0 x.1 k:=λx hx=>by
  rw[pairsOf_toList]at hx;obtain⟨b1,b2⟩:=mem_zip_self hx;exact⟨b1,t.mem _ b2⟩
 obtain⟨κ,kk,C⟩:∃κ,(∀Q:SortKind->af->Prop,Q κ {s with heap:=((s.heap.update a (bB λ_=>#[])).push (bc "tuple" vs.toArray 0)).push (bc "list" #[] 0)}->ah (ak prog w) A (keyKind' vs.toArray) Q E {s with heap:=((s.heap.update a (bB λ_=>#[])).push (bc "tuple" vs.toArray 0)).push (bc "list" #[] 0)})/\Cmp prog w A {s with heap:=((s.heap.update a (bB λ_=>#[])).push (bc "tuple" vs.toArray 0)).push (bc "list" #[] 0)} κ (·∈(pairsOf vs).toList) (λx y=>ltL (cR h0 x) (cR h0 y)):=by
  rcases hed with hh|hh
  ·refine⟨oneType',λQ q=>?_,xh k6 (λx z=>(hx x z).2) hu⟩;cases ks with
   |nil=>cases hh
   |cons k ks=>
    cases hh;exact De (t.keep k6) q
  ·exact⟨tuples' true,λQ q=>kind_all (t.keep k6) (by lia) hh q,Cg k6 λx z=>(hx x z).2⟩
 refine ag (kk _ ?_);have K:=(Fi (cR h0)).rank (pairsOf vs).toList;refine ag (bT (DE (Q:=λ_ st'=>(au st').Perm (pairsOf vs)/\failedOf st'=none/\Seg (ko (λx y=>ltL (cR h0 x) (cR h0 y)) (pairsOf vs).toList) (au st') 0 (pairsOf vs).size) C K (λ_ z=>z) rfl rfl rfl rfl (by rw[pairsOf_size];exact h2) (by rw[pairsOf_size];exact h64) λst' z1 z2 z3=>⟨z1,z2,z3⟩) ?_ λ_ _ e=>e);rintro⟨⟨⟩,st'⟩ s' ⟨rfl,pm,fl,sg⟩;dsimp only;have pl:=Array.perm_iff_toList_perm.mp pm;have om:((au st').map (·.2))=((au st').toList.map (·.2)).toArray:=by
  generalize au st'=z;apply Array.toList_inj.mp;rw[Array.toList_map]
 have op:((au st').toList.map (·.2)).Perm vs:=by
  have:=pl.map (·.2)
  rwa[pairsOf_toList,List.map_snd_zip (aE _)]at this
 have ht:=rA (au st').toList λx z=>hx x (pl.mem_iff.mp z)
 have hs:=B7 (LT:=λx y=>ltL (cR h0 x) (cR h0 y)) (R:=ko (λx y=>ltL (cR h0 x) (cR h0 y)) (pairsOf vs).toList) (a:=au st') (by rw[pm.size_eq];exact sg) λx z1 y z2=>K.rk x y (pl.mem_iff.mp z1) (pl.mem_iff.mp z2)
 have fin:=h _ _ op ht (by rw[List.pairwise_map];exact hs);refine ag (seqEpoch_at ho6 rfl ?_);refine ag (listUpdate_at ho6 rfl ?_ (bu _) (by rw[om,aP,op.length_eq];lia));rw[fl];simp only[bne_self_eq_false,aR,if_false];refine aq ?_;rw[om];exact fin
end
end TS
namespace L2
open PySem PySem.Spec PyProof.Rows TS
theorem pL:∀{vs:List ae}{a b:List Int},bq vs a->bq vs b->a=b
 |_,_,_,.nil,.nil=>rfl
 |_,_,_,.cons n t h,h'=>by
  cases h' with
  |cons n' t' h''=>rw[pL h h'']
theorem Dc{h:Heap}{v:ae}{a b:List Int}(x:TupAt h v a)(y:TupAt h v b):a=b:=by
 obtain⟨p,o,its,n,rfl,e2,_,e4,e5⟩:=x;obtain⟨p',o',its',n',f1,f2,_,f4,f5⟩:=y;cases f1;rw[e2]at f2;cases f2;rw[e4]at f4;cases f4;exact pL e5 f5
theorem pH:∀(ps:List Addr),Vals (ps.map V.ref) (ps.map bF)
 | []=>.nil
 |p::ps=>.cons rfl (pH ps)
noncomputable def jj:ae->Addr
 | .ref a=>a
 |_=>0
end L2
namespace L2
open PySem PySem.Spec PyProof.Rows
section
variable{X:Cx}
theorem nq{A:aC}{s:af}{bs:List Bool}{prog:aB}:∀y∈(bs.map bH).toArray,SeqAt.EqAt A s y (.bool true) (y==.bool true):=by
 intro y hy;have hy':y∈bs.map ae.bool:=by simpa using hy
 obtain⟨b,_,rfl⟩:=a8.mp hy';have:=SeqAt.EqAt.bool_bool (A:=A) (s:=s) b true;have e2:(bH b==bH true)=(b==true):=by cases b<;>decide
 rw[e2];exact this
noncomputable def vZ(K:ax):V->List V->Hp->VK->Prop:=λx vs H Q=>∃(l:Addr) (bs:List Bool),x=.ref l/\vs=[.bl true]/\SqL K H l (bs.map V.bl)/\Q (.int ((bs.countP id:Nat):Int)) H
theorem AN:MtM X "list.count" (vZ X.K):=by
 intro pins s σ H x vs v us Q I rx rv h;obtain⟨l,bs,rfl,rfl,hH,q⟩:=h;cases rx;obtain⟨u,rfl,ru⟩:=rv.one;cases ru;obtain⟨its,r,⟨o,n,e,hc,hd,hs⟩,hz⟩:=I.list hH;have ei:=lq (A:=X.A) r;subst ei;obtain⟨oc,od,oo,os⟩:=o;simp only at hc hd hs;subst hc hd hs;refine call_meets F.slot_list_count ⟨_,e,rfl⟩ F.entry_list_count (F.args_list_count_2 _ _) (SeqAt.list_countAt l _ n none os (.bool true) (λy=>y==.bool true)) ⟨e,nq (prog:=X.prog),?_⟩;refine⟨.int ((bs.countP id:Nat):Int),H,I.tok _,⟨s.toks,?_⟩,q⟩;have:(List.map bH bs).countP (λy=>y==bH true)=bs.countP id:=by
  rw[List.countP_map]
  congr 1
  funext b;cases b<;>rfl
 rw[show ((List.map bH bs).toArray.toList)=List.map bH bs from rfl,this]
noncomputable def Ex(K:ax):V->List V->Hp->VK->Prop:=λx vs H Q=>∃(l:Addr) (bs:List Bool) (j:Nat),x=.ref l/\vs=[.bl true]/\SqL K H l (bs.map V.bl)/\bs.findIdx? id=some j/\Q (.int (j:Int)) H
theorem Fl:MtM X "list.index" (Ex X.K):=by
 intro pins s σ H x vs v us Q I rx rv h;obtain⟨l,bs,j,rfl,rfl,hH,hj,q⟩:=h;cases rx;obtain⟨u,rfl,ru⟩:=rv.one;cases ru;obtain⟨its,r,⟨o,n,e,hc,hd,hs⟩,hz⟩:=I.list hH;have ei:=lq (A:=X.A) r;subst ei;obtain⟨oc,od,oo,os⟩:=o;simp only at hc hd hs;subst hc hd hs;obtain⟨hjl,h1,h2⟩:=List.findIdx?_eq_some_iff_getElem.mp hj;have hz':bs.length<=sizeLine:=by simpa using hz
 refine call_meets F.slot_list_index ⟨_,e,rfl⟩ F.entry_list_index (F.args_list_index_2 _ _) (SeqAt.list_indexAt l _ n none os (.bool true) (λy=>y==.bool true) j (by simpa using hjl) (by rw[bA]at hz';lia) ?_ ?_) ⟨e,nq (prog:=X.prog),?_⟩
 ·have:bs[j]=true:=h1;simp[this]
 ·intro m hm hmj;have hm':m<bs.length:=by simpa using hm
  have:bs[m]=false:=by simpa using h2 m hmj
  simp[this]
 ·exact⟨.int (j:Int),H,I.tok _,⟨s.toks,rfl⟩,q⟩
end
section
variable{X:Cx}
end
end L2
namespace EV
open PySem PySem.Spec PySem.P PyProof.Rows L2
theorem mD(p:Int×Int):∀l,(fq p l).Perm (p::l)
 | []=>.refl _
 |j::r=>by
  unfold fq;split
  ·exact((mD p r).cons j).trans (.swap ..)
  ·exact .refl _
theorem kD:∀l,(cU l).Perm l
 | []=>.refl _
 |i::r=>(mD i _).trans ((kD r).cons i)
theorem ff{a b:Int×Int}:ltP a b=true↔a.1<b.1\/(a.1=b.1/\a.2<b.2):=by
 unfold ltP;by_cases h:a.1=b.1
 ·simp[h]
 ·simp[h]
theorem lh{a b:Int×Int}:ltP a b=false↔b.1<a.1\/(a.1=b.1/\b.2<=a.2):=by
 rw[<-Bool.not_eq_true,ff];lia
theorem rq(p:Int×Int):∀{l:List (Int×Int)},l.Pairwise (λa b=>ltP b a=false)->(fq p l).Pairwise (λa b=>ltP b a=false)
 | [],_=>by simp[fq]
 |j::r,h=>by
  unfold fq;obtain⟨h1,h2⟩:=List.pairwise_cons.mp h;split
  ·rename_i hij
   rw[ff]at hij;refine List.pairwise_cons.mpr ⟨λx hx=>?_,rq p h2⟩;rcases aG.mp ((mD p r).mem_iff.mp hx)with rfl|hx
   ·rw[lh];lia
   ·exact h1 x hx
  ·rename_i hij
   have hij':ltP j p=false:=by simpa using hij
   refine List.pairwise_cons.mpr ⟨λx hx=>?_,h⟩;rcases aG.mp hx with rfl|hx
   ·exact hij'
   ·have:=h1 x hx;rw[lh]at this hij' ⊢;lia
theorem kJ:∀l:List (Int×Int),(cU l).Pairwise (λa b=>ltP b a=false)
 | []=>.nil
 |i::r=>rq i (kJ r)
theorem A6{l m:List (Int×Int)}(h1:m.Perm l)(h2:m.Pairwise (λa b=>ltP b a=false)):m=cU l:=
 (h1.trans (kD l).symm).eq_of_pairwise (λa b _ _ z1 z2=>by rw[lh]at z1 z2;exact Prod.ext (by lia) (by lia)) h2 (kJ l)
theorem p_:∀(a b:List Int),cF a b=TS.ltL a b
 | [],[]=>rfl
 | [],_::_=>rfl
 |_::_,[]=>rfl
 |a::r,b::t=>by
  unfold cF TS.ltL;rw[p_ r t]
theorem mw(p:List Int):∀l,(fw p l).Perm (p::l)
 | []=>.refl _
 |j::r=>by
  unfold fw;split
  ·exact((mw p r).cons j).trans (.swap ..)
  ·exact .refl _
theorem pR:∀l,(gq l).Perm l
 | []=>.refl _
 |i::r=>(mw i _).trans ((pR r).cons i)
theorem tf(p:List Int):∀{l:List (List Int)},l.Pairwise (λa b=>TS.ltL b a=false)->(fw p l).Pairwise (λa b=>TS.ltL b a=false)
 | [],_=>by simp[fw]
 |j::r,h=>by
  unfold fw;obtain⟨h1,h2⟩:=List.pairwise_cons.mp h;rw[p_];split
  ·rename_i hij
   refine List.pairwise_cons.mpr ⟨λx hx=>?_,tf p h2⟩;rcases aG.mp ((mw p r).mem_iff.mp hx)with rfl|hx
   ·exact TS.iT hij
   ·exact h1 x hx
  ·rename_i hij
   have hij':TS.ltL j p=false:=by simpa using hij
   refine List.pairwise_cons.mpr ⟨λx hx=>?_,h⟩;rcases aG.mp hx with rfl|hx
   ·exact hij'
   ·exact TS.i9 hij' (h1 x hx)
theorem sZ:∀l:List (List Int),(gq l).Pairwise (λa b=>TS.ltL b a=false)
 | []=>.nil
 |i::r=>tf i (sZ r)
theorem vP{l m:List (List Int)}(h1:m.Perm l)(h2:m.Pairwise (λa b=>TS.ltL b a=false)):m=gq l:=
 (h1.trans (pR l).symm).eq_of_pairwise (λa b _ _ z1 z2=>TS.so z2 z1) h2 (sZ l)
section
variable{X:Cx}{g:Gc}
theorem qZ.tups{H:Hp}{ds:List D}:∀{vs:List V}{ts:List (List Int)},qZ g H ds vs->tups? ds=some ts->ds=ts.map iY/\∃as:List Addr,vs=as.map V.ref/\as.length=ts.length/\∀(i:Nat) a t,as[i]? = some a->ts[i]? = some t->SqT g.K H a (t.map V.int)/\Rep g H (iY t) (.ref a):=by
 induction ds with
 |nil=>intro vs ts h e;cases h;cases e;exact⟨rfl,[],rfl,rfl,λi a p h=>by cases h⟩
 |cons d ds ih=>
  intro vs ts h e;cases h with
  |cons h t=>cases d with
   |tup xs=>
    obtain⟨n,e0,e⟩:=aF.mp (show (ints? xs).bind (λn=>(tups? ds).map (n :: ·))=some ts from e);obtain⟨ms,e1,rfl⟩:=br.mp e;obtain⟨h1,as,h2,h3,h4⟩:=ih t e1;have hh:=h;cases h with
    | @tup a _ _ q r=>
     obtain⟨rfl,e2⟩:=r.ints e0;refine⟨by rw[h1,e2];rfl,a::as,by rw[h2];rfl,congrArg (· + 1) h3,λi b p hb hp=>?_⟩;cases i with
     |zero=>cases hb;cases hp;exact⟨q,by rw[e2]at hh;exact hh⟩
     |succ i=>exact h4 i b p hb hp
   |_=>cases (show none=some ts from e)
theorem sD{H:Hp}:∀{ts:List (List Int)}{as:List Addr},as.length=ts.length->(∀(i:Nat) a t,as[i]? = some a->ts[i]? = some t->Rep g H (iY t) (.ref a))->qZ g H (ts.map iY) (as.map V.ref)
 | [],[],_,_=>.nil
 |t::ts,a::as,e,h=>.cons (h 0 a t rfl rfl) (sD (by simpa using e) λi b u hb hu=>h (i+1) b u (by simpa using hb) (by simpa using hu))
theorem sN:∀{xs:List D}{ps:List (Int×Int)},pairs? xs=some ps->tups? xs=some (ps.map λp=>[p.1,p.2])
 | [],_,h=>by cases h;rfl
 | .tup [.int i,.int j]::r,ps,h=>by
  simp only[pairs?,br]at h;obtain⟨qs,h1,rfl⟩:=h;show (some [i,j]).bind (λn=>(tups? r).map (n :: ·))=_;rw[sN h1];rfl
theorem mM(p:Int×Int):∀qs:List (Int×Int),fw [p.1,p.2] (qs.map λp=>[p.1,p.2])=(fq p qs).map λp=>[p.1,p.2]
 | []=>rfl
 |q::r=>by
  have e:cF [q.1,q.2] [p.1,p.2]=ltP q p:=by
   simp only[cF,ltP];by_cases h:q.1=p.1
   ·rw[if_pos h,if_pos h];by_cases h':q.2=p.2
    ·rw[if_pos h',h'];simp
    ·rw[if_neg h']
   ·rw[if_neg h,if_neg h]
  rw[aM,fw,fq,e,mM p r];cases ltP q p<;>rfl
theorem og:∀qs:List (Int×Int),gq (qs.map λp=>[p.1,p.2])=(cU qs).map λp=>[p.1,p.2]
 | []=>rfl
 |q::r=>by rw[aM,gq,cU,og r,mM]
theorem AF(hK:X.K=g.K)(hu:X.A.units+64<cLine):zv X (.builtin "sorted") (rB1 g .sorted):=fW A1 λS ds d vs H Q hs rs h q=>by
 obtain⟨x,rfl,h'⟩:=iw (λ_ _=>rfl) h;cases h'
theorem ny(hK:X.K=g.K)(hc:X.calm=true)(mx:Bool):zv X (.builtin (if mx then "max" else "min")) (rB1 g (if mx then .max else .min)):=by
 have two:∀{S:Sh}{H:Hp}{x y:D}{vs:List V}{i j:Int},x=.int i->y=.int j->fm g H S [x,y] vs->vs=[.int i,.int j]:=by
  intro S H x y vs i j hx hy rs;subst hx hy;cases rs with
  |cons r1 rs=>
   cases rs with
   |cons r2 rs=>cases rs;rw[r1.int,r2.int]
 have inv:∀{b:B1}{ds:List D}{d:D},b1 b ds=.ok d->(∃x,ds=[x]/\b11 b x=.ok d)\/∃x y,ds=[x,y]/\b12 b x y=.ok d:=by
  intro b ds d h
  match ds,h with
  | [x],h=>exact .inl ⟨x,rfl,h⟩
  | [x,y],h=>exact .inr ⟨x,y,rfl,h⟩
  | [],h=>cases h
  |_::_::_::_,h=>cases h
 cases mx
 ·exact fW (BO hc) λS ds d vs H Q hs rs h q=>by
   rcases inv h with ⟨x,rfl,h'⟩|⟨x,y,rfl,h'⟩
   ·cases h'
   ·obtain⟨i,j,hx,hy,h'⟩:=oA h';cases h';exact⟨i,j,two hx hy rs,q _ _ (qh.refl _) (.int _) (by simp)⟩
 ·exact fW (Cv hc) λS ds d vs H Q hs rs h q=>by
   rcases inv h with ⟨x,rfl,h'⟩|⟨x,y,rfl,h'⟩
   ·cases h'
   ·obtain⟨i,j,hx,hy,h'⟩:=oA h';cases h';exact⟨i,j,two hx hy rs,q _ _ (qh.refl _) (.int _) (by simp)⟩
theorem wd{S:Sh}{H:Hp}{vs:List V}{i:Int}(rs:fm g H S [.int i] vs):vs=[.int i]:=by
 cases rs with
 |cons r1 rs=>cases rs;rw[r1.int]
theorem yM{S:Sh}{H:Hp}{vs:List V}{i:Bool}(rs:fm g H S [.bl i] vs):vs=[.bl i]:=by
 cases rs with
 |cons r1 rs=>cases rs;rw[r1.bl]
theorem uT:zv X (.builtin "abs") (rB1 g .abs):=kh (λ_=>rfl) λ_ _=>rfl
theorem An:zv X (.type "int") (rB1 g .int):=fW (Cw.or Ak) λS ds d vs H Q hs rs h q=>by
 obtain⟨x,rfl,h'⟩:=iw (λ_ _=>rfl) h;by_cases hx:∃z,x=.str z
 ·obtain⟨z,rfl⟩:=hx;have h':(if z.length<=640 then zW (PySem.intText? z) λn=>R.ok (D.int n)else .no)=R.ok d:=h';split at h'
  ·rename_i hz
   obtain⟨n,e,h2⟩:=i8 h';cases h2;cases rs with
   |cons r rs=>
    cases rs;cases r.rep;exact .inr ⟨z,n,rfl,e,hz,q _ _ (qh.refl _) (.int _) (by simp)⟩
  ·cases h'
 ·have h':ibR x (λi=>.ok (.int i)) (λb=>.ok (.int (if b then 1 else 0)))=R.ok d:=by cases x<;>first|exact absurd ⟨_,rfl⟩ hx|exact h'
  rcases EW h' with ⟨i,rfl,h'⟩|⟨i,rfl,h'⟩
  ·cases h';exact .inl (.inl ⟨i,wd rs,q _ _ (qh.refl _) (.int _) (by simp)⟩)
  ·cases h';exact .inl (.inr ⟨i,yM rs,q _ _ (qh.refl _) (.int _) (by simp)⟩)
theorem EH:zv X (.type "bool") (rB1 g .bool):=kh (λ_=>rfl) λ_ _=>rfl
theorem Bx(hK:X.K=g.K)(hc:X.calm=true):zv X (.builtin "sum") (rB1 g .sum):=kh (λ_=>rfl) λ_ _=>rfl
theorem oG(hK:X.K=g.K)(hu:X.A.units+64<cLine):∀b,(X.calm=true\/b=.len\/b=.abs\/b=.tuple\/b=.list\/b=.int\/b=.bool)->zv X (b1V b) (rB1 g b)
 | .len,_=>Cp hK
 | .tuple,_=>AE hK
 | .list,_=>Ce hK
 | .sorted,_=>AF hK hu
 | .all,h=>nG hK (by simpa using h) true
 | .any,h=>nG hK (by simpa using h) false
 | .sum,h=>Bx hK (by simpa using h)
 | .min,h=>ny hK (by simpa using h) false
 | .max,h=>ny hK (by simpa using h) true
 | .abs,_=>uT
 | .int,_=>An
 | .bool,_=>EH
theorem tP{H:Hp}{ds:List D}{vs:List V}(r:qZ g H ds vs):ds.isEmpty=vs.isEmpty:=by cases r<;>rfl
theorem Eo(hK:X.K=g.K){S:Sh}{H:Hp}{d:D}{v:V}{b:Bool}(r:zE g H S d v)(e:truth d=.ok b):kI X.K v H b:=by
 cases d with
 |non=>cases r.rep;cases e;exact rfl
 |bl c=>cases r.rep;cases e;exact rfl
 |int i=>cases r.rep;cases e;exact rfl
 |tup xs=>
  cases e;obtain⟨a,vs,rfl,h1,r1⟩:=r.tup;exact .inr (.inl ⟨vs,by rw[hK];exact h1,by rw[tP r1]⟩)
 |lst xs=>
  cases e;obtain⟨a,vs,rfl,h1,r1⟩:=r.lst;exact .inl ⟨vs,by rw[hK];exact h1,by rw[tP r1]⟩
 |_=>cases e
theorem Ao(hK:X.K=g.K):zv X (.builtin "isinstance") (λxs H Q=>∃S d v n t,xs=[v,.ty n]/\zE g H S d v/\tyD d=some t/\n∈["int","bool","str","list","tuple"]/\Q (.bl (fS t n)) H):=by
 intro pins s σ H xs us Q I r h;obtain⟨S,d,v,n,t,rfl,rd,ht,hn,q⟩:=h;obtain⟨u,cu,rfl,rx,rc⟩:=r.two;cases rc;have fin:∀tk,EP X pins σ Q (.bool (fS t n)) {s with toks:=tk}:=λtk=>⟨.bl _,H,I.tok tk,rfl,q⟩
 have kb:t∈["NoneType","bool","int","str","list","tuple","dict"]->bz X.K (.type t) (.type n)=some (fS t n):=λh=>y9 h hn
 cases d with
 |non=>cases ht;cases rd.rep;exact gR I rx .non (kb (by simp)) fin
 |bl c=>cases ht;cases rd.rep;exact gR I rx (.bl c) (kb (by simp)) fin
 |int i=>cases ht;cases rd.rep;exact gR I rx (.int i) (kb (by simp)) fin
 |str i=>cases ht;cases rd.rep;exact gR I rx (.str i) (kb (by simp)) fin
 |tup xs=>
  cases ht;obtain⟨a,vs,rfl,h1,_⟩:=rd.tup;cases rx;obtain⟨its,_,⟨o,e1,e2,_⟩,_⟩:=I.tuple (by rw[hK];exact h1);exact bQ PySem.W.kitx_tuple I.kIn ⟨o,e1,e2⟩ (kb (by simp)) (λz=>nomatch z) fin
 |lst xs=>
  cases ht;obtain⟨a,vs,rfl,h1,_⟩:=rd.lst;cases rx;obtain⟨its,_,pl,_⟩:=I.list (by rw[hK];exact h1);obtain⟨o,e1,e2,_⟩:=pl.isList;exact bQ PySem.W.kitx_list I.kIn ⟨o,e1,e2⟩ (kb (by simp)) (λz=>nomatch z) fin
 |dic=>
  cases ht;cases rd.rep with
  |dic h1=>exact gR I rx (.dK h1) (kb (by simp)) fin
 |_=>cases ht
end
theorem Bo{o:O2}{a b:Int}{c:Str}:opI o a b≠.ex c:=by
 cases o<;>simp only[opI]<;>(try split)<;>intro h<;>cases h
theorem wD{o:O2}{a b:D}{c:Str}:op2 o a b≠.ex c:=by
 unfold op2;split
 ·exact Bo
 all_goals ((try split)<;>intro h<;>cases h)
theorem yQ{n:Bool}{a b:D}{c:Str}:isB n a b≠.ex c:=by
 unfold isB;split<;>intro h<;>cases h
theorem rC{a b:D}{c:Str}:eE a b≠.ex c:=by
 unfold eE;split<;>intro h<;>cases h
theorem B4{a b:D}{c:Str}:((eE a b).bind λr=>R.ok (!r))≠.ex c:=by
 cases h:eE a b with
 |ok r=>intro z;cases z
 |ex k=>exact absurd h rC
 |no=>intro z;cases z
theorem AD{o:C2}{a b:D}{c:Str}:qg o a b≠.ex c:=by
 unfold qg;split<;>(try split)<;>(try split)<;>intro h<;>first|cases h|exact yQ h|exact rC h|exact B4 h
theorem xn{a:D}{c:Str}:truth a≠.ex c:=by
 unfold truth;split<;>intro h<;>cases h
theorem ve{a b:D}{c:Str}:ixD a b≠.ex c:=by
 unfold ixD;split<;>(try split)<;>(try split)<;>intro h<;>cases h
theorem Ac{a:D}{l h:Option Int}{c:Str}:slD a l h≠.ex c:=by
 unfold slD;split<;>(try split)<;>intro h<;>cases h
theorem jU{x:D}{k:List D->R D}{c:Str}(h:∀xs,k xs≠.ex c):dH x k≠.ex c:=by
 cases x with
 |lst xs=>exact h xs
 |_=>intro z;cases z
theorem Fx{x:D}{f:Int->R D}{q:Bool->R D}{c:Str}(h:∀i,f i≠.ex c)(h':∀i,q i≠.ex c):ibR x f q≠.ex c:=by
 cases x with
 |int i=>exact h i
 |bl i=>exact h' i
 |_=>intro z;cases z
theorem pY{x y:D}{k:Int->Int->R D}{c:Str}(h:∀i j,k i j≠.ex c):iiR x y k≠.ex c:=by
 cases x with
 |int i=>
  cases y with
  |int j=>exact h i j
  |_=>intro z;cases z
 |_=>intro z;cases z
theorem gL{α β:Type}{o:Option α}{k:α->R β}{c:Str}(h:∀a,k a≠.ex c):zW o k≠.ex c:=by
 cases o with
 |some a=>exact h a
 |none=>intro z;cases z
theorem eC{α:Type}{a:α}{c:Str}:R.ok a≠.ex c:=by intro z;cases z
theorem c_{α:Type}{c:Str}:(R.no:R α)≠.ex c:=by intro z;cases z
theorem uA{b:B1}{d:D}{c:Str}:b11 b d≠.ex c:=by
 cases b with
 |len=>
  show (match d with | .str x=>if x.length<=SZ then R.ok (D.int x.length)else .no|d=>zW (seq? d) λxs=>.ok (.int xs.length))≠.ex c;split
  ·split
   ·exact eC
   ·exact c_
  ·exact gL λ_=>eC
 |tuple=>exact gL λ_=>eC
 |list=>exact c_
 |all=>exact jU λ_=>gL λ_=>eC
 |any=>exact jU λ_=>gL λ_=>eC
 |sorted=>exact c_
 |abs=>exact c_
 |int=>
  show (match d with | .str x=>if x.length<=640 then zW (PySem.intText? x) λn=>R.ok (D.int n)else .no|d=>ibR d (λi=>.ok (.int i)) λb=>.ok (.int (if b then 1 else 0)))≠.ex c;split
  ·split
   ·exact gL λ_=>eC
   ·exact c_
  ·exact Fx (λ_=>eC) λ_=>eC
 |bool=>exact c_
 |sum=>exact c_
 |min=>exact c_
 |max=>exact c_
theorem uY{b:B1}{ds:List D}{c:Str}:b1 b ds≠.ex c:=by
 match ds with
 | []=>exact c_
 | [_]=>exact uA
 | [x,y]=>
  cases b with
  |min=>exact pY λ_ _=>eC
  |max=>exact pY λ_ _=>eC
  |_=>exact c_
 |_::_::_::_=>exact c_
structure bp(g:Gc)(c:Cc)(e:E)(S:Sh)(H:Hp)(d:D)(v:V)(H':Hp):Prop where
 same:qh H H'
 rb:zE g H' S d v
 st:esc e=true->Rep g (hid H' S) d v
 fr:fresh c e=true->Fr g H S H' d v
structure SE(g:Gc)(c:Cc)(τ:Env)(σ:L2.St)(H:Hp)(S:Sh):Prop where
 len:τ.length=σ.length
 val:∀(i:Nat) (d:D),τ[i]? = some (some d)->∃v,σ[i]? = some (some v)/\zE g H S d v/\∀x,c.N[i]? = some x->c.own.contains x=false->Rep g (hid H S) d v
 sub:Sub S H
theorem SE.up{g:Gc}{c:Cc}{τ:Env}{σ:L2.St}{H H':Hp}{S:Sh}(s:SE g c τ σ H S)(e:qh H H'):SE g c τ σ H' S:=
 ⟨s.len,λi d h=>let ⟨v,h1,h2,h3⟩:=s.val i d h;⟨v,h1,h2.mono e,λx a b=>(h3 x a b).mono (zq e)⟩,s.sub.same e⟩
noncomputable def tR{α:Type}(g:Gc)(E:XK)(H:Hp)(r:R α)(k:α->Prop):Prop:=match r with
 | .ok a=>k a
 | .ex c=>∀H' C,qh H H'->g.clA c=some C->E (.ref C) none H'
 | .no=>False
theorem tR.up{α:Type}{g:Gc}{E:XK}{H H':Hp}{r:R α}{k:α->Prop}(h:tR g E H r k)(e:qh H H'):tR g E H' r k:=by
 cases r with
 |ok a=>exact h
 |ex c=>exact λH2 C e2 hc=>h H2 C (e.trans e2) hc
 |no=>exact h
theorem tR.imp{α:Type}{g:Gc}{E:XK}{H:Hp}{r:R α}{k k':α->Prop}(h:tR g E H r k)(i:∀a,k a->k' a):tR g E H r k':=by
 cases r with
 |ok a=>exact i a h
 |ex c=>exact h
 |no=>exact h
section
variable(w:W)(g:Gc)(c:Cc)(E:XK)
noncomputable def tE(e:EV.E):TE:=λσ H Q=>∃τ S,SE g c τ σ H S/\tR g E H (evE w e τ) λd=>∀v H',bp g c e S H d v H'->Q v H'
noncomputable def tT(t:T):TT:=λσ H Q=>∃τ S,SE g c τ σ H S/\tR g E H (evT w t τ) λb=>∀H',qh H H'->Q b H'
noncomputable def tA(es:Es):TA:=λσ H Q=>∃τ S,SE g c τ σ H S/\tR g E H (zw w es τ) λds=>∀vs H',qh H H'->fm g H' S ds vs->(eQ es=true->qZ g (hid H' S) ds vs)->Q vs H'
noncomputable def tOe(o:OE):TO:=λσ H Q=>∃τ S,SE g c τ σ H S/\tR g E H (evO w o τ) λi=>∀H',qh H H'->Q i H'
noncomputable def Goes(g:Gc)(J:L2.It)(ds:List D)(H:Hp)(S:Sh):Prop:=
 (∀i,ds.length<=i->J.stop i H)/\∀i d,ds[i]? = some d->J.go i H/\∀x H',J.yld i H x H'->qh H H'/\Rep g (hid H' S) d x
noncomputable def tIt(it:It):TI:=λσ H R=>∃τ S,SE g c τ σ H S/\tR g E H (evI w it τ) λds=>∀J H',qh H H' ->
 (∀H2 S2,qh H' H2->qh (hid H' S) (hid H2 S2)->Sub S2 H2->Goes g J ds H2 S2)->(owned it=false->∀H2 S2,qh (hid H' S) (hid H2 S2)->Sub S2 H2->Goes g J ds H2 S2)->R J H'
end
theorem PE.imp{X:Cx}{e:Expr}{t t':TE}(h:PE X e t)(i:∀σ H Q,t' σ H Q->t σ H Q):PE X e t':=λpins s σ H Q I q=>h pins s σ H Q I (i _ _ _ q)
theorem PT.imp{X:Cx}{e:Expr}{t t':TT}(h:PT X e t)(i:∀σ H Q,t' σ H Q->t σ H Q):PT X e t':=λpins s σ H Q I q=>h pins s σ H Q I (i _ _ _ q)
theorem PW.imp{X:Cx}{e:Expr}{t t':TT}(h:PW X e t)(i:∀σ H Q,t' σ H Q->t σ H Q):PW X e t':=λwh pins s σ H Q I q=>h wh pins s σ H Q I (i _ _ _ q)
theorem PA.imp{X:Cx}{e:List Expr}{t t':TA}(h:PA X e t)(i:∀σ H Q,t' σ H Q->t σ H Q):PA X e t':=λpos pins s σ H Q I q=>h pos pins s σ H Q I (i _ _ _ q)
theorem PO.imp{X:Cx}{e:Option Expr}{t t':TO}(h:PO X e t)(i:∀σ H Q,t' σ H Q->t σ H Q):PO X e t':=λpins s σ H Q I q=>h pins s σ H Q I (i _ _ _ q)
theorem PI.imp{X:Cx}{tg e:Expr}{t t':TI}(h:PI X tg e t)(i:∀σ H Q,t' σ H Q->t σ H Q):PI X tg e t':=λpins s σ H Q I q=>h pins s σ H Q I (i _ _ _ q)
theorem PS.imp{X:Cx}{e:Stmt}{t t':TS}(h:PS X e t)(i:∀D σ H,t' D σ H->t D σ H):PS X e t':=λpins s σ H Q I q=>h pins s σ H Q I (i _ _ _ q)
theorem PSs.imp{X:Cx}{e:List Stmt}{t t':TS}(h:PSs X e t)(i:∀D σ H,t' D σ H->t D σ H):PSs X e t':=λpins s σ H Q I q=>h pins s σ H Q I (i _ _ _ q)
section
variable{w:W}{g:Gc}{c:Cc}{E:XK}{τ:Env}{σ:L2.St}{H H0:Hp}{S:Sh}
theorem zh{α:Type}{e:EV.E}{f:D->R α}{P:α->Prop}{Q:VK}(se:SE g c τ σ H S)(h:tR g E H ((evE w e τ).bind f) P)(k:∀d v H',evE w e τ=.ok d->bp g c e S H d v H'->tR g E H' (f d) P->Q v H'):tE w g c E e σ H Q:=by
 refine⟨τ,S,se,?_⟩;cases q:evE w e τ with
 |ok d=>rw[q]at h;exact λv H' p=>k d v H' q p (tR.up h p.same)
 |ex x=>rw[q]at h;exact h
 |no=>rw[q]at h;exact h
theorem ji{α:Type}{t:T}{f:Bool->R α}{P:α->Prop}{Q:Bool->Hp->Prop}(se:SE g c τ σ H S)(h:tR g E H ((evT w t τ).bind f) P)(k:∀b H',evT w t τ=.ok b->qh H H'->tR g E H' (f b) P->Q b H'):tT w g c E t σ H Q:=by
 refine⟨τ,S,se,?_⟩;cases q:evT w t τ with
 |ok d=>rw[q]at h;exact λH' p=>k d H' q p (tR.up h p)
 |ex x=>rw[q]at h;exact h
 |no=>rw[q]at h;exact h
theorem gz{α:Type}{es:Es}{f:List D->R α}{P:α->Prop}{Q:List V->Hp->Prop}(se:SE g c τ σ H S)(h:tR g E H ((zw w es τ).bind f) P)
  (k:∀ds vs H',zw w es τ=.ok ds->qh H H'->fm g H' S ds vs->(eQ es=true->qZ g (hid H' S) ds vs)->tR g E H' (f ds) P->Q vs H'):tA w g c E es σ H Q:=by
 refine⟨τ,S,se,?_⟩;cases q:zw w es τ with
 |ok d=>rw[q]at h;exact λvs H' p r r'=>k d vs H' q p r r' (tR.up h p)
 |ex x=>rw[q]at h;exact h
 |no=>rw[q]at h;exact h
theorem sM{α:Type}{o:OE}{f:Option Int->R α}{P:α->Prop}{Q:Option Int->Hp->Prop}(se:SE g c τ σ H S)(h:tR g E H ((evO w o τ).bind f) P)(k:∀b H',evO w o τ=.ok b->qh H H'->tR g E H' (f b) P->Q b H'):tOe w g c E o σ H Q:=by
 refine⟨τ,S,se,?_⟩;cases q:evO w o τ with
 |ok d=>rw[q]at h;exact λH' p=>k d H' q p (tR.up h p)
 |ex x=>rw[q]at h;exact h
 |no=>rw[q]at h;exact h
theorem bp.of{e:EV.E}{d:D}{v:V}{H':Hp}(s:qh H H')(r:Rep g (hid H' S) d v)(f:fresh c e=false):bp g c e S H d v H':=⟨s,.inl r,λ_=>r,λz=>by rw[f]at z;cases z⟩
theorem bp.new{e:EV.E}{d:D}{v:V}{H':Hp}(s:qh H H')(r:Rep g (hid H' S) d v)(f:Fr g H S H' d v):bp g c e S H d v H':=⟨s,.inl r,λ_=>r,λ_=>f⟩
theorem Fr.low{d:D}{v:V}{H1 H':Hp}(f:Fr g H1 S H' d v)(e:qh H H1):Fr g H S H' d v:=by
 obtain⟨a,vs,ds,h1,h2,h3,h4,h5⟩:=f;exact⟨a,vs,ds,h1,h2,e.free h3,h4,h5⟩
end
noncomputable def b1N:B1->Str
 | .len=>"len"
 | .tuple=>"tuple"
 | .list=>"list"
 | .sorted=>"sorted"
 | .all=>"all"
 | .any=>"any"
 | .sum=>"sum"
 | .min=>"min"
 | .max=>"max"
 | .abs=>"abs"
 | .int=>"int"
 | .bool=>"bool"
theorem m5:∀b,bO (b1N b)=some (b1V b)
 | .len | .tuple | .list | .sorted | .all | .any | .sum | .min | .max | .abs | .int | .bool=>by decide +kernel
noncomputable def spF(w:W)(g:Gc)(x:Str)(fr:Bool):Sp:=λvs H Q E=>∃S ds,Sub S H/\qZ g (hid H S) ds vs /\
 tR g E H (w.call x ds) λd=>∀v H',qh H H'->Rep g (hid H' S) d v->(fr=true->Fr g H S H' d v)->Q v H'
structure j_(w:W)(g:Gc)(P:aB)(wl:aw)(mg:Str->Option ae)(base:Heap)(A:aC)(calm:Bool)(x:Str)(f:Addr)(fr:Bool):Prop where
 at_:mg x=some (.ref f)
 kp:cx g.K (.ref f)=true
 fn:∃k fd ps,Binds g.K fd ps []/\((calm=true/\fN P wl g.K mg base (CX1 P wl) k f fd ps (spF w g x fr)/\ck k A)\/(calm=false/\iG P wl g.K mg base (CX1 P wl) k f fd ps (spF w g x fr)/\eX k A))
noncomputable def GM(w:W)(g:Gc)(P:aB)(wl:aw)(mg:Str->Option ae)(base:Heap)(A:aC)(calm:Bool)(x:Str):GK->Prop
 | .fn fr=>∃f,g.fnA x=some f/\j_ w g P wl mg base A calm x f fr
 | .val=>∃u v d,mg x=some u/\RelV v u/\w.glb x=some d/\∀H,Rep g H d v
 | .bi b=>mg x=none/\x=b1N b/\∃id,b1V b=.builtin id
 | .rng=>mg x=none/\x = "range"
 | .enum=>mg x=none/\x = "enumerate"
 | .zip=>mg x=none/\x = "zip"
 | .isi=>mg x=none/\x = "isinstance"
 | .ty n b=>mg x=none/\bO x=some (.type n)/\(n∈["int","bool","str","list","tuple"]\/n = "ValueError")/\∀b',b=some b'->x=b1N b'/\b1V b'=.type n
 | .exc=>∃C,mg x=some (.ref C)/\g.clA x=some C
 | .exk=>∃C,mg x=some (.ref C)/\g.clA x=some C
 | .set=>mg x=none/\bO x=some (.type "set")
structure XO(w:W)(g:Gc)(c:Cc)(E:XK)(X:Cx):Prop where
 K:X.K=g.K
 nm:X.env.scope.names=c.nm
 N:X.N=c.N
 nd:c.N.Nodup
 calm:c.calm=true->X.calm=true
 units:X.A.units+64<cLine
 fn:∀x,(c.fnc=true\/c.oc.contains x=true)->X.fn x=true
 kind:X.env.scope.kind=.function
 pass:Passes (CX1 X.prog X.w) X E
 gok:∀x k,c.G.lookup x=some k->GM w g X.prog X.w X.mg X.base X.A X.calm x k
 fns:X.calm=true->∀x f,g.fnA x=some f->∃fr,j_ w g X.prog X.w X.mg X.base X.A X.calm x f fr
 -- what isinstance says of a caught error
 sub:∀k cl b,w.sub k cl=some b->∃C cv,g.clA k=some C/\dI g.K C/\bz g.K (.ref C) cv=some b/\match cl with
  | .ty n=>n = "ValueError"/\cv=.type n
  | .ex x=>∃D,g.clA x=some D/\cv=.ref D
section
variable{w:W}{g:Gc}{c:Cc}{E:XK}{X:Cx}
theorem fA{x:Str}{i:Nat}(h:loc c x=some i):c.N[i]? = some x/\(c.nm.lookup x=some .local\/c.nm.lookup x=some .cell\/c.nm.lookup x=some .free)/\(x==("__debug__" : Str))=false/\(x==("__classdict__" : Str))=false:=by
 unfold loc at h;split at h
 ·cases h
 ·rename_i hd
  have hd':(x==("__debug__" : Str))=false/\(x==("__classdict__" : Str))=false:=by simpa using hd
  have fin:∀{j},(if c.N[j]? = some x then some j else none)=some i->c.N[i]? = some x:=λ{j} z=>by
   split at z
   ·cases z;assumption
   ·cases z
  split at h
  ·rename_i q;exact⟨fin h,.inl q,hd'⟩
  ·rename_i q;exact⟨fin h,.inr (.inl q),hd'⟩
  ·rename_i q;exact⟨fin h,.inr (.inr q),hd'⟩
  ·cases h
theorem zr{x:Str}{k:GK}(h:glob c x=some k):c.nm.lookup x=some .globalImplicit/\c.G.lookup x=some k/\(x==("__debug__" : Str))=false/\x≠"__name__":=by
 unfold glob at h;split at h
 ·cases h
 ·rename_i hd
  have hd':(x==("__debug__" : Str))=false/\(x==("__name__" : Str))=false:=by simpa using hd
  split at h
  ·rename_i q;exact⟨q,h,hd'.1,by simpa using hd'.2⟩
  ·cases h
theorem XO.gl(O:XO w g c E X){x:Str}{k:GK}(h:glob c x=some k):Gl X x:=by
 show X.env.scope.names.lookup x=_;rw[O.nm];exact(zr h).1
theorem XO.gm(O:XO w g c E X){x:Str}{k:GK}(h:glob c x=some k):GM w g X.prog X.w X.mg X.base X.A X.calm x k:=O.gok x k (zr h).2.1
theorem qu{e:Expr}{es:List Expr}{env:PySem.Env}(h:isStar e=false):aZ (e::es) env=(false,eval e env)::aZ es env:=by
 cases e<;>first|rfl|(simp[isStar]at h)
theorem jT{es:List Expr}{env:PySem.Env}{pos:Pos}:(∀e∈es,isStar e=false)->(backTo pos (aZ es env)).any (·.1)=false:=by
 induction es with
 |nil=>intro _;rfl
 |cons e es ih=>
  intro h;rw[qu (h e aO)];show (false||(backTo pos (aZ es env)).any (·.1))=false;rw[ih λe he=>h e (aK _ he)]
  rfl
theorem fK:∀{n:Nat}{es:List Expr}{ir:Es},cEs n c es=some ir->∀e∈es,isStar e=false
 | 0,_,_,h=>by simp[cEs]at h
 |n+1,[],_,_=>by simp
 |n+1,e::es,ir,h=>by
  simp only[cEs]at h;cases hs:isStar e with
  |true=>simp[hs]at h
  |false=>
   simp only[hs,aR,if_false,aH,aF]at h;obtain⟨_,_,r,hr,_⟩:=h;intro x hx;rcases aG.mp hx with rfl|hx
   ·exact hs
   ·exact fK hr x hx
theorem xM{x:Str}{f:Addr}{fr:Bool}{e:Expr}{es:List Expr}{p pos:Pos}{t:TA}(O:XO w g c E X)(C:j_ w g X.prog X.w X.mg X.base X.A X.calm x f fr)(hg:Gl X x)(hd:(x==("__debug__" : Str))=false)(ha:PA X (e::es) t)
  (hs:∀z∈e::es,isStar z=false):PE X (.Call (.Name x p) (e::es) [] pos) (mv (spF w g x fr) [] E t):=by
 obtain⟨k,fd,ps,hb,h⟩:=C.fn;have he:=qu (es:=es) (env:=X.env) (hs e aO);have hp:=jT (env:=X.env) (pos:=pos) λz hz=>hs z (aK _ hz)
 rw[<-O.K]at hb h;rcases h with ⟨_,F,r⟩|⟨_,F,r⟩
 ·exact wW F r hg C.at_ (by rw[O.K];exact C.kp) hb .nil O.pass ha hd he hp
 ·exact Fz F r hg C.at_ (by rw[O.K];exact C.kp) hb .nil O.pass ha hd he hp
end
end EV
namespace L2
open PySem PySem.Spec PyProof.Rows
section
variable{X:Cx}
end
end L2
namespace EV
open PySem PySem.Spec PySem.P PyProof.Rows L2
section
variable{w:W}{g:Gc}{c:Cc}{E:XK}{X:Cx}{a b d f:Expr}{ia ib id' if':EV.E}{pos p2:Pos}{ta tb:T}
theorem jt{e:Expr}{v:V}{dd:D}(h:PE X e (tC v))(r:∀H,Rep g H dd v):PE X e (tE w g c E (.con dd)):=PE.imp h λσ H Q ⟨τ,S,se,k⟩=>k v H (bp.of (qh.refl _) (r _) rfl)
theorem kO{x:Str}{i:Nat}(O:XO w g c E X)(h:loc c x=some i):PE X (.Name x pos) (tE w g c E (if c.own.contains x then .own i else .var i)):=by
 obtain⟨h1,h2,h3,h4⟩:=fA h;refine PE.imp (jR (i:=i) (by rw[O.N];exact h1) (by unfold gH;rw[O.nm];exact h2) h3 h4) λσ H Q ⟨τ,S,se,k⟩=>?_
 have key:∀e,evE w e τ=bX τ i->fresh c e=false->(esc e=true->c.own.contains x=false)->tR g E H (evE w e τ) (λd=>∀v H',bp g c e S H d v H'->Q v H')->iB i σ H Q:=λe e1 e2 e3 k=>by
  rw[e1]at k;unfold bX at k;cases q:τ[i]? with
  |none=>rw[q]at k;exact k.elim
  |some o=>
   cases o with
   |none=>rw[q]at k;exact k.elim
   |some d=>
    rw[q]at k;obtain⟨v,z1,z2,z3⟩:=se.val i d q;exact⟨v,z1,k v H ⟨qh.refl _,z2,λz=>z3 x h1 (e3 z),λz=>by rw[e2]at z;cases z⟩⟩
 cases ho:c.own.contains x with
 |true=>rw[ho]at k;exact key (.own i) (by simp[za,ze,qY,zj,zf,zb,zm,zk,zg,qE,qC,qy,qI,qG,qz,qt,qD,qk,qx,qp,qX,qi,qK,qU,qH,qw,qQ,qW,qO,qS,qV,qR,qP,qN,qF,qA,qr,qT,qM,qJ,qL,qB]) rfl (by intro z;cases z) k
 |false=>rw[ho]at k;exact key (.var i) (by simp[za,ze,qY,zj,zf,zb,zm,zk,zg,qE,qC,qy,qI,qG,qz,qt,qD,qk,qx,qp,qX,qi,qK,qU,qH,qw,qQ,qW,qO,qS,qV,qR,qP,qN,qF,qA,qr,qT,qM,qJ,qL,qB]) rfl (λ_=>ho) k
theorem yJ{x:Str}(O:XO w g c E X)(h:glob c x=some .val):PE X (.Name x pos) (tE w g c E (.glb x)):=by
 obtain⟨u,v,d,h1,h2,h3,h4⟩:=O.gm h;refine PE.imp (mq (O.gl h) h1 h2 (zr h).2.2.1) λσ H Q ⟨τ,S,se,k⟩=>?_
 simp only[za,ze,qY,zj,zf,zb,zm,zk,zg,qE,qC,qy,qI,qG,qz,qt,qD,qk,qx,qp,qX,qi,qK,qU,qH,qw,qQ,qW,qO,qS,qV,qR,qP,qN,qF,qA,qr,qT,qM,qJ,qL,qB,h3]at k;exact k v H (bp.of (qh.refl _) (h4 _) rfl)
theorem u9{x:Str}{fr:Bool}(O:XO w g c E X)(h:glob c x=some (.fn fr)):PE X (.Name x pos) (tE w g c E (.fnv x)):=λpins s σ H Q I ⟨τ,S,se,kk⟩=>by
 simp only[za,ze,qY,zj,zf,zb,zm,zk,zg,qE,qC,qy,qI,qG,qz,qt,qD,qk,qx,qp,qX,qi,qK,qU,qH,qw,qQ,qW,qO,qS,qV,qR,qP,qN,qF,qA,qr,qT,qM,qJ,qL,qB]at kk;exact a9 kk
theorem nQ{τ:EV.Env}{e:EV.E}{d:D}(h:isL e=true)(he:evE w e τ=.ok d):m7 d=true:=by
 cases e<;>first|(cases h;done)|skip
 ·simp only[za,ze,qY,zj,zf,zb,zm,zk,zg,qE,qC,qy,qI,qG,qz,qt,qD,qk,qx,qp,qX,qi,qK,qU,qH,qw,qQ,qW,qO,qS,qV,qR,qP,qN,qF,qA,qr,qT,qM,qJ,qL,qB]at he;cases q:zw w ‹_› τ with
  |ok ds=>rw[q]at he;cases he;rfl
  |ex z=>rw[q]at he;cases he
  |no=>rw[q]at he;cases he
 ·simp only[za,ze,qY,zj,zf,zb,zm,zk,zg,qE,qC,qy,qI,qG,qz,qt,qD,qk,qx,qp,qX,qi,qK,qU,qH,qw,qQ,qW,qO,qS,qV,qR,qP,qN,qF,qA,qr,qT,qM,qJ,qL,qB]at he;cases he
 ·simp only[za,ze,qY,zj,zf,zb,zm,zk,zg,qE,qC,qy,qI,qG,qz,qt,qD,qk,qx,qp,qX,qi,qK,qU,qH,qw,qQ,qW,qO,qS,qV,qR,qP,qN,qF,qA,qr,qT,qM,qJ,qL,qB]at he;cases q:evI w ‹_› τ with
  |ok ds=>
   rw[q]at he;simp only[R.bind_ok]at he;split at he
   ·cases he
   ·generalize zZ _ _ _ _=r at he;cases r with
    |ok o=>cases he;rfl
    |ex z=>cases he
    |no=>cases he
  |ex z=>rw[q]at he;cases he
  |no=>rw[q]at he;cases he
theorem CT(O:XO w g c E X){op:Operator}{o:O2}(ho:o2 op=some o)(ha:PE X a (tE w g c E ia))(hb:PE X b (tE w g c E ib)):PE X (.BinOp a op b pos) (tE w g c E (.op o ia ib)):=
 PE.imp (sT (yx O.K ho) ha hb) λσ H Q ⟨τ,S,se,k⟩=>by
  simp only[za,ze,qY,zj,zf,zb,zm,zk,zg,qE,qC,qy,qI,qG,qz,qt,qD,qk,qx,qp,qX,qi,qK,qU,qH,qw,qQ,qW,qO,qS,qV,qR,qP,qN,qF,qA,qr,qT,qM,qJ,qL,qB]at k;refine zh se k λda va H1 e1 p1 k1=>zh (se.up p1.same) k1 λdb vb H2 e2 p2 k2=>⟨S,da,db,(se.up (p1.same.trans p2.same)).sub,p1.rb.mono p2.same,p2.rb,?_⟩
  cases q:op2 o da db with
  |ok r=>
   rw[q]at k2;exact λv H' s r f=>k2 v H' ⟨(p1.same.trans p2.same).trans s,.inl r,λ_=>r,λz=>by
    simp only[fresh,bV,aJ,beq_iff_eq]at z;refine(f ?_).low (p1.same.trans p2.same);rcases z with z|⟨rfl,z⟩
    ·exact nQ z.2 e1
    ·have:=nQ z e2;cases db<;>first|(cases this;done)|skip
     cases da<;>first|rfl|(cases q;done)⟩
  |ex z=>exact wD q
  |no=>rw[q]at k2;exact k2
theorem yI(ha:PE X a (tE w g c E ia)):PE X (.UnaryOp .USub a pos) (tE w g c E (.neg ia)):=
 PE.imp (jY kq ha) λσ H Q ⟨τ,S,se,k⟩=>by
  simp only[za,ze,qY,zj,zf,zb,zm,zk,zg,qE,qC,qy,qI,qG,qz,qt,qD,qk,qx,qp,qX,qi,qK,qU,qH,qw,qQ,qW,qO,qS,qV,qR,qP,qN,qF,qA,qr,qT,qM,qJ,qL,qB]at k;refine zh se k λda va H1 e1 p1 k1=>?_
  cases da with
  |int i=>exact⟨i,p1.rb.int,k1 _ _ (bp.of p1.same (.int _) rfl)⟩
  |_=>exact k1.elim
theorem oZ(O:XO w g c E X)(ix:Bool){x:Str}{i:Nat}{ap cp p q:Pos}{kk:Nat}(h:loc c x=some i)(hl:(ap.endLine==cp.line)=true) :
  PE X (.Call (.Attribute (.Name x p) (if ix then "index" else "count") ap) [.Constant (.bool true) kk q] [] cp) (tE w g c E (.mth ix (if c.own.contains x then .own i else .var i))):=by
 have hst:=qu (e:=.Constant (.bool true) kk q) (es:=[]) (env:=X.env) rfl;have pa:PA X [.Constant (.bool true) kk q] _:=zA nS cM hst;have hK:=O.K;cases ix with
 |false=>
  refine PE.imp (gQ (X:=X) (apos:=ap) (cpos:=cp) PySem.F.plainAttrs_list PySem.F.slot_list_count (by rfl) AN (kO O h) pa rfl (by rw[hst];rfl) hl hst rfl) λσ H Q ⟨τ,S,se,k⟩=>?_
  simp only[za,ze,qY,zj,zf,zb,zm,zk,zg,qE,qC,qy,qI,qG,qz,qt,qD,qk,qx,qp,qX,qi,qK,qU,qH,qw,qQ,qW,qO,qS,qV,qR,qP,qN,qF,qA,qr,qT,qM,qJ,qL,qB]at k;refine zh se k λda va H1 e1 p1 k1=>?_
  cases da with
  |lst xs=>
   obtain⟨a,vs,rfl,h1,h2⟩:=p1.rb.lst;simp only[jz,dH]at k1;cases e:bools? xs with
   |none=>rw[e]at k1;exact k1.elim
   |some bs=>
    rw[e]at k1;have:=h2.bools e;subst this;exact⟨.inl ⟨rfl,_,by rw[hK];exact h1⟩,a,bs,rfl,rfl,by rw[hK];exact h1,k1 _ _ (bp.of p1.same (.int _) rfl)⟩
  |_=>exact k1.elim
 |true=>
  refine PE.imp (gQ (X:=X) (apos:=ap) (cpos:=cp) PySem.F.plainAttrs_list PySem.F.slot_list_index (by rfl) Fl (kO O h) pa rfl (by rw[hst];rfl) hl hst rfl) λσ H Q ⟨τ,S,se,k⟩=>?_
  simp only[za,ze,qY,zj,zf,zb,zm,zk,zg,qE,qC,qy,qI,qG,qz,qt,qD,qk,qx,qp,qX,qi,qK,qU,qH,qw,qQ,qW,qO,qS,qV,qR,qP,qN,qF,qA,qr,qT,qM,qJ,qL,qB]at k;refine zh se k λda va H1 e1 p1 k1=>?_
  cases da with
  |lst xs=>
   obtain⟨a,vs,rfl,h1,h2⟩:=p1.rb.lst;simp only[jz,dH]at k1;cases e:bools? xs with
   |none=>rw[e]at k1;exact k1.elim
   |some bs=>
    rw[e]at k1;have:=h2.bools e;subst this;simp only[zW]at k1;rw[if_pos trivial]at k1;cases ej:bs.findIdx? id with
    |none=>rw[ej]at k1;exact k1.elim
    |some j=>
     rw[ej]at k1;exact⟨.inl ⟨rfl,_,by rw[hK];exact h1⟩,a,bs,j,rfl,rfl,by rw[hK];exact h1,ej,k1 _ _ (bp.of p1.same (.int _) rfl)⟩
  |_=>exact k1.elim
theorem Ai(O:XO w g c E X){o:Expr}{m:Str}{ap cp:Pos}{as:List Expr}{e:EV.E}(h:cMt c o m ap as cp=some e):PE X (.Call (.Attribute o m ap) as [] cp) (tE w g c E e):=by
 unfold cMt at h;split at h
 ·split at h
  ·split at h
   ·split at h
    ·split at h
     ·rename_i hx
      split at h
      ·rename_i hb
       simp only[aJ]at hb;obtain⟨rfl,hl⟩:=hb;split at h
       ·rename_i hm
        subst hm;cases h;exact oZ O false hx hl
       ·split at h
        ·rename_i hm
         subst hm;cases h;exact oZ O true hx hl
        ·cases h
      ·cases h
     ·cases h
    ·cases h
   ·cases h
  ·cases h
 ·cases h
theorem pP{o:Expr}{m:Str}(h:baseOk o=true):attributeBase o m X.env (eval o X.env)=eval o X.env:=by
 unfold baseOk at h;split at h
 ·rfl
 ·rfl
 ·cases h
theorem D_(O:XO w g c E X){o:Expr}{ap cp:Pos}(hb:baseOk o=true)(ho:PE X o (tE w g c E ia))(ha:PE X a (tE w g c E ib))(hs:isStar a=false)(hl:(ap.endLine==cp.line)=true) :
  PE X (.Call (.Attribute o "count" ap) [a] [] cp) (tE w g c E (.cnt ia ib)):=λpins s σ H Q I ⟨τ,S,se,kk⟩=>by
 simp only[za,ze,qY,zj,zf,zb,zm,zk,zg,qE,qC,qy,qI,qG,qz,qt,qD,qk,qx,qp,qX,qi,qK,qU,qH,qw,qQ,qW,qO,qS,qV,qR,qP,qN,qF,qA,qr,qT,qM,qJ,qL,qB]at kk;exact a9 kk
theorem AW(ha:PE X a (tE w g c E ia)):PE X (.UnaryOp .Invert a pos) (tE w g c E (.inv ia)):=λpins s σ H Q I ⟨τ,S,se,kk⟩=>by
 simp only[za,ze,qY,zj,zf,zb,zm,zk,zg,qE,qC,qy,qI,qG,qz,qt,qD,qk,qx,qp,qX,qi,qK,qU,qH,qw,qQ,qW,qO,qS,qV,qR,qP,qN,qF,qA,qr,qT,qM,qJ,qL,qB]at kk;exact a9 kk
theorem B'(ha:PE X a (tE w g c E ia)):PE X (.UnaryOp .Not a pos) (tE w g c E (.not ia)):=
 PE.imp (yw ha) λσ H Q ⟨τ,S,se,k⟩=>by
  simp only[za,ze,qY,zj,zf,zb,zm,zk,zg,qE,qC,qy,qI,qG,qz,qt,qD,qk,qx,qp,qX,qi,qK,qU,qH,qw,qQ,qW,qO,qS,qV,qR,qP,qN,qF,qA,qr,qT,qM,qJ,qL,qB]at k;refine zh se k λda va H1 e1 p1 k1=>?_
  cases da with
  |bl i=>exact⟨i,p1.rb.bl,k1 _ _ (bp.of p1.same (.bl _) rfl)⟩
  |_=>exact k1.elim
theorem bp.pass{e e':EV.E}{S:Sh}{H H1 H':Hp}{dd:D}{v:V}(s:qh H H1)(p:bp g c e S H1 dd v H')(h:esc e=true)(f:fresh c e'=false):bp g c e' S H dd v H':=bp.of (s.trans p.same) (p.st h) f
theorem E3{rest:List Expr}{ir:EV.E}(ha:PE X a (tE w g c E ia))(hb:PE X (.BoolOp .And (b::rest) pos) (tE w g c E ir))(he:esc ir=true):PE X (.BoolOp .And (a::b::rest) pos) (tE w g c E (.and ia ir)):=
 PE.imp (DK ha hb) λσ H Q ⟨τ,S,se,k⟩=>by
  simp only[za,ze,qY,zj,zf,zb,zm,zk,zg,qE,qC,qy,qI,qG,qz,qt,qD,qk,qx,qp,qX,qi,qK,qU,qH,qw,qQ,qW,qO,qS,qV,qR,qP,qN,qF,qA,qr,qT,qM,qJ,qL,qB]at k;refine zh se k λda va H1 e1 p1 k1=>?_
  cases da with
  |bl i=>
   refine⟨i,p1.rb.bl,?_⟩;cases i with
   |true=>
    refine⟨τ,S,se.up p1.same,tR.imp k1 λd hk v H' p=>hk v H' (p.pass p1.same he rfl)⟩
   |false=>exact k1 _ _ (bp.of p1.same (.bl _) rfl)
  |_=>exact k1.elim
theorem yd{rest:List Expr}{ir:EV.E}(ha:PE X a (tE w g c E ia))(hb:PE X (.BoolOp .Or (b::rest) pos) (tE w g c E ir))(he:esc ir=true):PE X (.BoolOp .Or (a::b::rest) pos) (tE w g c E (.or ia ir)):=
 PE.imp (Dv ha hb) λσ H Q ⟨τ,S,se,k⟩=>by
  simp only[za,ze,qY,zj,zf,zb,zm,zk,zg,qE,qC,qy,qI,qG,qz,qt,qD,qk,qx,qp,qX,qi,qK,qU,qH,qw,qQ,qW,qO,qS,qV,qR,qP,qN,qF,qA,qr,qT,qM,qJ,qL,qB]at k;refine zh se k λda va H1 e1 p1 k1=>?_
  cases da with
  |bl i=>
   refine⟨i,p1.rb.bl,?_⟩;cases i with
   |false=>
    refine⟨τ,S,se.up p1.same,tR.imp k1 λd hk v H' p=>hk v H' (p.pass p1.same he rfl)⟩
   |true=>exact k1 _ _ (bp.of p1.same (.bl _) rfl)
  |_=>exact k1.elim
theorem hU{op:CmpOp}{b:Expr}(h:zz b=true):behindInMarks op b=false:=by cases b<;>first|rfl|(simp[zz]at h)
theorem ee{o:C2}{S:Sh}{H:Hp}{da db:D}{va vb:V}{r:R Bool}{P:Bool->Prop}{Q:VK}(ra:zE g H S da va)(rb:zE g H S db vb)(q:tR g E H (qg o da db) P)(k:∀z,qg o da db=.ok z->P z->Q (.bl z) H):rCm g o va vb H Q:=by
 refine⟨S,da,db,ra,rb,?_⟩;cases e:qg o da db with
 |ok z=>rw[e]at q;exact k z e q
 |ex z=>exact AD e
 |no=>rw[e]at q;exact q
theorem tR.bnd{α β:Type}{H:Hp}{r:R α}{f:α->R β}{P:β->Prop}(h:tR g E H (r.bind f) P):tR g E H r λa=>tR g E H (f a) P:=by
 cases r with
 |ok a=>exact h
 |ex z=>exact h
 |no=>exact h
theorem AA(O:XO w g c E X){op:CmpOp}(ha:PE X a (tE w g c E ia))(hb:PE X b (tE w g c E ib))(hs:zz b=true):PE X (.Compare a [op] [b] pos) (tE w g c E (.cmp (c2 op) ia ib)):=
 PE.imp (Be (er O.K O.units op) ha hb (hU hs)) λσ H Q ⟨τ,S,se,k⟩=>by
  simp only[za,ze,qY,zj,zf,zb,zm,zk,zg,qE,qC,qy,qI,qG,qz,qt,qD,qk,qx,qp,qX,qi,qK,qU,qH,qw,qQ,qW,qO,qS,qV,qR,qP,qN,qF,qA,qr,qT,qM,qJ,qL,qB]at k;refine zh se k λda va H1 e1 p1 k1=>zh (se.up p1.same) k1 λdb vb H2 e2 p2 k2=>?_
  exact ee (r:=.no) (p1.rb.mono p2.same) p2.rb (tR.bnd k2) λz _ q=>q _ _ (bp.of (p1.same.trans p2.same) (.bl _) rfl)
theorem xa(O:XO w g c E X){op:CmpOp}(ha:PE X a (tE w g c E ia))(hb:PE X b (tE w g c E ib))(hs:zz b=true):PT X (.Compare a [op] [b] pos) (tT w g c E (.cmp (c2 op) ia ib)):=
 PT.imp (CY (er O.K O.units op) ha hb (hU hs)) λσ H Q ⟨τ,S,se,k⟩=>by
  simp only[fM,fj,dj,fh,fg,zX,d_]at k;refine zh se k λda va H1 e1 p1 k1=>zh (se.up p1.same) k1 λdb vb H2 e2 p2 k2=>?_
  exact ee (r:=.no) (p1.rb.mono p2.same) p2.rb k2 λz _ q=>⟨z,rfl,q _ (p1.same.trans p2.same)⟩
theorem AO(O:XO w g c E X){op op':CmpOp}(ha:PE X a (tE w g c E ia))(hb:PE X b (tE w g c E ib))(hd:PE X d (tE w g c E id'))(hs':zz d=true):PE X (.Compare a [op,op'] [b,d] pos) (tE w g c E (.cmp2 (c2 op) (c2 op') ia ib id')):=
 PE.imp (vE (er O.K O.units op) (er O.K O.units op') ha hb hd (hU hs')) λσ H Q ⟨τ,S,se,k⟩=>by
  simp only[za,ze,qY,zj,zf,zb,zm,zk,zg,qE,qC,qy,qI,qG,qz,qt,qD,qk,qx,qp,qX,qi,qK,qU,qH,qw,qQ,qW,qO,qS,qV,qR,qP,qN,qF,qA,qr,qT,qM,qJ,qL,qB]at k;refine zh se k λda va H1 e1 p1 k1=>zh (se.up p1.same) k1 λdb vb H2 e2 p2 k2=>?_
  have s2:=p1.same.trans p2.same;refine ee (r:=.no) (p1.rb.mono p2.same) p2.rb (tR.bnd k2) λz _ q=>⟨z,rfl,?_⟩
  cases z with
  |true=>
   exact zh (se.up s2) q λdd vd H3 e3 p3 k3=>ee (r:=.no) (p2.rb.mono p3.same) p3.rb (tR.bnd k3) λz _ q=>q _ _ (bp.of (s2.trans p3.same) (.bl _) rfl)
  |false=>exact q _ _ (bp.of s2 (.bl _) rfl)
theorem uM(O:XO w g c E X){op op':CmpOp}(ha:PE X a (tE w g c E ia))(hb:PE X b (tE w g c E ib))(hd:PE X d (tE w g c E id'))(hs':zz d=true):PT X (.Compare a [op,op'] [b,d] pos) (tT w g c E (.cmp2 (c2 op) (c2 op') ia ib id')):=
 PT.imp (BV (er O.K O.units op) (er O.K O.units op') ha hb hd (hU hs')) λσ H Q ⟨τ,S,se,k⟩=>by
  simp only[fM,fj,dj,fh,fg,zX,d_]at k;refine zh se k λda va H1 e1 p1 k1=>zh (se.up p1.same) k1 λdb vb H2 e2 p2 k2=>?_
  have s2:=p1.same.trans p2.same;refine ee (r:=.no) (p1.rb.mono p2.same) p2.rb (tR.bnd k2) λz _ q=>⟨z,rfl,?_⟩
  cases z with
  |true=>
   exact zh (se.up s2) q λdd vd H3 e3 p3 k3=>ee (r:=.no) (p2.rb.mono p3.same) p3.rb k3 λz _ q=>⟨z,rfl,q _ (s2.trans p3.same)⟩
  |false=>exact⟨false,rfl,q _ s2⟩
theorem CK(O:XO w g c E X){op op' op'':CmpOp}(ha:PE X a (tE w g c E ia))(hb:PE X b (tE w g c E ib))(hd:PE X d (tE w g c E id'))(hf:PE X f (tE w g c E if'))(hs':zz f=true):PE X (.Compare a [op,op',op''] [b,d,f] pos) (tE w g c E (.cmp3 (c2 op) (c2 op') (c2 op'') ia ib id' if')):=
 PE.imp (vg (er O.K O.units op) (er O.K O.units op') (er O.K O.units op'') ha hb hd hf (hU hs')) λσ H Q ⟨τ,S,se,k⟩=>by
  simp only[za,ze,qY,zj,zf,zb,zm,zk,zg,qE,qC,qy,qI,qG,qz,qt,qD,qk,qx,qp,qX,qi,qK,qU,qH,qw,qQ,qW,qO,qS,qV,qR,qP,qN,qF,qA,qr,qT,qM,qJ,qL,qB]at k;refine zh se k λda va H1 e1 p1 k1=>zh (se.up p1.same) k1 λdb vb H2 e2 p2 k2=>?_
  have s2:=p1.same.trans p2.same;refine ee (r:=.no) (p1.rb.mono p2.same) p2.rb (tR.bnd k2) λz _ q=>⟨z,rfl,?_⟩
  cases z with
  |true=>
   refine zh (se.up s2) q λdd vd H3 e3 p3 k3=>ee (r:=.no) (p2.rb.mono p3.same) p3.rb (tR.bnd k3) λz _ q=>⟨z,rfl,?_⟩
   have s3:=s2.trans p3.same;cases z with
   |true=>exact zh (se.up s3) q λdf vf H4 e4 p4 k4=>ee (r:=.no) (p3.rb.mono p4.same) p4.rb (tR.bnd k4) λz _ q=>q _ _ (bp.of (s3.trans p4.same) (.bl _) rfl)
   |false=>exact q _ _ (bp.of s3 (.bl _) rfl)
  |false=>exact q _ _ (bp.of s2 (.bl _) rfl)
theorem vR{a b c d:Expr}{ta tb tc td:TE}{pos:Pos}{op op' op'':CmpOp}{r r' r'':R2}(ho:OpR X (ba op) r)(ho':OpR X (ba op') r')(ho'':OpR X (ba op'') r'')(ha:PE X a ta)(hb:PE X b tb)(hc:PE X c tc)(hd:PE X d td)
  (hm:lastMarks [op,op',op''] [b,c,d]=false):PT X (.Compare a [op,op',op''] [b,c,d] pos) (mI (p9 r r' r'' ta tb tc td)):=by
 intro pins s σ H Q I h;refine isTrue_chain (thn (ha pins s σ H _ I h) λv s1 ⟨x,H1,I1,r1,q1⟩=>test_link (thn (hb pins s1 σ H1 _ I1 q1) λu s2 ⟨y,H2,I2,r2,q2⟩=>
  thn (ho pins s2 σ H2 x y v u _ I2 r1 r2 q2) λd s3 ⟨z,H3,I3,r3,k,e,q3⟩=>?_)) hm
 subst e;cases r3;refine bJ ?_;cases k with
 |false=>
  obtain⟨k',e',q'⟩:=q3;cases e';exact ite_ff ⟨H3,I3,q'⟩
 |true=>
  refine ite_tt (test_link (thn (hc pins s3 σ H3 _ I3 q3) λw' s4 ⟨z',H4,I4,r4,q4⟩=>thn (ho' pins s4 σ H4 y z' u w' _ I4 r2 r4 q4) λd' s5 ⟨z2,H5,I5,r5,k2,e2,q5⟩=>?_));subst e2;cases r5;refine bJ ?_;cases k2 with
  |false=>
   obtain⟨k',e',q'⟩:=q5;cases e';exact ite_ff ⟨H5,I5,q'⟩
  |true=>
   refine ite_tt (test_last (thn (hd pins s5 σ H5 _ I5 q5) λw'' s6 ⟨z3,H6,I6,r6,q6⟩=>thn (ho'' pins s6 σ H6 z' z3 w' w'' _ I6 r4 r6 q6) λd'' s7 ⟨z4,H7,I7,r7,k4,e4,q7⟩=>?_));subst e4;cases r7;exact bJ ⟨H7,I7,q7⟩
theorem R.bind_assoc{α β γ:Type}(r:R α)(f:α->R β)(h:β->R γ):(r.bind f).bind h=r.bind λa=>(f a).bind h:=by cases r<;>rfl
theorem Cz(O:XO w g c E X){op op' op'':CmpOp}(ha:PE X a (tE w g c E ia))(hb:PE X b (tE w g c E ib))(hd:PE X d (tE w g c E id'))(hf:PE X f (tE w g c E if'))(hs':zz f=true):PT X (.Compare a [op,op',op''] [b,d,f] pos) (tT w g c E (.val (.cmp3 (c2 op) (c2 op') (c2 op'') ia ib id' if'))):=
 PT.imp (vR (er O.K O.units op) (er O.K O.units op') (er O.K O.units op'') ha hb hd hf (hU hs')) λσ H Q ⟨τ,S,se,k⟩=>by
  simp only[fM,fj,dj,fh,fg,zX,d_,za,ze,qY,zj,zf,zb,zm,zk,zg,qE,qC,qy,qI,qG,qz,qt,qD,qk,qx,qp,qX,qi,qK,qU,qH,qw,qQ,qW,qO,qS,qV,qR,qP,qN,qF,qA,qr,qT,qM,qJ,qL,qB,R.bind_assoc]at k;refine zh se k λda va H1 e1 p1 k1=>zh (se.up p1.same) k1 λdb vb H2 e2 p2 k2=>?_
  have s2:=p1.same.trans p2.same;refine ee (r:=.no) (p1.rb.mono p2.same) p2.rb (tR.bnd k2) λz _ q=>⟨z,rfl,?_⟩
  cases z with
  |true=>
   simp only[if_true,R.bind_assoc]at q;refine zh (se.up s2) q λdd vd H3 e3 p3 k3=>ee (r:=.no) (p2.rb.mono p3.same) p3.rb (tR.bnd k3) λz _ q=>⟨z,rfl,?_⟩
   have s3:=s2.trans p3.same;cases z with
   |true=>
    simp only[if_true,R.bind_assoc]at q;exact zh (se.up s3) q λdf vf H4 e4 p4 k4=>ee (r:=.no) (p3.rb.mono p4.same) p4.rb (tR.bnd k4) λz _ q=>⟨z,rfl,q _ (s3.trans p4.same)⟩
   |false=>exact⟨false,rfl,q _ s3⟩
  |false=>exact⟨false,rfl,q _ s2⟩
theorem D9(ht:PT X d (tT w g c E ta))(ha:PE X a (tE w g c E ia))(hb:PE X b (tE w g c E ib))(h1:esc ia=true)(h2:esc ib=true):PE X (.IfExp d a b pos) (tE w g c E (.ite ta ia ib)):=
 PE.imp (x6 ht ha hb) λσ H Q ⟨τ,S,se,k⟩=>by
  simp only[za,ze,qY,zj,zf,zb,zm,zk,zg,qE,qC,qy,qI,qG,qz,qt,qD,qk,qx,qp,qX,qi,qK,qU,qH,qw,qQ,qW,qO,qS,qV,qR,qP,qN,qF,qA,qr,qT,qM,qJ,qL,qB]at k;refine ji se k λz H1 e1 s1 k1=>?_
  cases z with
  |true=>exact⟨τ,S,se.up s1,tR.imp k1 λdd hk v H' p=>hk v H' (p.pass s1 h1 rfl)⟩
  |false=>exact⟨τ,S,se.up s1,tR.imp k1 λdd hk v H' p=>hk v H' (p.pass s1 h2 rfl)⟩
theorem A5:PA X [] (tA w g c E .nil):=PA.imp cM λσ H Q ⟨τ,S,se,k⟩=>k [] H (qh.refl _) .nil λ_=>.nil
theorem Ae{es:List Expr}{ies:Es}(ha:PE X a (tE w g c E ia))(hr:PA X es (tA w g c E ies))(hs:isStar a=false):PA X (a::es) (tA w g c E (.cons ia ies)):=
 PA.imp (zA ha hr (qu hs)) λσ H Q ⟨τ,S,se,k⟩=>by
  simp only[zw]at k;refine zh se k λda va H1 e1 p1 k1=>gz (se.up p1.same) k1 λds vs H2 e2 s2 r2 r2' k2=>k2 _ _ (p1.same.trans s2) (.cons (p1.rb.mono s2) r2) λz=>?_
  simp only[eQ,aJ]at z;exact .cons ((p1.st z.1).mono (zq s2)) (r2' z.2)
theorem ka:∀{es:Es}{τ:Env}{ds:List D}{l:List Expr}{n:Nat},cEs n c l=some es->zw w es τ=.ok ds->ds.length=l.length
 |_,_,_,l,0,h,_=>by simp[cEs]at h
 |es,τ,ds,[],n+1,h,e=>by
  simp only[cEs,bY]at h;subst h;simp only[zw,R.ok.injEq]at e;subst e;rfl
 |es,τ,ds,x::l,n+1,h,e=>by
  simp only[cEs]at h;cases hs:isStar x with
  |true=>simp[hs]at h
  |false=>
   simp only[hs,aR,if_false,aH,aF]at h;obtain⟨i1,_,r,hr,h⟩:=h;cases h;simp only[zw]at e;cases q:evE w i1 τ with
   |ok z=>
    rw[q]at e;simp only[R.bind_ok]at e;cases q2:zw w r τ with
    |ok zs=>
     rw[q2]at e;cases e;simp[ka hr q2]
    |ex z=>rw[q2]at e;cases e
    |no=>rw[q2]at e;cases e
   |ex z=>rw[q]at e;cases e
   |no=>rw[q]at e;cases e
theorem lK{n:Nat}(h:n<=100000):n<=sizeLine:=bf h (by rw[bA];decide)
theorem E5{es:List Expr}{ies:Es}{k:Nat}(ha:PA X es (tA w g c E ies))(he:eQ ies=true)(hl:∀τ ds,zw w ies τ=.ok ds->ds.length<=100000):PE X (.Tuple es k pos) (tE w g c E (.tup ies)):=
 PE.imp (uc ha) λσ H Q ⟨τ,S,se,k⟩=>by
  simp only[za,ze,qY,zj,zf,zb,zm,zk,zg,qE,qC,qy,qI,qG,qz,qt,qD,qk,qx,qp,qX,qi,qK,qU,qH,qw,qQ,qW,qO,qS,qV,qR,qP,qN,qF,qA,qr,qT,qM,qJ,qL,qB]at k;refine gz se k λds vs H1 e1 s1 r1 r1' k1=>?_
  have r:=r1' he;exact⟨by rw[<-r.length];exact lK (hl _ _ e1),λp hp=>k1 _ _ (bp.of (s1.trans (zx hp)) (fP (se.sub.same s1) hp r) rfl)⟩
theorem wq{es:List Expr}{ies:Es}(ha:PA X es (tA w g c E ies))(he:eQ ies=true)(hl:∀τ ds,zw w ies τ=.ok ds->ds.length<=100000):PE X (.List es pos) (tE w g c E (.lst ies)):=
 PE.imp (wC ha) λσ H Q ⟨τ,S,se,k⟩=>by
  simp only[za,ze,qY,zj,zf,zb,zm,zk,zg,qE,qC,qy,qI,qG,qz,qt,qD,qk,qx,qp,qX,qi,qK,qU,qH,qw,qQ,qW,qO,qS,qV,qR,qP,qN,qF,qA,qr,qT,qM,qJ,qL,qB]at k;refine gz se k λds vs H1 e1 s1 r1 r1' k1=>?_
  have r:=r1' he;exact⟨by rw[<-r.length];exact lK (hl _ _ e1),λp hp=>k1 _ _ (bp.new (s1.trans (zx hp)) (gy (se.sub.same s1) hp r) (p6 s1 hp r))⟩
theorem D3{b:Expr}(h:isSlice b=false):pV b:=λo i=>by cases b<;>first|rfl|(simp[isSlice]at h)
theorem vk(O:XO w g c E X)(ha:PE X a (tE w g c E ia))(hb:PE X b (tE w g c E ib))(hs:isSlice b=false):PE X (.Subscript a b pos) (tE w g c E (.ix ia ib)):=
 PE.imp (Dg (v9 O.K) ha hb (D3 hs)) λσ H Q ⟨τ,S,se,k⟩=>by
  simp only[za,ze,qY,zj,zf,zb,zm,zk,zg,qE,qC,qy,qI,qG,qz,qt,qD,qk,qx,qp,qX,qi,qK,qU,qH,qw,qQ,qW,qO,qS,qV,qR,qP,qN,qF,qA,qr,qT,qM,qJ,qL,qB]at k;refine zh se k λda va H1 e1 p1 k1=>zh (se.up p1.same) k1 λdb vb H2 e2 p2 k2=>⟨S,da,db,p1.rb.mono p2.same,p2.rb,?_⟩
  cases q:ixD da db with
  |ok r=>rw[q]at k2;exact λv r=>k2 v H2 (bp.of (p1.same.trans p2.same) r rfl)
  |ex z=>exact ve q
  |no=>rw[q]at k2;exact k2
theorem wN(O:XO w g c E X){lo hi:Option Expr}{il ih:OE}(ha:PE X a (tE w g c E ia))(hl:PO X lo (tOe w g c E il))(hh:PO X hi (tOe w g c E ih)):PE X (.Subscript a (.Slice lo hi none p2) pos) (tE w g c E (.sl ia il ih)):=
 PE.imp (yX (xC O.K) ha hl hh) λσ H Q ⟨τ,S,se,k⟩=>by
  simp only[za,ze,qY,zj,zf,zb,zm,zk,zg,qE,qC,qy,qI,qG,qz,qt,qD,qk,qx,qp,qX,qi,qK,qU,qH,qw,qQ,qW,qO,qS,qV,qR,qP,qN,qF,qA,qr,qT,qM,qJ,qL,qB]at k;refine zh se k λda va H1 e1 p1 k1=>sM (se.up p1.same) k1 λl H2 e2 s2 k2=>sM (se.up (p1.same.trans s2)) k2 λh H3 e3 s3 k3=>?_
  have s:=(p1.same.trans s2).trans s3;refine⟨S,da,se.sub.same s,p1.rb.mono (s2.trans s3),?_⟩;cases q:slD da l h with
  |ok r=>rw[q]at k3;exact λv H' s' r=>k3 v H' (bp.of (s.trans s') r rfl)
  |ex z=>exact Ac q
  |no=>rw[q]at k3;exact k3
theorem uE:PO X none (tOe w g c E .none):=PO.imp AY λσ H Q ⟨τ,S,se,k⟩=>k H (qh.refl _)
theorem xc(ha:PE X a (tE w g c E ia)):PO X (some a) (tOe w g c E (.some ia)):=PO.imp (Ca ha) λσ H Q ⟨τ,S,se,k⟩=>by
 simp only[evO]at k;refine zh se k λda va H1 e1 p1 k1=>?_
 cases da with
 |int i=>exact⟨i,p1.rb.int,k1 _ p1.same⟩
 |_=>exact k1.elim
theorem wx(O:XO w g c E X){x:Str}{fr:Bool}{e:Expr}{es:List Expr}{ies:Es}(h:glob c x=some (.fn fr))(ha:PA X (e::es) (tA w g c E ies))(he:eQ ies=true)(hs:∀z∈e::es,isStar z=false):PE X (.Call (.Name x p2) (e::es) [] pos) (tE w g c E (.call x ies)):=by
 obtain⟨f,h1,h2⟩:=O.gm h;refine PE.imp (xM O h2 (O.gl h) (zr h).2.2.1 ha hs) λσ H Q ⟨τ,S,se,k⟩=>?_
 simp only[za,ze,qY,zj,zf,zb,zm,zk,zg,qE,qC,qy,qI,qG,qz,qt,qD,qk,qx,qp,qX,qi,qK,qU,qH,qw,qQ,qW,qO,qS,qV,qR,qP,qN,qF,qA,qr,qT,qM,qJ,qL,qB]at k;refine gz se k λds vs H1 e1 s1 r1 r1' k1=>⟨S,ds,se.sub.same s1,by rw[dD];exact r1' he,tR.imp k1 λdd hk v H' s' r f=>hk v H' ⟨s1.trans s',.inl r,λ_=>r,λz=>?_⟩⟩
 simp only[fresh,(zr h).2.1,beq_iff_eq,bY,GK.fn.injEq]at z;exact(f z).low s1
theorem wQ(O:XO w g c E X){x:Str}{fr:Bool}{e:Expr}{es:List Expr}{ies:Es}(h:glob c x=some (.fn fr))(ha:PA X (e::es) (tA w g c E ies))(hs:∀z∈e::es,isStar z=false):PE X (.Call (.Name x p2) (e::es) [] pos) (tE w g c E (.callo x ies)):=λpins s σ H Q I ⟨τ,S,se,kk⟩=>by
 simp only[za,ze,qY,zj,zf,zb,zm,zk,zg,qE,qC,qy,qI,qG,qz,qt,qD,qk,qx,qp,qX,qi,qK,qU,qH,qw,qQ,qW,qO,qS,qV,qR,qP,qN,qF,qA,qr,qT,qM,qJ,qL,qB]at kk;exact a9 kk
theorem szl:SZ<=sizeLine:=by rw[bA];decide
theorem lU{i:Int}(h:zt i=true):i.natAbs.log2<1920:=by
 simp only[zt,aJ,decide_eq_true_eq]at h;by_cases h0:i.natAbs=0
 ·rw[h0];decide
 ·exact Nat.lt_trans ((Nat.log2_lt h0).mpr (show i.natAbs<2^20 by lia)) (by decide)
theorem yF{a b:Expr}{ia ib:EV.E}{t0 t1 t2:Str}{k0 k1 k2}{p0 p1 p2 p3 p4 pos:Pos}(h0:(Str.empty++t0).length<=1000)(ha:PE X a (tE w g c E ia))(hb:PE X b (tE w g c E ib)) :
  PE X (.JoinedStr [.Constant (.str t0) k0 p0,.FormattedValue a (-1) none p1,.Constant (.str t1) k1 p2,.FormattedValue b (-1) none p3,.Constant (.str t2) k2 p4] pos) (tE w g c E (.fst2 t0 ia t1 ib t2)):=λpins s σ H Q I ⟨τ,S,se,kk⟩=>by
 simp only[za,ze,qY,zj,zf,zb,zm,zk,zg,qE,qC,qy,qI,qG,qz,qt,qD,qk,qx,qp,qX,qi,qK,qU,qH,qw,qQ,qW,qO,qS,qV,qR,qP,qN,qF,qA,qr,qT,qM,qJ,qL,qB]at kk;exact a9 kk
theorem E8:PE X (.Dict [] [] pos) (tE w g c E .dic):=PE.imp DY λσ H Q ⟨τ,S,se,k⟩ p hp=>by
 simp only[za,ze,qY,zj,zf,zb,zm,zk,zg,qE,qC,qy,qI,qG,qz,qt,qD,qk,qx,qp,qX,qi,qK,qU,qH,qw,qQ,qW,qO,qS,qV,qR,qP,qN,qF,qA,qr,qT,qM,qJ,qL,qB]at k;exact k _ _ (bp.of (zx hp) (.dic (lD se.sub hp)) rfl)
theorem rj{b:B1}{S:Sh}{H0 H:Hp}{ds:List D}{vs:List V}{Q:VK}{ies:Es}(s:qh H0 H)(hS:Sub S H)(r:fm g H S ds vs)(k:tR g E H (b1 b ds) λd=>∀v H',bp g c (.bi b ies) S H0 d v H'->Q v H'):rB1 g b vs H Q:=by
 refine⟨S,ds,hS,r,?_⟩;cases q:b1 b ds with
 |ok d=>
  rw[q]at k;exact λv H' s' r' f=>k v H' ⟨s.trans s',.inl r',λ_=>r',λz=>by
   have:b=.list\/b=.sorted:=by cases b<;>simp[fresh]at z ⊢
   exact(f this).low s⟩
 |ex z=>exact uY q
 |no=>rw[q]at k;exact k
theorem Dm(O:XO w g c E X){x:Str}{b:B1}{e:Expr}{es:List Expr}{ies:Es}(h:glob c x=some (.bi b))(hc:X.calm=true\/b=.len\/b=.abs)(ha:PA X (e::es) (tA w g c E ies))(hs:∀z∈e::es,isStar z=false):PE X (.Call (.Name x p2) (e::es) [] pos) (tE w g c E (.bi b ies)):=by
 obtain⟨h1,h2,id,h3⟩:=O.gm h;have hb:=m5 b;rw[<-h2,h3]at hb;have hcall:=oG (X:=X) (g:=g) O.K O.units b (by rcases hc with z|z|z;exact .inl z;exact .inr (.inl z);exact .inr (.inr (.inl z)));rw[h3]at hcall;refine PE.imp (mj hcall (O.gl h) h1 hb ha (zr h).2.2.2 (zr h).2.2.1 (qu (hs e aO)) (jT λz hz=>hs z (aK _ hz))) λσ H Q ⟨τ,S,se,k⟩=>?_
 simp only[za,ze,qY,zj,zf,zb,zm,zk,zg,qE,qC,qy,qI,qG,qz,qt,qD,qk,qx,qp,qX,qi,qK,qU,qH,qw,qQ,qW,qO,qS,qV,qR,qP,qN,qF,qA,qr,qT,qM,qJ,qL,qB]at k;exact gz se k λds vs H1 e1 s1 r1 r1' k1=>rj (ies:=ies) s1 (se.sub.same s1) r1 k1
theorem D5(O:XO w g c E X){x:Str}{n:String}{b:B1}{e:Expr}{es:List Expr}{ies:Es}(h:glob c x=some (.ty n (some b)))(ha:PA X (e::es) (tA w g c E ies))(hs:∀z∈e::es,isStar z=false):PE X (.Call (.Name x p2) (e::es) [] pos) (tE w g c E (.bi b ies)):=by
 obtain⟨h1,h2,_,h3⟩:=O.gm h;obtain⟨_,h4⟩:=h3 b rfl;have hcall:=oG (X:=X) (g:=g) O.K O.units b (by cases b<;>simp[b1V]at h4 ⊢);rw[h4]at hcall;refine PE.imp (lM hcall (O.gl h) h1 h2 ha (zr h).2.2.2 (zr h).2.2.1 (qu (hs e aO)) (jT λz hz=>hs z (aK _ hz))) λσ H Q ⟨τ,S,se,k⟩=>?_
 simp only[za,ze,qY,zj,zf,zb,zm,zk,zg,qE,qC,qy,qI,qG,qz,qt,qD,qk,qx,qp,qX,qi,qK,qU,qH,qw,qQ,qW,qO,qS,qV,qR,qP,qN,qF,qA,qr,qT,qM,qJ,qL,qB]at k;exact gz se k λds vs H1 e1 s1 r1 r1' k1=>rj (ies:=ies) s1 (se.sub.same s1) r1 k1
end
section
variable{w:W}{g:Gc}{c:Cc}{E:XK}{X:Cx}{a b d f:Expr}{ia ib id' if':EV.E}{pos p2:Pos}{ta tb:T}
noncomputable def Ee(w:W)(g:Gc)(d:D)(vc:V)(bb:Bool):Cl->Prop
 | .ty n=>vc=.ty n/\((n∈["int","bool","str","list","tuple"]/\∃t,tyD d=some t/\bb=fS t n)\/∃k,d=.exn k/\w.sub k (.ty n)=some bb)
 | .ex x=>∃D k,g.clA x=some D/\vc=.ref D/\d=.exn k/\w.sub k (.ex x)=some bb
noncomputable def clV(g:Gc)(vc:V):Cl->Prop
 | .ty n=>vc=.ty n/\(n∈["int","bool","str","list","tuple"]\/n = "ValueError")
 | .ex x=>∃D,g.clA x=some D/\vc=.ref D
theorem Az(O:XO w g c E X):zv X (.builtin "isinstance") (λxs H Q=>∃(S:Sh) (d:D) (v:V) (cl:Cl) (vc:V) (bb:Bool),xs=[v,vc]/\zE g H S d v/\Ee w g d vc bb cl/\Q (.bl bb) H):=by
 have k:=(Ao (X:=X) (g:=g) O.K).or (AX (X:=X));refine zv.imp k λxs H Q ⟨S,d,v,cl,vc,bb,e,rd,h,q⟩=>?_
 have exn:∀(kk:Str) (cv:ae),d=.exn kk->lH vc=some cv->(∃C,g.clA kk=some C/\dI g.K C/\bz g.K (.ref C) cv=some bb)->∃x c cv t b,xs=[x,c]/\lH c=some cv/\TyX X.K H x t/\bz X.K t cv=some b/\Q (.bl b) H:=λkk cv ed hv ⟨C,h1,h2,h3⟩=>by
  subst ed;cases rd.rep with
  | @exn _ a C' z1 z2=>
   rw[h1]at z1;cases z1;exact⟨_,vc,cv,.ref C,bb,e,hv,.inr ⟨a,C,rfl,rfl,z2,by rw[O.K];exact h2⟩,by rw[O.K];exact h3,q⟩
 cases cl with
 |ty n=>
  obtain⟨rfl,⟨hn,t,ht,rfl⟩|⟨kk,rfl,hk⟩⟩:=h
  ·exact .inl ⟨S,d,v,n,t,e,rd,ht,hn,q⟩
  ·obtain⟨C,cv,z1,z2,z3,z4,z5⟩:=O.sub kk (.ty n) bb hk;exact .inr (exn kk (.type n) rfl rfl ⟨C,z1,z2,z5▸z3⟩)
 |ex x=>
  obtain⟨D,kk,h1,rfl,rfl,hk⟩:=h;obtain⟨C,cv,z1,z2,z3,D',z4,z5⟩:=O.sub kk (.ex x) bb hk;rw[h1]at z4;cases z4;exact .inr (exn kk (.ref D) rfl rfl ⟨C,z1,z2,z5▸z3⟩)
theorem Ap{x:D}{cl:Cl}:(∃t n,tyD x=some t/\cl=.ty n/\n≠"ValueError"/\zU w x cl=.ok (.bl (fS t n)))\/(∃k b,x=.exn k/\w.sub k cl=some b/\zU w x cl=.ok (.bl b))\/zU w x cl=.no:=by
 unfold zU;cases e:tyD x with
 |some t=>
  cases cl with
  |ty n=>
   by_cases hn:n = "ValueError"
   ·exact .inr (.inr (by simp[hn]))
   ·exact .inl ⟨t,n,rfl,rfl,hn,by simp[hn]⟩
  |ex y=>exact .inr (.inr rfl)
 |none=>
  cases x with
  |exn k=>
   cases q:w.sub k cl with
   |none=>exact .inr (.inr (by simp[q]))
   |some b=>exact .inr (.inl ⟨k,b,rfl,q,by simp[q]⟩)
  |fn y=>exact .inr (.inr (by cases cl<;>rfl))
  |_=>cases e
theorem BU(O:XO w g c E X){x:Str}{k:Expr}{cl:Cl}(h:glob c x=some .isi)(ha:PE X a (tE w g c E ia))(hk:km c k=some cl)(hs:isStar a=false):PE X (.Call (.Name x p2) [a,k] [] pos) (tE w g c E (.isi ia cl)):=by
 obtain⟨h1,rfl⟩:=O.gm h;obtain⟨y,q,rfl⟩:∃y q,k=.Name y q:=by
  cases k<;>first|exact⟨_,_,rfl⟩|(simp[km]at hk)
 obtain⟨vc,hv,hc⟩:∃vc,PE X (.Name y q) (tC vc)/\clV g vc cl:=by
  simp only[km]at hk;split at hk
  ·rename_i n b e
   cases hk;obtain⟨z1,z2,z3,_⟩:=O.gm e;exact⟨.ty n,vH (O.gl e) z1 z2 rfl (zr e).2.2.2 (zr e).2.2.1,rfl,z3⟩
  ·rename_i e
   cases hk;obtain⟨C,z1,z2⟩:=O.gm e;exact⟨.ref C,mq (O.gl e) z1 rfl (zr e).2.2.1,C,z2,rfl⟩
  ·rename_i e
   cases hk;obtain⟨C,z1,z2⟩:=O.gm e;exact⟨.ref C,mq (O.gl e) z1 rfl (zr e).2.2.1,C,z2,rfl⟩
  ·cases hk
 refine PE.imp (mj (Az O) (O.gl h) h1 (by decide +kernel) (zA ha (zA hv cM) (qu hs)) (by decide) (by decide) (qu hs) rfl) λσ H Q ⟨τ,S,se,k⟩=>?_
 simp only[za,ze,qY,zj,zf,zb,zm,zk,zg,qE,qC,qy,qI,qG,qz,qt,qD,qk,qx,qp,qX,qi,qK,qU,qH,qw,qQ,qW,qO,qS,qV,qR,qP,qN,qF,qA,qr,qT,qM,qJ,qL,qB]at k;refine zh se k λda va H1 e1 p1 k1=>?_
 rcases Ap (w:=w) (x:=da) (cl:=cl)with ⟨t,n,z1,rfl,z2,z3⟩|⟨kk,bb,rfl,z2,z3⟩|z3
 ·rw[z3]at k1;obtain⟨rfl,hc|hc⟩:=hc
  ·exact⟨S,da,va,.ty n,.ty n,_,rfl,p1.rb,⟨rfl,.inl ⟨hc,t,z1,rfl⟩⟩,k1 _ _ (bp.of p1.same (.bl _) rfl)⟩
  ·exact absurd hc z2
 ·rw[z3]at k1;refine⟨S,.exn kk,va,cl,vc,bb,rfl,p1.rb,?_,k1 _ _ (bp.of p1.same (.bl _) rfl)⟩;cases cl with
  |ty n=>exact⟨hc.1,.inr ⟨kk,rfl,z2⟩⟩
  |ex x=>obtain⟨D,z4,z5⟩:=hc;exact⟨D,kk,z4,z5,rfl,z2⟩
 ·rw[z3]at k1;exact k1.elim
theorem xK(O:XO w g c E X)(ha:PE X a (tE w g c E ia))(he:∀whole,isTrue a X.env whole=(do let v <-whole;standAt a.pos;holding [v] (truthy v))):PT X a (tT w g c E (.val ia)):=
 PT.imp (Bz ha he) λσ H Q ⟨τ,S,se,k⟩=>by
  simp only[fM,fj,dj,fh,fg,zX,d_]at k;refine zh se k λda va H1 e1 p1 k1=>?_
  cases q:truth da with
  |ok z=>rw[q]at k1;exact⟨z,Eo O.K p1.rb q,k1 _ p1.same⟩
  |ex z=>exact absurd q xn
  |no=>rw[q]at k1;exact k1.elim
theorem Eg(ha:PT X a (tT w g c E ta)):PT X (.UnaryOp .Not a pos) (tT w g c E (.not ta)):=
 PT.imp (yz ha) λσ H Q ⟨τ,S,se,k⟩=>by
  simp only[fM,fj,dj,fh,fg,zX,d_]at k;exact ji se k λz H1 e1 s1 k1=>k1 _ s1
theorem Ep{rest:List Expr}(ha:PT X a (tT w g c E ta))(hb:PW X (.BoolOp .And (b::rest) pos) (tT w g c E tb)):PW X (.BoolOp .And (a::b::rest) pos) (tT w g c E (.and ta tb)):=
 PW.imp (BK ha hb) λσ H Q ⟨τ,S,se,k⟩=>by
  simp only[fM,fj,dj,fh,fg,zX,d_]at k;refine ji se k λz H1 e1 s1 k1=>?_
  cases z with
  |true=>exact⟨τ,S,se.up s1,tR.imp k1 λb hk H' s=>hk H' (s1.trans s)⟩
  |false=>exact k1 _ s1
theorem CS{rest:List Expr}(ha:PT X a (tT w g c E ta))(hb:PW X (.BoolOp .Or (b::rest) pos) (tT w g c E tb)):PW X (.BoolOp .Or (a::b::rest) pos) (tT w g c E (.or ta tb)):=
 PW.imp (AB ha hb) λσ H Q ⟨τ,S,se,k⟩=>by
  simp only[fM,fj,dj,fh,fg,zX,d_]at k;refine ji se k λz H1 e1 s1 k1=>?_
  cases z with
  |false=>exact⟨τ,S,se.up s1,tR.imp k1 λb hk H' s=>hk H' (s1.trans s)⟩
  |true=>exact k1 _ s1
theorem PI.or{tg e:Expr}{t t':TI}(h:PI X tg e t)(h':PI X tg e t'):PI X tg e (λσ H R=>t σ H R\/t' σ H R):=λpins s σ H R I q=>by
 rcases q with q|q
 ·exact h pins s σ H R I q
 ·exact h' pins s σ H R I q
theorem nK{K:ax}{a:Addr}{vs:List V}{ds:List D}{H:Hp}{S:Sh}(hl:SqL K H a vs)(r:qZ g (hid H S) ds vs):Goes g (Itl K a) ds H S:=by
 refine⟨λi hi=>⟨vs,hl,by rw[<-r.length];exact hi⟩,λi d hd=>?_⟩;obtain⟨v,h1,h2⟩:=r.get hd;refine⟨⟨vs,v,hl,h1⟩,λx H' ⟨e,hx⟩=>?_⟩;subst e;have:=hx vs hl;rw[h1]at this;cases this;exact⟨qh.refl _,h2⟩
theorem nU{K:ax}{a:Addr}{vs:List V}{ds:List D}{H:Hp}{S:Sh}(hl:SqT K H a vs)(r:qZ g (hid H S) ds vs):Goes g (Itt K a) ds H S:=by
 refine⟨λi hi=>⟨vs,hl,by rw[<-r.length];exact hi⟩,λi d hd=>?_⟩;obtain⟨v,h1,h2⟩:=r.get hd;refine⟨⟨vs,v,hl,h1⟩,λx H' ⟨e,hx⟩=>?_⟩;subst e;have:=hx vs hl;rw[h1]at this;cases this;exact⟨qh.refl _,h2⟩
theorem nR:∀{xs:List D}{k i:Nat}{d:D},(eD k xs)[i]? = some d->∃x,xs[i]? = some x/\d=.tup [.int ((k+i:Nat):Int),x]
 | [],_,_,_,h=>by simp[eD]at h
 |x::r,k,0,d,h=>by simp[eD]at h;exact⟨x,rfl,by rw[<-h];rfl⟩
 |x::r,k,i+1,d,h=>by
  simp only[eD,List.getElem?_cons_succ]at h;obtain⟨y,h1,h2⟩:=nR h;exact⟨y,by simpa using h1,by rw[h2,show k+1+i=k+(i+1)by lia]⟩
theorem q_:∀(xs:List D) (k:Nat),(eD k xs).length=xs.length
 | [],_=>rfl
 |x::r,k=>by simp[eD,q_ r]
theorem mL{K:ax}{a:Addr}{vs:List V}{ds:List D}{H:Hp}{S:Sh}(hl:SqL K H a vs)(r:qZ g (hid H S) ds vs)(hS:Sub S H):Goes g (Ite K a) (eD 0 ds) H S:=by
 refine⟨λi hi=>⟨vs,hl,by rw[<-r.length,<-q_ ds 0];exact hi⟩,λi d hd=>?_⟩;obtain⟨y,h0,rfl⟩:=nR hd;obtain⟨v,h1,h2⟩:=r.get h0;refine⟨⟨vs,v,hl,h1⟩,λx H' ⟨p,z,hp,e1,e2,hx⟩=>?_⟩;subst e1 e2;have:=hx vs hl;rw[h1]at this;cases this;refine⟨zx hp,?_⟩;rw[Nat.zero_add];exact fP hS hp (.cons (.int _) (.cons h2 .nil))
theorem oK:∀{xs ys:List D}{i:Nat}{d:D},(cB xs ys)[i]? = some d->∃x y,xs[i]? = some x/\ys[i]? = some y/\d=.tup [x,y]
 | [],_,_,_,h=>by simp[cB]at h
 |_::_,[],_,_,h=>by simp[cB]at h
 |x::r,y::t,0,d,h=>by simp[cB]at h;exact⟨x,y,rfl,rfl,h.symm⟩
 |x::r,y::t,i+1,d,h=>by
  simp only[cB,List.getElem?_cons_succ]at h;obtain⟨x',y',h1,h2,h3⟩:=oK h;exact⟨x',y',by simpa using h1,by simpa using h2,h3⟩
theorem ng:∀(xs ys:List D),(cB xs ys).length=min xs.length ys.length
 | [],_=>by simp[cB]
 |_::_,[]=>by simp[cB]
 |x::r,y::t=>by simp[cB,ng r t]
theorem kc{K:ax}{tup:Bool}{a b:Addr}{vs us:List V}{ds es:List D}{H:Hp}{S:Sh}(hl:Sq2 K tup H a vs)(hl':Sq2 K tup H b us)(r:qZ g (hid H S) ds vs)(r':qZ g (hid H S) es us)(hn:ds.length=es.length)(hS:Sub S H):Goes g (Itz K tup a b) (cB ds es) H S:=by
 refine⟨λi hi=>⟨vs,us,hl,hl',by rw[ng]at hi;rw[<-r.length];lia⟩,λi d hd=>?_⟩;obtain⟨x,y,h0,h0',rfl⟩:=oK hd;obtain⟨v,h1,h2⟩:=r.get h0;obtain⟨u,h3,h4⟩:=r'.get h0';refine⟨⟨vs,us,v,u,hl,hl',h1,h3⟩,λx H' ⟨p,z,z',hp,e1,e2,hx,hx'⟩=>?_⟩;subst e1 e2;have q:=hx vs hl;rw[h1]at q;cases q;have q:=hx' us hl';rw[h3]at q;cases q;exact⟨zx hp,fP hS hp (.cons h2 (.cons h4 .nil))⟩
theorem kr{lo:Int}{n:Nat}{H:Hp}{S:Sh}:Goes g (Itr lo n) (zT lo n) H S:=by
 refine⟨λi hi=>by show n<=i;simpa[zT]using hi,λi d hd=>?_⟩;unfold zT at hd;rw[List.getElem?_map]at hd;cases q:(a_ n)[i]? with
 |none=>rw[q]at hd;cases hd
 |some j=>
  rw[q]at hd;cases hd;have hi:=(List.getElem?_eq_some_iff.mp q)
  obtain⟨h1,h2⟩:=hi;simp at h1 h2;subst h2;exact⟨h1,λx H' ⟨e1,e2⟩=>by subst e1 e2;exact⟨qh.refl _,.int _⟩⟩
theorem p7{x:Str}{H:Hp}{S:Sh}:Goes g (Its x) (jv x) H S:=by
 refine⟨λi hi=>by show x.cps.size<=i;simpa[jv]using hi,λi d hd=>?_⟩;unfold jv at hd;rw[List.getElem?_map]at hd;cases q:x.cps.toList[i]? with
 |none=>rw[q]at hd;cases hd
 |some c=>
  rw[q]at hd;cases hd;rw[Array.getElem?_toList]at q;obtain⟨h1,h2⟩:=Array.getElem?_eq_some_iff.mp q;refine⟨h1,λv H' ⟨e1,c',e2,e3⟩=>?_⟩;subst e1 e3;rw[q]at e2;cases e2;exact⟨qh.refl _,.str _⟩
theorem vK(O:XO w g c E X){tg:Expr}(ha:PE X a (tE w g c E ia)):PI X tg a (tIt w g c E (.seq ia)):=
 PI.imp (PI.or (EN ha) (PI.or (Ax ha) (yu ha))) λσ H R ⟨τ,S,se,k⟩=>by
  have k0:=k;simp only[evI]at k;cases q:evE w ia τ with
  |ex z=>exact .inl ⟨τ,S,se,by rw[q]at k ⊢;exact k⟩
  |no=>rw[q]at k;exact k.elim
  |ok dd=>
   cases dd with
   |lst ds=>
    refine .inl (zh se k λda va H1 e1 p1 k1=>?_);rw[q]at e1;cases e1;obtain⟨ad,vs,rfl,h1,r1⟩:=p1.rb.lst;rw[<-O.K]at h1;refine⟨ad,rfl,⟨vs,h1⟩,k1 _ H1 p1.same (λH2 S2 s1 s2 _=>nK (s1.seq h1) (r1.mono s2)) λho H2 S2 s2 _=>?_⟩;have he:esc ia=true:=by
     cases ia<;>first|rfl|(simp[owned]at ho)
    cases p1.st he with
    |lst h2 r2=>exact nK (by rw[O.K];exact(s2.trans zF).seq h2) (r2.mono s2)
   |tup ds=>
    refine .inr (.inl (zh se k λda va H1 e1 p1 k1=>?_));rw[q]at e1;cases e1;cases p1.rb.strong (by intro _ z;cases z)with
    |tup h2 r2=>
     refine⟨_,rfl,⟨_,by rw[O.K];exact zB zF h2⟩,k1 _ H1 p1.same (λH2 S2 s1 s2 _=>nU (by rw[O.K];exact zB (s2.trans zF) h2) (r2.mono s2)) λho H2 S2 s2 _=>nU (by rw[O.K];exact zB (s2.trans zF) h2) (r2.mono s2)⟩
   |str z=>
    refine .inr (.inr (zh se k λda va H1 e1 p1 k1=>?_));rw[q]at e1;cases e1;have va':va=.str z:=by cases p1.rb.rep;rfl
    exact⟨z,va',k1 _ H1 p1.same (λH2 S2 s1 s2 _=>p7) λho H2 S2 s2 _=>p7⟩
   |_=>rw[q]at k;exact k.elim
theorem lV{j:Int}(h:zt j=true):-1000000<=j/\j<=1000000:=by simpa[zt]using h
theorem wA(O:XO w g c E X){x:Str}{tg:Expr}(h:glob c x=some .rng)(ha:PE X a (tE w g c E ia))(hs:isStar a=false):PI X tg (.Call (.Name x p2) [a] [] pos) (tIt w g c E (.rng ia)):=by
 obtain⟨h1,rfl⟩:=O.gm h;refine PI.imp (ue (O.gl h) h1 (zA ha cM (qu hs)) (qu hs)) λσ H R ⟨τ,S,se,k⟩=>?_
 simp only[evI]at k;refine zh se k λda va H1 e1 p1 k1=>?_
 cases da with
 |int j=>
  simp only at k1;cases q:zt j with
  |true=>
   rw[q,if_pos rfl]at k1;obtain⟨z1,z2⟩:=lV q;exact⟨j,by rw[p1.rb.int],by lia,by lia,k1 _ H1 p1.same (λ_ _ _ _ _=>kr) λ_ _ _ _ _=>kr⟩
  |false=>rw[q]at k1;exact k1.elim
 |_=>exact k1.elim
theorem wY(O:XO w g c E X){x:Str}{tg:Expr}(h:glob c x=some .rng)(ha:PE X a (tE w g c E ia))(hb:PE X b (tE w g c E ib))(hs:isStar a=false)(hs':isStar b=false):PI X tg (.Call (.Name x p2) [a,b] [] pos) (tIt w g c E (.rng2 ia ib)):=by
 obtain⟨h1,rfl⟩:=O.gm h;refine PI.imp (u_ (O.gl h) h1 (zA ha (zA hb cM (qu hs')) (qu hs)) (by rw[qu hs,qu hs'];rfl) (qu hs')) λσ H R ⟨τ,S,se,k⟩=>?_
 simp only[evI]at k;refine zh se k λda va H1 e1 p1 k1=>zh (se.up p1.same) k1 λdb vb H2 e2 p2 k2=>?_
 cases da with
 |int i=>
  cases db with
  |int j=>
   simp only at k2;cases q:zt i&&zt j with
   |true=>
    rw[q,if_pos rfl]at k2;simp only[aJ]at q;obtain⟨z1,z2⟩:=lV q.1;obtain⟨z3,z4⟩:=lV q.2;exact⟨i,j,by rw[p1.rb.int,p2.rb.int],⟨by lia,by lia,by lia,by lia⟩,k2 _ H2 (p1.same.trans p2.same) (λ_ _ _ _ _=>kr) λ_ _ _ _ _=>kr⟩
   |false=>rw[q]at k2;exact k2.elim
  |_=>exact k2.elim
 |_=>exact k2.elim
theorem AQ(O:XO w g c E X){x:Str}{es:List Expr}{ek:Nat}{epos:Pos}(h:glob c x=some .enum)(ha:PE X a (tE w g c E ia))(hs:isStar a=false):PI X (.Tuple es ek epos) (.Call (.Name x p2) [a] [] pos) (tIt w g c E (.enum ia)):=by
 obtain⟨h1,rfl⟩:=O.gm h;refine PI.imp (EJ (O.gl h) h1 (by decide +kernel) (zA ha cM (qu hs)) (qu hs)) λσ H R ⟨τ,S,se,k⟩=>?_
 simp only[evI]at k;refine zh se k λda va H1 e1 p1 k1=>?_
 cases da with
 |lst ds=>
  obtain⟨ad,vs,rfl,h1,r1⟩:=p1.rb.lst;rw[<-O.K]at h1;refine⟨ad,rfl,⟨vs,h1⟩,k1 _ H1 p1.same (λH2 S2 s1 s2 s3=>mL (s1.seq h1) (r1.mono s2) s3) λho H2 S2 s2 s3=>?_⟩;have he:esc ia=true:=by
   cases ia<;>first|rfl|(simp[owned]at ho)
  cases p1.st he with
  |lst h2 r2=>exact mL (by rw[O.K];exact(s2.trans zF).seq h2) (r2.mono s2) s3
 |_=>exact k1.elim
theorem vW(O:XO w g c E X){x:Str}{es:List Expr}{ek:Nat}{epos:Pos}(h:glob c x=some .zip)(ha:PE X a (tE w g c E ia))(hb:PE X b (tE w g c E ib))(hs:isStar a=false)(hs':isStar b=false):PI X (.Tuple es ek epos) (.Call (.Name x p2) [a,b] [] pos) (tIt w g c E (.zip ia ib)):=by
 obtain⟨h1,rfl⟩:=O.gm h;refine PI.imp (wy (O.gl h) h1 (by decide +kernel) (zA ha (zA hb cM (qu hs')) (qu hs)) (by rw[qu hs,qu hs'];rfl) (qu hs')) λσ H R ⟨τ,S,se,k⟩=>?_
 simp only[evI]at k;refine zh se k λda va H1 e1 p1 k1=>zh (se.up p1.same) k1 λdb vb H2 e2 p2 k2=>?_
 have hown:∀{i1 i2:EV.E},owned (.zip i1 i2)=false->esc i1=true/\esc i2=true:=λ{i1 i2} z=>by
  have a:∀{i:EV.E},esc i=false->∃k,i=.own k:=λ{i} h=>by cases i<;>first|exact⟨_,rfl⟩|cases h
  cases e1:esc i1 with
  |false=>obtain⟨k,rfl⟩:=a e1;cases z
  |true=>
   cases e2:esc i2 with
   |false=>obtain⟨k,rfl⟩:=a e2;cases i1<;>cases z
   |true=>exact⟨rfl,rfl⟩
 have s12:=p1.same.trans p2.same;cases da with
 |lst ds=>
  cases db with
  |lst es=>
   simp only at k2;by_cases hn:ds.length=es.length
   ·rw[if_pos hn]at k2;obtain⟨ad,vs,rfl,h1,r1⟩:=(p1.rb.mono p2.same).lst;obtain⟨bd,us,rfl,h2,r2⟩:=p2.rb.lst;rw[<-O.K]at h1 h2;refine⟨false,ad,bd,rfl,⟨vs,h1⟩,⟨us,h2⟩,k2 _ H2 s12 (λH3 S3 s1 s2 s3=>kc (tup:=false) (s1.seq h1) (s1.seq h2) (r1.mono s2) (r2.mono s2) hn s3) λho H3 S3 s2 s3=>?_⟩;obtain⟨o1,o2⟩:=hown ho;cases (p1.st o1).mono (zq p2.same)with
    |lst h3 r3=>
     cases p2.st o2 with
     |lst h4 r4=>exact kc (tup:=false) (by rw[O.K];exact(s2.trans zF).seq h3) (by rw[O.K];exact(s2.trans zF).seq h4) (r3.mono s2) (r4.mono s2) hn s3
   ·rw[if_neg hn]at k2;exact k2.elim
  |_=>exact k2.elim
 |tup ds=>
  cases db with
  |tup es=>
   simp only at k2;by_cases hn:ds.length=es.length
   ·rw[if_pos hn]at k2;cases (p1.rb.mono p2.same).strong (by intro _ z;cases z)with
    |tup h3 r3=>
     cases p2.rb.strong (by intro _ z;cases z)with
     |tup h4 r4=>
      refine⟨true,_,_,rfl,⟨_,by rw[O.K];exact zB zF h3⟩,⟨_,by rw[O.K];exact zB zF h4⟩,k2 _ H2 s12 (λH3 S3 s1 s2 s3=>?_) λho H3 S3 s2 s3=>?_⟩
      ·exact kc (tup:=true) (by rw[O.K];exact zB (s2.trans zF) h3) (by rw[O.K];exact zB (s2.trans zF) h4) (r3.mono s2) (r4.mono s2) hn s3
      ·exact kc (tup:=true) (by rw[O.K];exact zB (s2.trans zF) h3) (by rw[O.K];exact zB (s2.trans zF) h4) (r3.mono s2) (r4.mono s2) hn s3
   ·rw[if_neg hn]at k2;exact k2.elim
  |_=>exact k2.elim
 |_=>exact k2.elim
end
noncomputable def iJ:List Nat->TGs
 | []=>oa
 |i::is=>tX (fJ i) (iJ is)
noncomputable def gT(K:ax):Tg->TG
 | .nm i=>fJ i
 | .tp is=>oW K is.length (iJ is)
section
variable{w:W}{g:Gc}{c:Cc}{E:XK}{X:Cx}
theorem fI{x:Str}{i:Nat}(h:dM c x=some i):loc c x=some i/\(c.nm.lookup x=some .local\/(c.nm.lookup x=some .cell/\(c.fnc=true\/c.oc.contains x=true))):=by
 unfold dM at h;split at h
 ·rename_i q;exact⟨h,.inl q⟩
 ·rename_i q
  split at h
  ·rename_i z;exact⟨h,.inr ⟨q,by simpa using z⟩⟩
  ·cases h
 ·cases h
theorem pd(O:XO w g c E X){x:Str}{i:Nat}{pos:Pos}(h:dM c x=some i):PG X (.Name x pos) (fJ i):=by
 obtain⟨h1,h2⟩:=fI h;obtain⟨h3,_⟩:=fA h1;refine Aj (by rw[O.N];exact O.nd) (by rw[O.N];exact h3) (by unfold L2.Loc;rw[O.nm];rcases h2 with z|z;exact .inl z;exact .inr z.1) ?_;rcases h2 with z|z
 ·exact .inr (by rw[O.nm];exact z)
 ·exact .inl (O.fn x z.2)
theorem rH:∀{es:List Expr}{xs:List Str},h8 es=some xs->∃ps:List Pos,es=(xs.zip ps).map (λp=>Expr.Name p.1 p.2)/\ps.length=xs.length
 | [],xs,h=>by simp[h8]at h;subst h;exact⟨[],rfl,rfl⟩
 |e::es,xs,h=>by
  cases e with
  |Name y p=>
   simp only[h8,br]at h;obtain⟨ys,h1,rfl⟩:=h;obtain⟨ps,h2,h3⟩:=rH h1;exact⟨p::ps,by rw[h2];rfl,by simp[h3]⟩
  |_=>simp[h8]at h
theorem o5(O:XO w g c E X):∀{xs:List Str}{ps:List Pos}{is:List Nat},ps.length=xs.length->xs.mapM (dM c)=some is ->
  PGs X ((xs.zip ps).map λp=>Expr.Name p.1 p.2) (iJ is)/\(assignEach ((xs.zip ps).map λp=>Expr.Name p.1 p.2) X.env).length=is.length/\(assignEach ((xs.zip ps).map λp=>Expr.Name p.1 p.2) X.env).findIdx? (·.1)=none
 | [],ps,is,_,h=>by
  simp at h;subst h;exact⟨Ci,rfl,rfl⟩
 |x::xs,[],_,h,_=>by simp at h
 |x::xs,p::ps,is,hl,h=>by
  simp only[List.mapM_cons,aH,aF]at h;obtain⟨i,h1,js,h2,h3⟩:=h;cases h3;obtain⟨r1,r2,r3⟩:=o5 O (xs:=xs) (ps:=ps) (by simpa using hl) h2;refine⟨xB (pd O h1) r1 rfl,?_,?_⟩
  ·show (assignEach ((xs.zip ps).map λp=>Expr.Name p.1 p.2) X.env).length+1=js.length+1;rw[r2]
  ·show List.findIdx? (·.1) ((false,_)::assignEach ((xs.zip ps).map λp=>Expr.Name p.1 p.2) X.env)=none;rw[List.findIdx?_cons];simp only[aR,if_false];rw[r3];rfl
theorem jm(O:XO w g c E X){e:Expr}{tg:Tg}(h:cTg c e=some tg):PG X e (gT X.K tg):=by
 cases e with
 |Name x p=>
  simp only[cTg]at h;split at h
  ·cases h
  ·simp only[br]at h;obtain⟨i,h1,rfl⟩:=h;exact pd O h1
 |Tuple es k p=>
  simp only[cTg]at h;split at h
  ·rename_i hc
   simp only[aH,aF]at h;obtain⟨xs,h1,h⟩:=h;split at h
   ·cases h
   ·simp only[aF]at h;obtain⟨is,h2,h⟩:=h;split at h
    ·cases h;obtain⟨ps,rfl,hl⟩:=rH h1;obtain⟨r1,r2,r3⟩:=o5 O hl h2;exact yk (O.calm hc) r1 r2 r3
    ·cases h
  ·cases h
 |_=>simp[cTg]at h
noncomputable def h_(c:Cc):Tg->Prop
 | .nm i=>∀x,c.N[i]? = some x->c.own.contains x=false
 | .tp is=>∀i∈is,∀x,c.N[i]? = some x->c.own.contains x=false
theorem oE{α β:Type}{f:α->Option β}:∀{xs:List α}{ys:List β},xs.mapM f=some ys->∀y∈ys,∃x∈xs,f x=some y
 | [],ys,h,y,hy=>by simp at h;subst h;simp at hy
 |x::xs,ys,h,y,hy=>by
  simp only[List.mapM_cons,aH,aF]at h;obtain⟨z,h1,zs,h2,h3⟩:=h;cases h3;rcases aG.mp hy with rfl|hy
  ·exact⟨x,aO,h1⟩
  ·obtain⟨x',h4,h5⟩:=oE h2 y hy;exact⟨x',aK _ h4,h5⟩
theorem o4{e:Expr}{tg:Tg}(h:cTg c e=some tg):h_ c tg:=by
 have one:∀{x:Str}{i:Nat},c.own.contains x=false->dM c x=some i->∀y,c.N[i]? = some y->c.own.contains y=false:=λ{x i} ho hl y hy=>by
  obtain⟨h3,_⟩:=fA (fI hl).1;rw[h3]at hy;cases hy;exact ho
 cases e with
 |Name x p=>
  simp only[cTg]at h;split at h
  ·cases h
  ·rename_i ho
   simp only[br]at h;obtain⟨i,h1,rfl⟩:=h;exact one (by simpa using ho) h1
 |Tuple es k p=>
  simp only[cTg]at h;split at h
  ·simp only[aH,aF]at h;obtain⟨xs,h1,h⟩:=h;split at h
   ·cases h
   ·rename_i ho
    simp only[aF]at h;obtain⟨is,h2,h⟩:=h;split at h
    ·cases h;intro i hi;obtain⟨x,hx,hl⟩:=oE h2 i hi;refine one ?_ hl;cases q:c.own.contains x with
     |false=>rfl
     |true=>exact absurd (List.any_eq_true.mpr ⟨x,hx,q⟩) ho
    ·cases h
  ·cases h
 |_=>simp[cTg]at h
section
variable{τ τ':Env}{σ:L2.St}{H:Hp}{S:Sh}
theorem SE.set{i:Nat}{d:D}{v:V}(se:SE g c τ σ H S)(r:Rep g (hid H S) d v):SE g c (τ.set i (some d)) (σ.set i (some v)) H S:=by
 refine⟨by simp[se.len],λj e h=>?_,se.sub⟩;by_cases hij:i=j
 ·subst hij;by_cases hi:i<τ.length
  ·simp[hi]at h;subst h;have hi':i<σ.length:=by rw[<-se.len];exact hi
   exact⟨v,by simp[hi'],.inl r,λ_ _ _=>r⟩
  ·rw[List.set_eq_of_length_le (by lia)]at h;rw[List.getElem?_eq_none (by lia)]at h;cases h
 ·rw[List.getElem?_set_ne hij]at h ⊢;exact se.val j e h
theorem SE.setAll{is:List Nat}:∀{ds:List D}{vs:List V}{τ:Env}{σ:L2.St}{Q:L2.St->Hp->Prop},SE g c τ σ H S->qZ g (hid H S) ds vs->setAll is ds τ=.ok τ'->(∀σ',SE g c τ' σ' H S->Q σ' H)->iJ is vs σ H Q:=by
 induction is with
 |nil=>
  intro ds vs τ σ Q se r h k;cases r with
  |nil=>cases (show R.ok τ=R.ok τ' from h);exact⟨rfl,k σ se⟩
  |cons _ _=>cases (show R.no=R.ok τ' from h)
 |cons i is ih=>
  intro ds vs τ σ Q se r h k;cases r with
  |nil=>cases (show R.no=R.ok τ' from h)
  |cons r rs=>exact⟨_,_,rfl,ih (se.set r) rs h k⟩
theorem uZ(O:X.K=g.K){tg:Tg}{d:D}{v:V}{Q:L2.St->Hp->Prop}(se:SE g c τ σ H S)(r:Rep g (hid H S) d v)(h:store tg d τ=.ok τ')(k:∀σ',SE g c τ' σ' H S->Q σ' H):gT X.K tg v σ H Q:=by
 cases tg with
 |nm i=>
  simp only[store,R.ok.injEq]at h;subst h;exact k _ (se.set r)
 |tp is=>
  cases d with
  |tup ds=>
   simp only[store]at h;split at h
   ·rename_i hl
    cases r with
    |tup h1 r1=>exact⟨_,_,rfl,by rw[O];exact zB zF h1,by rw[<-r1.length];exact hl,se.setAll r1 h k⟩
   ·cases h
  |_=>simp[store]at h
end
end
abbrev dQ(c:Cc)(sc:aY):Cc:={c with nm:=jy sc.names c.nm,N:=cb sc.names,fnc:=false,oc:=iV sc.names}
section
variable{w:W}{g:Gc}{c:Cc}{E:XK}{X:Cx}
theorem XO.comp(O:XO w g c E X){sc:aY}(hk:sc.kind=.function)(hnd:(cb sc.names).Nodup)(cl:List (Str×Addr))(C:Addr)(s₀:af)(H₀:Hp)(fp:List Addr):XO w g (dQ c sc) E0 (zL X (cb sc.names) sc cl C s₀ H₀ fp) where
 K:=O.K
 nm:=by
  show (relabel sc X.env).names=jy sc.names c.nm;unfold relabel jy;simp only
  congr 1
  funext p;have h1:(X.env.scope.kind==ScopeKind.function)=true:=by rw[O.kind];rfl
  have h2:X.env.kindOf p.1=c.nm.lookup p.1:=by show X.env.scope.names.lookup p.1=_;rw[O.nm]
  obtain⟨n,k⟩:=p;simp only at h2;simp only[h1,h2,Bool.and_true]
 N:=rfl
 nd:=hnd
 calm:=O.calm
 units:=O.units
 fn:=λx z=>z.elim (λz=>by cases z) λz=>z
 kind:=hk
 pass:=kA rfl rfl
 gok:=O.gok
 fns:=O.fns
 sub:=O.sub
theorem Cb{α:Type}{τ:Env}{σ:L2.St}{H:Hp}{S:Sh}{it:It}{f:List D->R α}{P:α->Prop}{R':L2.It->Hp->Prop}(se:SE g c τ σ H S)(h:tR g E H ((evI w it τ).bind f) P)
  (k:∀ds J H',evI w it τ=.ok ds->qh H H'->(∀H2 S2,qh H' H2->qh (hid H' S) (hid H2 S2)->Sub S2 H2->Goes g J ds H2 S2)->(owned it=false->∀H2 S2,qh (hid H' S) (hid H2 S2)->Sub S2 H2->Goes g J ds H2 S2)->tR g E H' (f ds) P->R' J H'):tIt w g c E it σ H R':=by
 refine⟨τ,S,se,?_⟩;cases q:evI w it τ with
 |ok d=>rw[q]at h;exact λJ H' s k1 k2=>k d J H' q s k1 k2 (tR.up h s)
 |ex x=>rw[q]at h;exact h
 |no=>rw[q]at h;exact h
theorem EA{α:Type}{r:R α}{x:Str}:noEx r≠.ex x:=by cases r<;>intro h<;>cases h
theorem CV{α:Type}{r:R α}{a:α}(h:noEx r=.ok a):r=.ok a:=by cases r<;>first|exact h|cases h
theorem sF{body:D->Env->R (Env×List D)}(hb:∀d τ x,body d τ≠.ex x):∀{ds:List D}{τ:Env}{acc:List D}{x:Str},zZ body ds τ acc≠.ex x
 | [],_,_,_,h=>by cases h
 |d::r,τ,acc,x,h=>by
  simp only[zZ]at h;cases q:body d τ with
  |ok p=>rw[q]at h;exact sF hb h
  |ex y=>exact hb _ _ _ q
  |no=>rw[q]at h;cases h
theorem SE.caps{sc:aY}{cap:List (Option Nat)}{τ:Env}{σ:L2.St}{H:Hp}{S:Sh}(O:XO w g c E X)(hc:pU X (cb sc.names) cap sc)(se:SE g c τ σ H S):SE g (dQ c sc) (ef cap τ) (L2.caps cap σ) H S:=by
 refine⟨by simp[ef,L2.caps],λi d h=>?_,se.sub⟩;unfold ef at h;rw[List.getElem?_map]at h;cases q:cap[i]? with
 |none=>rw[q]at h;cases h
 |some o=>
  cases o with
  |none=>rw[q]at h;cases h
  |some j=>
   rw[q]at h;simp only[Option.map_some,Option.bind_some,bY]at h;cases q2:τ[j]? with
   |none=>rw[q2]at h;cases h
   |some z=>
    rw[q2]at h;cases z with
    |none=>cases h
    |some d'=>
     have:d'=d:=by simpa using h
     subst this;obtain⟨v,h1,h2,h3⟩:=se.val j d' q2;refine⟨v,?_,h2,λx hx ho=>?_⟩
     ·unfold L2.caps;rw[List.getElem?_map,q];simp[h1]
     ·obtain⟨y,e1,e2,_⟩:=hc.2 i j q;have hx':(cb sc.names)[i]? = some x:=hx;rw[e1]at hx';cases hx';exact h3 _ (by rw[<-O.N];exact e2) ho
theorem iC{H:Hp}{S:Sh}{p:Addr}{o:HO}(h:S.h p=true):hid (upd H p o) S=hid H S:=by
 funext b;unfold hid;by_cases hb:b=p
 ·subst hb;rw[if_pos h,if_pos h]
 ·rw[qq hb]
theorem SE.grow{c:Cc}{τ:Env}{σ:L2.St}{H:Hp}{S:Sh}{p:Addr}{o:HO}(se:SE g c τ σ H S)(h:S.h p=true)(ho:S.o p=false):SE g c τ σ (upd H p o) S:=by
 refine⟨se.len,λi d e=>?_,λa ha n=>?_⟩
 ·obtain⟨v,h1,h2,h3⟩:=se.val i d e;refine⟨v,h1,?_,λx hx hy=>by rw[iC h];exact h3 x hx hy⟩;rcases h2 with h2|⟨a,vs,ds,z1,z2,z3,z4,z5⟩
  ·exact .inl (by rw[iC h];exact h2)
  ·refine .inr ⟨a,vs,ds,z1,z2,z3,?_,by rw[iC h];exact z5⟩;rw[qq (λz=>by rw[z,ho]at z1;cases z1)];exact z4
 ·by_cases hb:a=p
  ·subst hb;rw[zC]at n;cases n
  ·rw[qq hb]at n;exact se.sub a ha n
theorem SE.hide{c:Cc}{τ:Env}{σ:L2.St}{H:Hp}{S:Sh}{p:Addr}{vs:List V}(se:SE g c τ σ H S)(hp:H p=none):SE g c τ σ (upd H p (.lst vs)) (cG S p):=by
 refine⟨se.len,λi d e=>?_,λa ha n=>?_⟩
 ·obtain⟨v,h1,h2,h3⟩:=se.val i d e;refine⟨v,h1,?_,λx hx hy=>(h3 x hx hy).mono (jL hp)⟩;rcases h2 with h2|⟨a,vs,ds,z1,z2,z3,z4,z5⟩
  ·exact .inl (h2.mono (jL hp))
  ·exact .inr ⟨a,vs,ds,z1,z2,z3,zx hp _ _ z4,z5.mono (jL hp)⟩
 ·by_cases hb:a=p
  ·subst hb;rw[zC]at n;cases n
  ·rw[qq hb]at n;refine se.sub a ?_ n;rcases ha with ha|ha
   ·refine .inl ?_;have ha:(S.h a||a==p)=true:=ha
    simpa[hb]using ha
   ·exact .inr ha
theorem tJ(O:XO w g c E X){sc:aY}{cap:List (Option Nat)}{iit:It}{itg:Tg}{tt:T}{ielt:EV.E}(hS:eB X (cb sc.names) cap sc)(he:esc ielt=true){σ:L2.St}{H:Hp}{Q:VK}(hq:tE w g c E (.comp iit cap itg tt ielt) σ H Q) :
  kM cap (tIt w g c E iit) (gT X.K itg) (tT w g (dQ c sc) E0 tt) (λacc=>jN acc (tE w g (dQ c sc) E0 ielt)) σ H Q:=by
 obtain⟨τ,S,se,k⟩:=hq;simp only[za,ze,qY,zj,zf,zb,zm,zk,zg,qE,qC,qy,qI,qG,qz,qt,qD,qk,qx,qp,qX,qi,qK,qU,qH,qw,qQ,qW,qO,qS,qV,qR,qP,qN,qF,qA,qr,qT,qM,qJ,qL,qB]at k;refine Cb se k λds J H1 e1 s1 kW _ k1 acc hacc=>?_
 by_cases hz:SZ<ds.length
 ·rw[if_pos hz]at k1;exact k1.elim
 rw[if_neg hz]at k1;generalize hbody:(λx σ=>noEx ((store itg x σ).bind λσ'=>(evT w tt σ').bind λr=>if r=true then (evE w ielt σ').bind λd=>R.ok (σ',[d])else R.ok (σ',[])))=body at k1;have bex:∀d τ x,body d τ≠.ex x:=λd τ x=>by rw[<-hbody];exact EA
 cases hl:zZ body ds (ef cap τ) []with
 |ex z=>exact absurd hl (sF bex)
 |no=>rw[hl]at k1;exact k1.elim
 |ok out=>
  rw[hl]at k1;simp only[R.bind_ok]at k1;have k1:∀v H',bp g c (.comp iit cap itg tt ielt) S H (.lst out) v H'->Q v H':=k1;have sub1:=se.sub.same s1;have hoacc:S.o acc=false:=sub1.freeO hacc;have hhacc:(cG S acc).h acc=true:=by show (S.h acc||acc==acc)=true;simp
  -- what holds between two turns
  refine⟨λi m σ' H'=>m=ds.length-i/\i<=ds.length/\∃τ' o,zZ body (ds.drop i) τ' o=.ok out/\SE g (dQ c sc) τ' σ' H' (cG S acc)/\o.length<=i/\qh H1 H'/\∃vs,H' acc=some (.lst vs)/\qZ g (hid H' (cG S acc)) o vs,
   ⟨ds.length,rfl,bu _,ef cap τ,[],hl,(se.up s1).caps O hS.cap |>.hide hacc,aE _,zx hacc,[],zC,.nil⟩,?_⟩
  rintro i m σ' H' ⟨rfl,hi',τ',o,hlo,se',hol,s1',vs,hv,hr⟩;have keep:qh (hid H1 S) (hid H' (cG S acc)):=λb u hb=>by
   obtain⟨z1,z2⟩:=b8.mp hb;refine b8.mpr ⟨?_,s1' _ _ z2⟩;show (S.h b||b==acc)=false;rw[z1]
   simpa using λz:b=acc=>by rw[z,hacc]at z2;cases z2
  obtain⟨g1,g2⟩:=kW H' (cG S acc) s1' keep se'.sub;by_cases hlt:i<ds.length
  ·have hd:ds[i]? = some ds[i]:=List.getElem?_eq_getElem hlt;obtain⟨go1,go2⟩:=g2 i ds[i] hd;refine .inr ⟨go1,λσ'' H''=>∃τ' o,zZ body (ds.drop (i+1)) τ' o=.ok out/\SE g (dQ c sc) τ' σ'' H'' (cG S acc)/\o.length<=i+1/\qh H1 H''/\∃vs,H'' acc=some (.lst vs)/\qZ g (hid H'' (cG S acc)) o vs,
    λσ'' H'' z=>⟨ds.length-(i+1),by lia,rfl,hlt,z⟩,λx H2 hy=>?_⟩
   obtain⟨s2,rx⟩:=go2 x H2 hy;rw[List.drop_eq_getElem_cons hlt]at hlo;simp only[zZ]at hlo;cases q:body ds[i] τ' with
   |ex z=>exact absurd q (bex _ _ _)
   |no=>rw[q]at hlo;cases hlo
   |ok p=>
    rw[q]at hlo;simp only[R.bind_ok]at hlo;rw[<-hbody]at q;have q:=CV q;cases q1:store itg ds[i] τ' with
    |ex z=>rw[q1]at q;cases q
    |no=>rw[q1]at q;cases q
    |ok τ1=>
     rw[q1]at q;simp only[R.bind_ok]at q;refine uZ O.K (se'.up s2) rx q1 λσ1 se1=>?_
     cases q2:evT w tt τ1 with
     |ex z=>rw[q2]at q;cases q
     |no=>rw[q2]at q;cases q
     |ok r=>
      rw[q2]at q;simp only[R.bind_ok]at q;refine⟨τ1,cG S acc,se1,?_⟩;rw[q2];intro H3 s3;have hv3:=s3 _ _ (s2 _ _ hv);have s13:=s1'.trans (s2.trans s3);cases r with
      |false=>
       simp only[aR,if_false,R.ok.injEq]at q;subst q;rw[if_neg cf];exact⟨τ1,o++[],hlo,se1.up s3,by simp;lia,s13,vs,hv3,by rw[dD];exact hr.mono (zq (s2.trans s3))⟩
      |true=>
       simp only[if_true]at q;rw[if_pos rfl];cases q3:evE w ielt τ1 with
       |ex z=>rw[q3]at q;cases q
       |no=>rw[q3]at q;cases q
       |ok dd=>
        rw[q3]at q;simp only[R.bind_ok,R.ok.injEq]at q;subst q;refine⟨τ1,cG S acc,se1.up s3,?_⟩;rw[q3];intro v H4 p4;have hv4:=p4.same _ _ hv3;have hr4:=hr.mono (zq ((s2.trans s3).trans p4.same));have hz':vs.length<sizeLine:=by
         rw[<-hr.length,bA];have:ds.length<=SZ:=dA hz;unfold SZ at this;lia
        refine⟨vs,hv4,hz',τ1,o++[dd],hlo,(se1.up (s3.trans p4.same)).grow hhacc hoacc,by simp;lia,λb u hb=>?_,vs++[v],zC,?_⟩
        ·rw[qq (λz=>by rw[z,hacc]at hb;cases hb)];exact p4.same _ _ (s13 _ _ hb)
        ·rw[iC hhacc];exact hr4.append (.cons (p4.st he) .nil)
  ·have e:i=ds.length:=by lia
   subst e;refine .inl ⟨g1 ds.length (aE _),?_⟩;rw[List.drop_length]at hlo;simp only[zZ,R.ok.injEq]at hlo;subst hlo;have rep:Rep g (hid H' S) (.lst o) (.ref acc):=.lst (SqL.of (b8.mpr ⟨sub1.free hacc,hv⟩)) (hr.mono tF);exact k1 _ _ (bp.new (s1.trans s1') rep ⟨acc,vs,o,rfl,rfl,s1.free hacc,hv,hr⟩)
theorem BE(O:XO w g c E X)(hcalm:X.calm=true){sc:aY}{cap:List (Option Nat)}{tgt it elt:Expr}{ifs:List Expr}{pos:Pos}{iit:It}{itg:Tg}{tt:T}{ielt:EV.E}(hS:eB X (cb sc.names) cap sc)(hnd:(cb sc.names).Nodup)
  (hi:PI X tgt it (tIt w g c E iit)) (hb:∀cl C s₀ H₀ fp,PG (zL X (cb sc.names) sc cl C s₀ H₀ fp) tgt (gT X.K itg)/\PTs (zL X (cb sc.names) sc cl C s₀ H₀ fp) ifs (tT w g (dQ c sc) E0 tt)/\PE (zL X (cb sc.names) sc cl C s₀ H₀ fp) elt (tE w g (dQ c sc) E0 ielt))
  (he:esc ielt=true) (hs:zz it=true):PE X (.ListComp elt [⟨tgt,it,ifs,0⟩] sc pos) (tE w g c E (.comp iit cap itg tt ielt)):=by
 exact PE.imp (Bv (tb:=λacc=>jN acc (tE w g (dQ c sc) E0 ielt)) hcalm hS hi (λcl C s₀ H₀ fp=>⟨(hb cl C s₀ H₀ fp).1,(hb cl C s₀ H₀ fp).2.1,λacc=>nk rfl (hb cl C s₀ H₀ fp).2.2⟩) (by simp) (λx=>by cases it<;>first|rfl|(simp[zz]at hs))) λσ H Q q=>tJ O hS he q
end
section
variable{prog:aB}{w:aw}{A:aC}{E:ae->af->Prop}{s:af}
end
section
variable{X:Cx}
end
section
variable{w:W}{g:Gc}{c:Cc}{E:XK}{X:Cx}{a b:Expr}{ia ib:EV.E}{pos p2 p3 pos3:Pos}
theorem tG(O:XO w g c E X)(hc:X.calm=true){x y:Str}{n:String}{bb:Option B1}{e:Expr}{es:List Expr}{it:It}{t:TA}(hT:glob c x=some (.ty n bb))(h:glob c y=some .rng)(ha:PA X (e::es) t)(hs:∀z∈e::es,isStar z=false)
  (hn:n = "tuple"\/n = "list")
  (k:∀σ H (Q:List V->Hp->Prop) τ S (P:List D->Prop),SE g c τ σ H S->tR g E H (evI w it τ) P->(∀lo hi vs H',qh H H'->(vs=[.int hi]/\lo=0\/vs=[.int lo,.int hi])->zt lo=true->zt hi=true->P (zT lo (hi-lo).toNat)->Q vs H')->t σ H Q) :
  PE X (.Call (.Name x p2) [.Call (.Name y p3) (e::es) [] pos3] [] pos) (tE w g c E (if n = "tuple" then .rtup it else .rlst it)):=λpins s σ H Q I ⟨τ,S,se,kk⟩=>by
 rcases hn with rfl|rfl
 ·simp only[if_true,za,ze,qY,zj,zf,zb,zm,zk,zg,qE,qC,qy,qI,qG,qz,qt,qD,qk,qx,qp,qX,qi,qK,qU,qH,qw,qQ,qW,qO,qS,qV,qR,qP,qN,qF,qA,qr,qT,qM,qJ,qL,qB]at kk;exact a9 kk
 ·rw[if_neg (by decide)]at kk;simp only[za,ze,qY,zj,zf,zb,zm,zk,zg,qE,qC,qy,qI,qG,qz,qt,qD,qk,qx,qp,qX,qi,qK,qU,qH,qw,qQ,qW,qO,qS,qV,qR,qP,qN,qF,qA,qr,qT,qM,qJ,qL,qB]at kk;exact a9 kk
theorem BG(O:XO w g c E X)(hc:X.calm=true){x y:Str}{bb:Option B1}{d:Expr}{id:EV.E}(hT:glob c x=some (.ty "tuple" bb))(h:glob c y=some .rng)(ha:PE X a (tE w g c E ia))(hb:PE X b (tE w g c E ib))(hd:PE X d (tE w g c E id))(hs:isStar a=false)(hs':isStar b=false)(hs'':isStar d=false) :
  PE X (.Call (.Name x p2) [.Call (.Name y p3) [a,b,d] [] pos3] [] pos) (tE w g c E (.rtup (.rng3 ia ib id))):=λpins s σ H Q I ⟨τ,S,se,kk⟩=>by
 simp only[za,ze,qY,zj,zf,zb,zm,zk,zg,qE,qC,qy,qI,qG,qz,qt,qD,qk,qx,qp,qX,qi,qK,qU,qH,qw,qQ,qW,qO,qS,qV,qR,qP,qN,qF,qA,qr,qT,qM,qJ,qL,qB]at kk;exact a9 kk
theorem ug(ha:PE X a (tE w g c E ia))(hs:isStar a=false):PA X [a] (gb (tE w g c E ia) gP):=zA ha cM (qu hs)
theorem yy:∀σ H (Q:List V->Hp->Prop) τ S (P:List D->Prop),SE g c τ σ H S->tR g E H (evI w (.rng ia) τ) P->(∀lo hi vs H',qh H H'->(vs=[.int hi]/\lo=0\/vs=[.int lo,.int hi])->zt lo=true->zt hi=true->P (zT lo (hi-lo).toNat)->Q vs H')->gb (tE w g c E ia) gP σ H Q:=by
 intro σ H Q τ S P se q k;simp only[evI]at q;refine zh se q λda va H1 e1 p1 k1=>?_
 cases da with
 |int j=>
  simp only at k1;cases z:zt j with
  |true=>rw[z,if_pos rfl]at k1;exact k 0 j _ H1 p1.same (.inl ⟨by rw[p1.rb.int],rfl⟩) (by decide) z (by rw[Int.sub_zero];exact k1)
  |false=>rw[z]at k1;exact k1.elim
 |_=>exact k1.elim
theorem DS:∀σ H (Q:List V->Hp->Prop) τ S (P:List D->Prop),SE g c τ σ H S->tR g E H (evI w (.rng2 ia ib) τ) P->(∀lo hi vs H',qh H H'->(vs=[.int hi]/\lo=0\/vs=[.int lo,.int hi])->zt lo=true->zt hi=true->P (zT lo (hi-lo).toNat)->Q vs H')->gb (tE w g c E ia) (gb (tE w g c E ib) gP) σ H Q:=by
 intro σ H Q τ S P se q k;simp only[evI]at q;refine zh se q λda va H1 e1 p1 k1=>zh (se.up p1.same) k1 λdb vb H2 e2 p2 k2=>?_
 cases da with
 |int i=>
  cases db with
  |int j=>
   simp only at k2;cases z:zt i&&zt j with
   |true=>
    rw[z,if_pos rfl]at k2;simp only[aJ]at z;exact k i j _ H2 (p1.same.trans p2.same) (.inr (by rw[p1.rb.int,p2.rb.int])) z.1 z.2 k2
   |false=>rw[z]at k2;exact k2.elim
  |_=>exact k2.elim
 |_=>exact k2.elim
end
structure Snd(w:W)(g:Gc)(n:Nat):Prop where
 e:∀{c:Cc}{E:XK}{X:Cx} (O:XO w g c E X) {x:Expr}{ir:EV.E},cE n c x=some ir->PE X x (tE w g c E ir)
 bo:∀{c:Cc}{E:XK}{X:Cx} (O:XO w g c E X) {op:PySem.BoolOp}{vs:List Expr}{pos:Pos}{ir:EV.E},cBo n c op vs=some ir->PE X (.BoolOp op vs pos) (tE w g c E ir)/\esc ir=true
 o:∀{c:Cc}{E:XK}{X:Cx} (O:XO w g c E X) {x:Option Expr}{ir:OE},cO n c x=some ir->PO X x (tOe w g c E ir)
 es:∀{c:Cc}{E:XK}{X:Cx} (O:XO w g c E X) {x:List Expr}{ir:Es},cEs n c x=some ir->PA X x (tA w g c E ir)
 i:∀{c:Cc}{E:XK}{X:Cx} (O:XO w g c E X) {tg x:Expr}{ir:It},cI n c x=some ir->h9 ir tg=true->PI X tg x (tIt w g c E ir)
 t:∀{c:Cc}{E:XK}{X:Cx} (O:XO w g c E X) {x:Expr}{ir:T},cT n c x=some ir->PT X x (tT w g c E ir)
 ts:∀{c:Cc}{E:XK}{X:Cx} (O:XO w g c E X) {op:PySem.BoolOp}{vs:List Expr}{pos:Pos}{ir:T},cTs n c op vs=some ir->PW X (.BoolOp op vs pos) (tT w g c E ir)
 ifs:∀{c:Cc}{E:XK}{X:Cx} (O:XO w g c E X) {x:List Expr}{ir:T},fF n c x=some ir->PTs X x (tT w g c E ir)
section
variable{w:W}{g:Gc}{n:Nat}
theorem Snd.ifs_succ(ih:Snd w g n){c:Cc}{E:XK}{X:Cx}(O:XO w g c E X){x:List Expr}{ir:T}(h:fF (n+1) c x=some ir):PTs X x (tT w g c E ir):=by
 match x with
 | []=>
  simp only[fF,bY]at h;subst h;intro pins s σ H Q I ⟨τ,S,se,q⟩;exact Fc pins s σ H Q I (q H (qh.refl _))
 | [t]=>simp only[fF]at h;exact yb (ih.t O h)
 |_::_::_=>simp[fF]at h
theorem Snd.bo_succ(ih:Snd w g n){c:Cc}{E:XK}{X:Cx}(O:XO w g c E X){op:PySem.BoolOp}{vs:List Expr}{pos:Pos}{ir:EV.E}(h:cBo (n+1) c op vs=some ir):PE X (.BoolOp op vs pos) (tE w g c E ir)/\esc ir=true:=by
 match vs with
 | []=>simp[cBo]at h
 | [a]=>
  simp only[cBo,aH,aF]at h;obtain⟨ia,h1,h⟩:=h;split at h
  ·rename_i he
   cases h;exact⟨El (ih.e O h1),he⟩
  ·cases h
 |a::b::r=>
  simp only[cBo,aH,aF]at h;obtain⟨ia,h1,ir',h2,h⟩:=h;obtain⟨r1,r2⟩:=ih.bo O (pos:=pos) h2;cases op with
  |And=>cases h;exact⟨E3 (ih.e O h1) r1 r2,rfl⟩
  |Or=>cases h;exact⟨yd (ih.e O h1) r1 r2,rfl⟩
theorem Snd.o_succ(ih:Snd w g n){c:Cc}{E:XK}{X:Cx}(O:XO w g c E X){x:Option Expr}{ir:OE}(h:cO (n+1) c x=some ir):PO X x (tOe w g c E ir):=by
 cases x with
 |none=>simp only[cO,bY]at h;subst h;exact uE
 |some e=>
  simp only[cO,br]at h;obtain⟨ie,h1,rfl⟩:=h;exact xc (ih.e O h1)
theorem Snd.es_succ(ih:Snd w g n){c:Cc}{E:XK}{X:Cx}(O:XO w g c E X){x:List Expr}{ir:Es}(h:cEs (n+1) c x=some ir):PA X x (tA w g c E ir):=by
 match x with
 | []=>simp only[cEs,bY]at h;subst h;exact A5
 |e::r=>
  have hs:=fK h e aO;simp only[cEs,hs,aR,if_false,aH,aF]at h;obtain⟨ie,h1,ir',h2,h⟩:=h;cases h;exact Ae (ih.e O h1) (ih.es O h2) hs
theorem Snd.ts_succ(ih:Snd w g n){c:Cc}{E:XK}{X:Cx}(O:XO w g c E X){op:PySem.BoolOp}{vs:List Expr}{pos:Pos}{ir:T}(h:cTs (n+1) c op vs=some ir):PW X (.BoolOp op vs pos) (tT w g c E ir):=by
 match vs with
 | []=>simp[cTs]at h
 | [a]=>
  simp only[cTs]at h;cases op with
  |And=>exact Ei (ih.t O h)
  |Or=>exact xb (ih.t O h)
 |a::b::r=>
  simp only[cTs,aH,aF]at h;obtain⟨ia,h1,ir',h2,h⟩:=h;cases op with
  |And=>cases h;exact Ep (ih.t O h1) (ih.ts O h2)
  |Or=>cases h;exact CS (ih.t O h1) (ih.ts O h2)
theorem Snd.t_succ(ih:Snd w g n){c:Cc}{E:XK}{X:Cx}(O:XO w g c E X){x:Expr}{ir:T}(h:cT (n+1) c x=some ir):PT X x (tT w g c E ir):=by
 unfold cT at h;split at h
 ·simp only[br]at h;obtain⟨ia,h1,rfl⟩:=h;exact Eg (ih.t O h1)
 ·exact(ih.ts O h).pt
 ·cases h
 ·split at h
  ·simp only[aH,aF]at h;obtain⟨ia,h1,ib,h2,h⟩:=h;split at h
   ·rename_i hs;cases h;exact xa O (ih.e O h1) (ih.e O h2) hs
   ·cases h
  ·simp only[aH,aF]at h;obtain⟨ia,h1,ib,h2,id',h3,h⟩:=h;split at h
   ·rename_i hs
    simp only[aJ]at hs;cases h;exact uM O (ih.e O h1) (ih.e O h2) (ih.e O h3) hs.2
   ·cases h
  ·simp only[aH,aF]at h;obtain⟨ia,h1,ib,h2,id',h3,if',h4,h⟩:=h;split at h
   ·rename_i hs
    simp only[aJ]at hs;cases h;exact Cz O (ih.e O h1) (ih.e O h2) (ih.e O h3) (ih.e O h4) hs.2
   ·cases h
  ·cases h
 ·rename_i n1 n2 n3 n4
  simp only[br]at h;obtain⟨ia,h1,rfl⟩:=h;refine xK O (ih.e O h1) λwhole=>?_
  cases x with
  |UnaryOp op a p=>cases op<;>first|rfl|exact(n1 _ _ rfl).elim
  |BoolOp op vs p=>exact(n2 _ _ _ rfl).elim
  |IfExp a b d p=>exact(n3 _ _ _ _ rfl).elim
  |Compare a ops bs p=>exact(n4 _ _ _ _ rfl).elim
  |_=>rfl
theorem Snd.i_succ(ih:Snd w g n){c:Cc}{E:XK}{X:Cx}(O:XO w g c E X){tg x:Expr}{ir:It}(h:cI (n+1) c x=some ir)(ht:h9 ir tg=true):PI X tg x (tIt w g c E ir):=by
 have sq:∀{x:Expr}{ir:It},(cE n c x).map It.seq=some ir->PI X tg x (tIt w g c E ir):=λ{x ir} h=>by
  simp only[br]at h;obtain⟨ia,h1,rfl⟩:=h;exact vK O (ih.e O h1)
 have tup:isTup tg=true->∃es k p,tg=.Tuple es k p:=λh=>by cases tg<;>first|exact⟨_,_,_,rfl⟩|(simp[isTup]at h)
 unfold cI at h;split at h
 ·rename_i f p as q
  split at h
  ·exact sq h
  ·split at h
   ·rename_i hg
    split at h
    ·rename_i a
     split at h
     ·cases h
     ·rename_i hs
      simp only[br]at h;obtain⟨ia,h1,rfl⟩:=h;exact wA O hg (ih.e O h1) (by simpa using hs)
    ·rename_i a b
     split at h
     ·cases h
     ·rename_i hs
      have hs:isStar a=false/\isStar b=false:=by simpa using hs
      simp only[aH,aF]at h;obtain⟨ia,h1,ib,h2,h⟩:=h;cases h;exact wY O hg (ih.e O h1) (ih.e O h2) hs.1 hs.2
    ·cases h
   ·rename_i hg
    split at h
    ·rename_i a
     split at h
     ·cases h
     ·rename_i hs
      simp only[br]at h;obtain⟨ia,h1,rfl⟩:=h;obtain⟨es,k,p',rfl⟩:=tup ht;exact AQ O hg (ih.e O h1) (by simpa using hs)
    ·cases h
   ·rename_i hg
    split at h
    ·rename_i a b
     split at h
     ·cases h
     ·rename_i hs
      have hs:isStar a=false/\isStar b=false:=by simpa using hs
      simp only[aH,aF]at h;obtain⟨ia,h1,ib,h2,h⟩:=h;cases h;obtain⟨es,k,p',rfl⟩:=tup ht;exact vW O hg (ih.e O h1) (ih.e O h2) hs.1 hs.2
    ·cases h
   ·exact sq h
 ·exact sq h
end
end EV
namespace ST
open PySem PySem.SetTable
noncomputable def adv(mask:Nat)(p:Probe):Probe:=
 if p.more>0 then {p with j:=p.j+1,more:=p.more-1}else
 {p with j:=(leap mask p.i p.perturb).1,more:=runEnd mask (leap mask p.i p.perturb).1-(leap mask p.i p.perturb).1,i:=(leap mask p.i p.perturb).1,perturb:=(leap mask p.i p.perturb).2}
theorem rK(t:aW)(p:Probe):t.advance p=adv t.mask p:=rfl
noncomputable def RS(mask:Nat)(x:Nat×Nat):Probe:=⟨x.1,runEnd mask x.1-x.1,x.1,x.2,none⟩
noncomputable def pr(mask:Nat)(h:Int):Nat->Probe
 | 0=>RS mask (bits h%(mask+1),bits h)
 |n+1=>adv mask (pr mask h n)
noncomputable def it(mask:Nat):Nat->Probe->Probe
 | 0,p=>p
 |d+1,p=>it mask d (adv mask p)
theorem jM(mask:Nat)(h:Int):∀d n,pr mask h (n+d)=it mask d (pr mask h n)
 | 0,n=>rfl
 |d+1,n=>by rw[it,show n+(d+1)=n+1+d by lia,jM mask h d (n+1)];rfl
theorem lF(mask:Nat):∀d e p,it mask (d+e) p=it mask e (it mask d p)
 | 0,e,p=>by rw[Nat.zero_add];rfl
 |d+1,e,p=>by rw[show d+1+e=d+e+1 by lia,it,it,lF mask d e]
noncomputable def lp(mask:Nat):Nat->Nat×Nat->Nat×Nat
 | 0,x=>x
 |k+1,x=>lp mask k (leap mask x.1 x.2)
theorem oh(mask:Nat):∀d e x,lp mask (d+e) x=lp mask e (lp mask d x)
 | 0,e,x=>by rw[Nat.zero_add];rfl
 |d+1,e,x=>by rw[show d+1+e=d+e+1 by lia,lp,lp,oh mask d e]
structure Ok(mask:Nat)(p:Probe):Prop where
 more:p.more<=9
 le:p.j+p.more<=mask
 pt:p.perturb<2^64
 dm:p.dummy=none
theorem iF{mask i:Nat}(h:i<=mask):runEnd mask i-i<=9/\i+(runEnd mask i-i)<=mask/\i<=runEnd mask i:=by
 unfold runEnd;split<;>lia
theorem EF{mask:Nat}{x:Nat×Nat}(h:x.1<=mask)(hp:x.2<2^64):Ok mask (RS mask x):=⟨(iF h).1,(iF h).2.1,hp,rfl⟩
theorem gZ(mask i p:Nat):(leap mask i p).1<=mask:=Nat.le_of_lt_succ (Nat.mod_lt _ (Nat.succ_pos _))
theorem A2{mask:Nat}{p:Probe}(h:Ok mask p):Ok mask (adv mask p):=by
 have a:=h.more;have b:=h.le;have c:=h.pt;have d:=h.dm;unfold adv;split
 ·exact⟨by show p.more-1<=9;lia,by show p.j+1+(p.more-1)<=mask;lia,c,d⟩
 ·have:=iF (gZ mask p.i p.perturb);exact⟨this.1,this.2.1,by show p.perturb/32<_;lia,d⟩
theorem gN(mask:Nat)(h:Int):∀n,Ok mask (pr mask h n)
 | 0=>EF (Nat.le_of_lt_succ (Nat.mod_lt _ (Nat.succ_pos _))) (by
   show bits h<2^64;unfold bits;have:=Int.emod_lt_of_pos h (show (0:Int)<2^64 by decide);have:=Int.emod_nonneg h (show (2^64:Int)≠0 by decide);lia)
 |n+1=>A2 (gN mask h n)
theorem lJ(mask:Nat)(h:Int)(n:Nat):(pr mask h n).j<=mask:=by have:=(gN mask h n).le;lia
theorem kj(mask:Nat):∀(r:Nat) (p:Probe),p.more=r->p.dummy=none->it mask (r+1) p=RS mask (leap mask p.i p.perturb)/\∀c,c<=r->(it mask c p).j=p.j+c
 | 0,p,h,hd=>by
  refine⟨?_,λc hc=>by rw[Nat.le_zero.mp hc];rfl⟩;rw[it,it,adv,if_neg (by lia)];obtain⟨j,m,i,q,d⟩:=p;cases hd
  rfl
 |r+1,p,h,hd=>by
  have e:adv mask p={p with j:=p.j+1,more:=p.more-1}:=by rw[adv,if_pos (by lia)]
  have g:=kj mask r (adv mask p) (by rw[e];show p.more-1=r;lia) (by rw[e];exact hd);refine⟨?_,λc hc=>?_⟩
  ·rw[it,g.1,e]
  ·cases c with
   |zero=>rfl
   |succ c=>rw[it,g.2 c (by lia),e];show p.j+1+c=_;lia
theorem sX(mask:Nat):∀(k:Nat) (x:Nat×Nat),x.1<=mask->∃d,d<=10 * k/\it mask d (RS mask x)=RS mask (lp mask k x)
 | 0,x,_=>⟨0,by lia,rfl⟩
 |k+1,x,hx=>by
  obtain⟨d,h1,h2⟩:=sX mask k (leap mask x.1 x.2) (gZ ..);have r:=(kj mask _ (RS mask x) rfl rfl).1;have:=(iF hx).1;refine⟨(RS mask x).more+1+d,by show runEnd mask x.1-x.1+1+d<=_;lia,?_⟩;rw[lF,r];exact h2
theorem nP(mask:Nat):∀(k:Nat) (x:Nat×Nat),(lp mask k x).2=x.2/32^k
 | 0,x=>by simp[lp]
 |k+1,x=>by rw[lp,nP mask k];show x.2/32/32^k=_;rw[Nat.div_div_eq_div_mul,Nat.pow_succ,Nat.mul_comm]
theorem rZ(mask:Nat):∀(k:Nat) (x:Nat×Nat),x.1<=mask->(lp mask k x).1<=mask
 | 0,_,h=>h
 |k+1,_,_=>rZ mask k _ (gZ ..)
noncomputable def om(mask:Nat):Nat->Nat->Nat
 | 0,_=>0
 |n+1,i=>2^i |||om mask n ((i * 5+1)%(mask+1))
theorem pq(mask:Nat){j:Nat}:∀(n i:Nat),(om mask n i).testBit j=true->∃k,k<n/\lp mask k (i,0)=(j,0)
 | 0,i,h=>by simp[om]at h
 |n+1,i,h=>by
  rw[om,Nat.testBit_or,Nat.testBit_two_pow,bV,decide_eq_true_eq]at h;rcases h with rfl|h
  ·exact⟨0,by lia,rfl⟩
  ·obtain⟨k,h1,h2⟩:=pq mask n _ h;refine⟨k+1,by lia,?_⟩;rw[lp,<-h2];show lp mask k ((i * 5+1+0/32)%(mask+1),0/32)=_;rw[Nat.zero_div,Nat.add_zero]
noncomputable def Mk(mask:Nat):Prop:=mask=7\/mask=31\/mask=127
theorem xQ{mask:Nat}(h:Mk mask):(a_ (mask+1)).all (λi=>om mask (mask+1) i==2^(mask+1)-1)=true:=by
 rcases h with rfl|rfl|rfl<;>decide +kernel
theorem nD{mask:Nat}(hM:Mk mask){x:Nat×Nat}(hp:x.2<2^64)(hx:x.1<=mask){j:Nat}(hj:j<=mask):∃k,k<=mask+13/\(lp mask k x).1=j:=by
 have a:=bL.mp (xQ hM) (lp mask 13 x).1 (List.mem_range.mpr (Nat.lt_succ_of_le (rZ mask 13 x hx)));have b:(om mask (mask+1) (lp mask 13 x).1).testBit j=true:=by
  rw[eq_of_beq a,Nat.testBit_two_pow_sub_one,decide_eq_true_eq];lia
 obtain⟨k,h1,h2⟩:=pq mask _ _ b;have c:lp mask 13 x=((lp mask 13 x).1,0):=by
  refine Prod.ext rfl ?_;rw[nP];exact Nat.div_eq_of_lt (bt hp (by decide))
 exact⟨13+k,by lia,by rw[oh,c,h2]⟩
theorem cover{mask:Nat}(hM:Mk mask)(h:Int)(n:Nat){j:Nat}(hj:j<=mask):∃m,n<=m/\m<n+10 * turns mask/\(pr mask h m).j=j:=by
 have o:=gN mask h n;obtain⟨k,h1,h2⟩:=nD hM (x:=leap mask (pr mask h n).i (pr mask h n).perturb) (by have:=o.pt;show _/32<_;lia) (gZ ..) hj;obtain⟨d,h3,h4⟩:=sX mask k (leap mask (pr mask h n).i (pr mask h n).perturb) (gZ ..);have r:=(kj mask _ (pr mask h n) rfl o.dm).1;have:=o.more;refine⟨n+((pr mask h n).more+1+d),by lia,by unfold turns;lia,?_⟩;rw[jM,lF,r,h4];exact h2
noncomputable def Ri(xs:Array Nat):Prop:=∀i k x y:Nat,i<k->xs[i]? = some x->xs[k]? = some y->x<y
theorem Ri.of{xs:Array Nat}(h:xs.toList.Pairwise (· < ·)):Ri xs:=by
 intro i k x y hik hx hy;rw[List.pairwise_iff_getElem]at h;obtain⟨a,rfl⟩:=Array.getElem?_eq_some_iff.mp hx;obtain⟨b,rfl⟩:=Array.getElem?_eq_some_iff.mp hy;exact h i k a b hik
theorem mi{xs:Array Nat}(hr:Ri xs)(j:Nat):∀(fuel lo hi:Nat),hi-lo<=fuel->lo<=hi->hi<=xs.size->(∀i x,i<lo->xs[i]? = some x->x<j)->(∀i x,hi<=i->xs[i]? = some x->j<=x) ->
  below.go xs j fuel lo hi<=xs.size/\(∀i x,xs[i]? = some x->(i<below.go xs j fuel lo hi↔x<j))
 | 0,lo,hi,h1,h2,h3,h4,h5=>by
  rw[below.go];refine⟨by lia,λi x e=>⟨λh=>h4 i x h e,λh=>?_⟩⟩;refine Nat.lt_of_not_le λg=>?_
  have:=h5 i x (by lia) e;lia
 |fuel+1,lo,hi,h1,h2,h3,h4,h5=>by
  rw[below.go];split
  ·rename_i hl
   have hm:(lo+hi)/2<xs.size:=by lia
   have e:xs[(lo+hi)/2]? = some xs[(lo+hi)/2]:=Array.getElem?_eq_getElem hm;have g:xs.getD ((lo+hi)/2) j=xs[(lo+hi)/2]:=by rw[Array.getD_eq_getD_getElem?,e];rfl
   dsimp only;rw[g];split
   ·rename_i hq
    refine mi hr j fuel _ hi (by lia) (by lia) h3 (λi x hi' e'=>?_) h5;rcases Nat.lt_trichotomy i ((lo+hi)/2)with q|q|q
    ·exact Nat.lt_trans (hr i _ x _ q e' e) hq
    ·subst q;rw[e]at e';cases e';exact hq
    ·lia
   ·rename_i hq
    refine mi hr j fuel lo _ (by lia) (by lia) (by lia) h4 λi x hi' e'=>?_
    rcases Nat.lt_trichotomy i ((lo+hi)/2)with q|q|q
    ·lia
    ·subst q;rw[e]at e';cases e';lia
    ·have:=hr _ i _ x q e e';lia
  ·refine⟨by lia,λi x e=>⟨λh=>h4 i x h e,λh=>?_⟩⟩;refine Nat.lt_of_not_le λg=>?_
   have:=h5 i x (by lia) e;lia
theorem jJ{xs:Array Nat}(hr:Ri xs)(j:Nat):below xs j<=xs.size/\(∀i x,xs[i]? = some x->(i<below xs j↔x<j)):=
 mi hr j xs.size 0 xs.size (by lia) (by lia) (aE _) (λ_ _ h=>absurd h (Nat.not_lt_zero _)) λi x h e=>by
  have:=(Array.getElem?_eq_some_iff.mp e).1;lia
theorem below_at{xs:Array Nat}(hr:Ri xs){i j:Nat}(h:xs[i]? = some j):below xs j=i:=by
 obtain⟨a,b⟩:=jJ hr j;have c:=(b i j h)
 rcases Nat.lt_trichotomy (below xs j) i with q|q|q
 ·have hs:i<xs.size:=(Array.getElem?_eq_some_iff.mp h).1;have e:xs[below xs j]? = some xs[below xs j]:=Array.getElem?_eq_getElem (by lia);have:=(b _ _ e).mpr (hr _ _ _ _ q e h);lia
 ·exact q
 ·have:=c.mp q;lia
theorem tW{t:aW}(hr:Ri t.place){i j:Nat}(h:t.place[i]? = some j):t.slot j=.live i:=by
 unfold slot;dsimp only;rw[below_at hr h,h];simp
theorem rF(j:Nat):has #[] j=false:=by simp[has]
theorem mZ{t:aW}(hd:t.dummies = #[]){j:Nat}(h:∀i:Nat,t.place[i]?≠some j):t.slot j=.empty:=by
 unfold slot;dsimp only;rw[if_neg (by simpa using h _),hd,rF];simp
noncomputable def Reach(mask:Nat)(P:Nat->Prop)(h:Int)(j:Nat):Prop:=∃n,(pr mask h n).j=j/\∀m,m<n->P (pr mask h m).j
theorem Reach.mono{mask:Nat}{P Q:Nat->Prop}{h:Int}{j:Nat}(r:Reach mask P h j)(s:∀j,P j->Q j):Reach mask Q h j:=
 let ⟨n,a,b⟩:=r;⟨n,a,λm hm=>s _ (b m hm)⟩
structure Good(t:aW)(hs:List Int):Prop where
 ma:Mk t.mask
 dum:t.dummies = #[]
 len:t.place.size=hs.length
 ri:t.place.toList.Pairwise (· < ·)
 le:∀j∈t.place.toList,j<=t.mask
 re:∀jh∈t.place.toList.zip hs,Reach t.mask (·∈t.place.toList) jh.2 jh.1
theorem long:∀(n:Nat) (l:List Nat),(∀j,j<n->j∈l)->n<=l.length
 | 0,_,_=>bu _
 |n+1,l,h=>by
  have a:=long n (l.erase n) λj hj=>(List.mem_erase_of_ne (by lia)).mpr (h j (by lia))
  have b:=List.length_erase_of_mem (h n (by lia));have c:=List.length_pos_of_mem (h n (by lia));lia
section
variable{t:aW}{hs:List Int}(G:Good t hs)
include G
theorem Good.free(hf:hs.length<=t.mask)(h:Int)(n:Nat):∃m,n<=m/\m<n+10 * turns t.mask/\(pr t.mask h m).j∉t.place.toList:=by
 have:∃j,j<=t.mask/\j∉t.place.toList:=Classical.byContradiction λg=>by
  have:=long (t.mask+1) t.place.toList λj hj=>Classical.byContradiction λq=>g ⟨j,by lia,q⟩
  rw[bU,G.len]at this;lia
 obtain⟨j,h1,h2⟩:=this;obtain⟨m,a,b,c⟩:=cover G.ma h n h1;exact⟨m,a,b,by rw[c];exact h2⟩
theorem Good.go(hashAt:Nat->Int)(h:Int):∀(fuel n:Nat),(∃m,n<=m/\m<n+fuel/\(pr t.mask h m).j∉t.place.toList) ->
  ∃m,n<=m/\(∀k,n<=k->k<m->∃i,t.place[i]? = some (pr t.mask h k).j/\hashAt i≠h) /\
   (((pr t.mask h m).j∉t.place.toList/\probe.go t hashAt h fuel (pr t.mask h n)=some (.empty (pr t.mask h m).j none)) \/
    ∃i,t.place[i]? = some (pr t.mask h m).j/\hashAt i=h/\probe.go t hashAt h fuel (pr t.mask h n)=some (.candidate (pr t.mask h m).j i (pr t.mask h (m+1))))
 | 0,n,⟨m,a,b,_⟩=>by lia
 |fuel+1,n,⟨m,a,b,c⟩=>by
  have hr:=Ri.of G.ri;by_cases hin:(pr t.mask h n).j∈t.place.toList
  ·obtain⟨i,hi⟩:=List.mem_iff_getElem?.mp hin;rw[Array.getElem?_toList]at hi;rw[probe.go,tW hr hi];dsimp only;by_cases hq:hashAt i=h
   ·refine⟨n,aE _,λk h1 h2=>by lia,.inr ⟨i,hi,hq,?_⟩⟩;rw[if_pos (beq_iff_eq.mpr hq),rK];rfl
   ·rw[if_neg (by simpa using hq),rK];have hne:m≠n:=λe=>c (e▸hin)
    obtain⟨m',a',b',c'⟩:=Good.go hashAt h fuel (n+1) ⟨m,by lia,by lia,c⟩;refine⟨m',by lia,λk h1 h2=>?_,c'⟩;rcases Nat.eq_or_lt_of_le h1 with rfl|h1
    ·exact⟨i,hi,hq⟩
    ·exact b' k h1 h2
  ·refine⟨n,aE _,λk h1 h2=>by lia,.inl ⟨hin,?_⟩⟩;rw[probe.go,mZ G.dum λi e=>hin (by rw[<-Array.getElem?_toList]at e;exact List.mem_of_getElem? e)];dsimp only;rw[(gN t.mask h n).dm]
theorem Good.fits(hf:hs.length<=t.mask):t.fits hs.length=true:=by
 unfold aW.fits aW.fill;rw[G.dum,G.len]
 simpa using hf
theorem Good.put{h:Int}{j:Nat}(hj:j∉t.place.toList)(hR:Reach t.mask (·∈t.place.toList) h j) :
  t.put j=({t with place:=insertAt t.place (below t.place j) j},below t.place j)/\below t.place j<=hs.length /\
   Good {t with place:=insertAt t.place (below t.place j) j} (hs.take (below t.place j)++h::hs.drop (below t.place j)):=by
 have hr:=Ri.of G.ri;obtain⟨b1,b2⟩:=jJ hr j;have hb:below t.place j<=hs.length:=by rw[<-G.len];exact b1
 refine⟨by unfold aW.put;dsimp only;rw[G.dum,rF];simp,hb,?_⟩;have ins:(insertAt t.place (below t.place j) j).toList=t.place.toList.take (below t.place j)++j::t.place.toList.drop (below t.place j):=aW.toList_insertAt ..;have mem:∀{x},x∈(insertAt t.place (below t.place j) j).toList↔x=j\/x∈t.place.toList:=by
  intro x;rw[ins,List.mem_append,aG];constructor
  ·rintro(h|h|h)
   ·exact .inr (List.mem_of_mem_take h)
   ·exact .inl h
   ·exact .inr (List.mem_of_mem_drop h)
  ·rintro(h|h)
   ·exact .inr (.inl h)
   ·rw[<-eN (below t.place j) t.place.toList,List.mem_append]at h;rcases h with h|h
    ·exact .inl h
    ·exact .inr (.inr h)
 have jle:j<=t.mask:=by obtain⟨n,e,_⟩:=hR;rw[<-e];exact lJ ..
 refine⟨G.ma,G.dum,?_,?_,?_,?_⟩
 ·show (insertAt t.place (below t.place j) j).size=_;rw[<-bU,ins];simp only[List.length_append,bZ,dZ,List.length_drop,bU,G.len]
 ·show (insertAt t.place (below t.place j) j).toList.Pairwise (· < ·);rw[ins];have pw:=G.ri;rw[<-eN (below t.place j) t.place.toList,List.pairwise_append]at pw;have lo:∀x∈t.place.toList.take (below t.place j),x<j:=by
   intro x hx;obtain⟨i,hi⟩:=List.mem_iff_getElem?.mp hx;have il:i<below t.place j:=Nat.lt_of_not_le λq=>by rw[List.getElem?_take,if_neg (by lia)]at hi;cases hi
   rw[List.getElem?_take_of_lt il,Array.getElem?_toList]at hi;exact(b2 i x hi).mp il
  have hi:∀x∈t.place.toList.drop (below t.place j),j<x:=by
   intro x hx;obtain⟨i,hi⟩:=List.mem_iff_getElem?.mp hx;rw[List.getElem?_drop,Array.getElem?_toList]at hi;have:=(b2 _ x hi)
   have ne:x≠j:=λe=>hj (by rw[<-e,<-Array.getElem?_toList]at *;exact List.mem_of_getElem? hi)
   lia
  refine List.pairwise_append.mpr ⟨pw.1,List.pairwise_cons.mpr ⟨hi,pw.2.1⟩,λa ha b hb=>?_⟩;rcases aG.mp hb with rfl|hb
  ·exact lo a ha
  ·exact Nat.lt_trans (lo a ha) (hi b hb)
 ·intro x hx;rcases mem.mp hx with rfl|hx
  ·exact jle
  ·exact G.le x hx
 ·rintro⟨x,g⟩ hx;have up:∀y,y∈t.place.toList->y∈(insertAt t.place (below t.place j) j).toList:=λy hy=>mem.mpr (.inr hy)
  change (x,g)∈(insertAt t.place (below t.place j) j).toList.zip _ at hx;rw[ins,List.zip_append (by simp only[dZ,bU,G.len]),List.zip_cons_cons,List.mem_append,aG]at hx;have old:(x,g)∈t.place.toList.zip hs->Reach t.mask (·∈(insertAt t.place (below t.place j) j).toList) g x:=λq=>(G.re _ q).mono up
  have hz:t.place.toList.zip hs=(t.place.toList.take (below t.place j)).zip (hs.take (below t.place j))++(t.place.toList.drop (below t.place j)).zip (hs.drop (below t.place j)):=by
   rw[<-List.zip_append (by simp only[dZ,bU,G.len]),eN,eN]
  rcases hx with hx|hx|hx
  ·exact old (by rw[hz];exact List.mem_append_left _ hx)
  ·cases hx;exact hR.mono up
  ·exact old (by rw[hz];exact cc _ hx)
end
theorem tD{α β:Type}{f:α->Option β}:∀{l:List α},(∀x∈l,(f x).isSome=true)->∀i:Nat,(l.filterMap f)[i]? = (l[i]?).bind f
 | [],_,i=>by simp
 |a::l,h,i=>by
  obtain⟨b,hb⟩:=Option.isSome_iff_exists.mp (h a aO);rw[List.filterMap_cons_some hb];cases i with
  |zero=>simp[hb]
  |succ i=>rw[List.getElem?_cons_succ,List.getElem?_cons_succ];exact tD (λx hx=>h x (aK _ hx)) i
noncomputable def Fa(ow:Array (Option Nat))(j:Nat):Prop:=(ow.getD j (some 0)).isNone=true
theorem kE{ow:Array (Option Nat)}{j:Nat}:Fa ow j↔ow[j]? = some none:=by
 unfold Fa;rw[Array.getD_eq_getD_getElem?];cases h:ow[j]? with
 |none=>simp
 |some x=>cases x<;>simp
theorem sH{mask:Nat}{h:Int}{ow:Array (Option Nat)}:∀(k fuel n:Nat) (x:Nat×Nat),k<fuel->x.1<=mask->pr mask h n=RS mask x->Fa ow (lp mask k x).1 ->
  ∃m,n<=m/\layClean.free mask ow fuel x.1 x.2=some (pr mask h m).j/\Fa ow (pr mask h m).j/\∀l,n<=l->l<m->¬ Fa ow (pr mask h l).j
 |_,0,_,_,hk,_,_,_=>by lia
 |k,fuel+1,n,x,hk,hx,hn,hf=>by
  have run:=kj mask (runEnd mask x.1-x.1) (RS mask x) rfl rfl;have rl:=iF hx;have at_:∀c,c<=runEnd mask x.1-x.1->(pr mask h (n+c)).j=x.1+c:=λc hc=>by rw[jM,hn];exact run.2 c hc
  have nxt:pr mask h (n+(runEnd mask x.1-x.1+1))=RS mask (leap mask x.1 x.2):=by rw[jM,hn];exact run.1
  rw[layClean.free];cases q:(a_ (runEnd mask x.1+1-x.1)).find? λk=>(ow.getD (x.1+k) (some 0)).isNone with
  |some c=>
   obtain⟨h1,h2,h3⟩:=List.find?_range_eq_some.mp q;have hc:c<=runEnd mask x.1-x.1:=by have:=List.mem_range.mp h2;lia
   refine⟨n+c,by lia,by rw[at_ c hc],by rw[at_ c hc];exact h1,λl a b=>?_⟩;have:=h3 (l-n) (by lia);rw[show l=n+(l-n)by lia,at_ (l-n) (by lia)];exact λg=>by rw[show (ow.getD (x.1+(l-n)) (some 0)).isNone=true from g]at this;cases this
  |none=>
   have h3:=List.find?_range_eq_none.mp q;have no:∀c,c<=runEnd mask x.1-x.1->¬ Fa ow (x.1+c):=λc hc=>by
    have:=h3 c (by lia);exact λg=>by rw[show (ow.getD (x.1+c) (some 0)).isNone=true from g]at this;cases this
   dsimp only;cases k with
   |zero=>exact absurd hf (no 0 (by lia))
   |succ k=>
    obtain⟨m,a,b,c,d⟩:=sH k fuel _ (leap mask x.1 x.2) (by lia) (gZ ..) nxt hf;refine⟨m,by lia,b,c,λl l1 l2=>?_⟩;by_cases e:l<n+(runEnd mask x.1-x.1+1)
    ·rw[show l=n+(l-n)by lia,at_ (l-n) (by lia)];exact no _ (by lia)
    ·exact d l (by lia) l2
structure Lay(mask:Nat)(hs:List Int)(ow:Array (Option Nat))(k:Nat):Prop where
 sz:ow.size=mask+1
 lo:∀(j i:Nat),ow[j]? = some (some i)->i<k
 one:∀(j j' i:Nat),ow[j]? = some (some i)->ow[j']? = some (some i)->j=j'
 all:∀i h,i<k->hs[i]? = some h->∃j:Nat,ow[j]? = some (some i)/\Reach mask (λj=>∃i,ow[j]? = some (some i)) h j
theorem Bu{mask:Nat}(hM:Mk mask){hs:List Int}{ow:Array (Option Nat)}{k:Nat}(L:Lay mask hs ow k)(hk:k<=mask):∃j,j<=mask/\Fa ow j:=by
 refine Classical.byContradiction λg=>?_
 have:∀j,j<mask+1->∃i,ow[j]? = some (some i):=λj hj=>by
  cases q:ow[j]? with
  |none=>have:=Array.getElem?_eq_none_iff.mp q;have:=L.sz;lia
  |some x=>
   cases x with
   |none=>exact absurd ⟨j,by lia,kE.mpr q⟩ g
   |some i=>exact⟨i,rfl⟩
 -- more places than things
 have len:=long k ((a_ k)) λj hj=>List.mem_range.mpr hj
 have inj:∀n,n<=mask+1->∃l:List Nat,l.Nodup/\l.length=n/\∀i∈l,∃j,j<n/\ow[j]? = some (some i):=by
  intro n
  induction n with
  |zero=>exact λ_=>⟨[],List.nodup_nil,rfl,by simp⟩
  |succ n ih=>
   intro hn;obtain⟨l,a,b,c⟩:=ih (by lia);obtain⟨i,hi⟩:=this n (by lia);refine⟨i::l,List.nodup_cons.mpr ⟨λhm=>?_,a⟩,by simp[b],λx hx=>?_⟩
   ·obtain⟨j,h1,h2⟩:=c i hm;have:=L.one _ _ _ hi h2;lia
   ·rcases aG.mp hx with rfl|hx
    ·exact⟨n,by lia,hi⟩
    ·obtain⟨j,h1,h2⟩:=c x hx;exact⟨j,by lia,h2⟩
 obtain⟨l,a,b,c⟩:=inj (mask+1) (aE _);have sub:∀i∈l,i<k:=λi hi=>by obtain⟨j,_,h2⟩:=c i hi;exact L.lo _ _ h2
 have:l.length<=(a_ k).length:=by
  have:∀(l r:List Nat),l.Nodup->(∀i∈l,i∈r)->l.length<=r.length:=by
   intro l
   induction l with
   |nil=>intro r _ _;exact bu _
   |cons a l ih=>
    intro r hn hs;rw[List.nodup_cons]at hn;have:=ih (r.erase a) hn.2 λi hi=>(List.mem_erase_of_ne (a:=i) (b:=a) (λe=>hn.1 (by rw[<-e];exact hi))).mpr (hs i (aK _ hi))
    have b:=List.length_erase_of_mem (hs a aO);have c:=List.length_pos_of_mem (hs a aO);simp only[bZ];lia
  exact this _ _ a λi hi=>List.mem_range.mpr (sub i hi)
 rw[List.length_range]at this;lia
theorem xG{mask:Nat}(hM:Mk mask){hs:List Int}{ow:Array (Option Nat)}{k:Nat}(L:Lay mask hs ow k)(hk:k<=mask){h:Int}(hh:hs[k]? = some h) :
  ∃j,layClean.free mask ow (turns mask) (bits h%(mask+1)) (bits h)=some j/\Lay mask hs (ow.setIfInBounds j (some k)) (k+1):=by
 obtain⟨j0,h1,h2⟩:=Bu hM L hk;have o:=gN mask h 0;have hx:bits h%(mask+1)<=mask:=Nat.le_of_lt_succ (Nat.mod_lt _ (Nat.succ_pos _));obtain⟨c,h3,h4⟩:=nD hM (x:=(bits h%(mask+1),bits h)) o.pt hx h1;obtain⟨m,_,a,b,d⟩:=sH (h:=h) (ow:=ow) c (turns mask) 0 (bits h%(mask+1),bits h) (by unfold turns;lia) hx rfl (by rw[h4];exact h2);have jl:(pr mask h m).j<=mask:=lJ ..;have hf:=kE.mp b;have old:∀{x i:Nat},ow[x]? = some (some i)->(ow.setIfInBounds (pr mask h m).j (some k))[x]? = some (some i):=λ{x i} e=>by
  rw[Array.getElem?_setIfInBounds,if_neg];· exact e
  ·intro q;rw[q,e]at hf;cases hf
 have new:(ow.setIfInBounds (pr mask h m).j (some k))[(pr mask h m).j]? = some (some k):=by
  rw[Array.getElem?_setIfInBounds,if_pos rfl,if_pos (by rw[L.sz];lia)]
 have inv:∀{x i:Nat},(ow.setIfInBounds (pr mask h m).j (some k))[x]? = some (some i)->(x=(pr mask h m).j/\i=k)\/ow[x]? = some (some i):=λ{x i} e=>by
  rw[Array.getElem?_setIfInBounds]at e;split at e
  ·rename_i q
   rw[if_pos (by rw[L.sz];lia)]at e;cases e;exact .inl ⟨q.symm,rfl⟩
  ·exact .inr e
 refine⟨_,a,⟨by rw[Array.size_setIfInBounds];exact L.sz,λx i e=>?_,λx y i e e'=>?_,λi g hi hg=>?_⟩⟩
 ·rcases inv e with ⟨_,rfl⟩|e
  ·lia
  ·have:=L.lo _ _ e;lia
 ·rcases inv e with ⟨e1,e0⟩|e1<;>rcases inv e' with ⟨e2,e3⟩|e2
  ·rw[e1,e2]
  ·have:=L.lo _ _ e2;lia
  ·have:=L.lo _ _ e1;lia
  ·exact L.one _ _ _ e1 e2
 ·by_cases hik:i=k
  ·subst hik;rw[hh]at hg;cases hg;refine⟨_,new,m,rfl,λl hl=>?_⟩;have nf:=d l (bu _) hl;cases q:ow[(pr mask h l).j]? with
   |none=>have:=Array.getElem?_eq_none_iff.mp q;have:=L.sz;have:=lJ mask h l;lia
   |some y=>
    cases y with
    |none=>exact absurd (kE.mpr q) nf
    |some i=>exact⟨i,old q⟩
  ·obtain⟨j,e,r⟩:=L.all i g (by lia) hg;exact⟨j,old e,r.mono λj ⟨i,e⟩=>⟨i,old e⟩⟩
noncomputable def lP(mask:Nat):Option (Array (Option Nat)×Nat)->Int->Option (Array (Option Nat)×Nat):=λacc h=>do
  let (owner,k) <-acc
  let j <-layClean.free mask owner (turns mask) (bits h%(mask+1)) (bits h)
  pure (owner.setIfInBounds j (some k),k+1)
theorem mJ{mask:Nat}(hM:Mk mask):∀(ls dn:List Int) (ow:Array (Option Nat)),(dn++ls).length<=mask+1->Lay mask (dn++ls) ow dn.length ->
  ∃ow',ls.foldl (lP mask) (some (ow,dn.length))=some (ow',(dn++ls).length)/\Lay mask (dn++ls) ow' (dn++ls).length
 | [],dn,ow,hl,L=>⟨ow,by simp,by simpa using L⟩
 |h::ls,dn,ow,hl,L=>by
  have hl':=hl;simp only[List.length_append,bZ]at hl';obtain⟨j,e,L'⟩:=xG hM L (by lia) (h:=h) (by simp);have e1:dn++h::ls=dn++[h]++ls:=by simp
  have:=mJ hM ls (dn++[h]) (ow.setIfInBounds j (some dn.length)) (by rw[<-e1];exact hl) (by rw[<-e1];simpa using L');obtain⟨ow',a,b⟩:=this;refine⟨ow',?_,by rw[e1];exact b⟩;rw[List.foldl_cons,e1,<-a]
  congr 1
  simp only[lP,e,aH,Option.bind_some];simp
theorem xD{mask:Nat}(hM:Mk mask)(hs:List Int)(hl:hs.length<=mask+1):∃ow,layClean mask hs.toArray=some ow/\Lay mask hs ow hs.length:=by
 have L0:Lay mask ([]++hs) (Array.replicate (mask+1) none) ([]:List Int).length:=by
  have no:∀(x i:Nat),(Array.replicate (mask+1) (none:Option Nat))[x]?≠some (some i):=λx i e=>by
   rw[Array.getElem?_replicate]at e;split at e<;>cases e
  exact⟨by simp,λj i e=>absurd e (no j i),λj _ i e=>absurd e (no j i),λi g hi=>by simp at hi⟩
 obtain⟨ow,a,b⟩:=mJ hM hs [] _ (by simpa using hl) L0;refine⟨ow,?_,by simpa using b⟩;show (Array.foldl (lP mask) (some (Array.replicate (mask+1) none,0)) hs.toArray).map (·.1)=some ow;rw[<-Array.foldl_toList];rw[show hs.toArray.toList=hs from rfl];rw[show (some (Array.replicate (mask+1) (none:Option Nat),0))=some (Array.replicate (mask+1) none,([]:List Int).length)from rfl,a]
 rfl
theorem mB(ow:Array (Option Nat)):∀l:List Nat,(l.filterMap λj=>(ow.getD j none).map (j,·)).map (·.1)=l.filter λj=>(ow.getD j none).isSome
 | []=>rfl
 |j::l=>by
  cases q:ow.getD j none with
  |none=>rw[List.filterMap_cons_none (by rw[q];rfl),List.filter_cons_of_neg (by rw[q];simp)];exact mB ow l
  |some i=>rw[List.filterMap_cons_some (by rw[q];rfl),List.filter_cons_of_pos (by rw[q];simp),aM,mB ow l]
theorem Bk{ow:Array (Option Nat)}{mask:Nat}(hz:ow.size=mask+1){j i:Nat}:(j,i)∈((a_ (mask+1)).filterMap λj=>(ow.getD j none).map (j,·))↔ow[j]? = some (some i):=by
 rw[List.mem_filterMap];constructor
 ·rintro⟨x,_,e⟩;rw[br]at e;obtain⟨y,e1,e2⟩:=e;cases e2;rw[Array.getD_eq_getD_getElem?]at e1;cases q:ow[j]? with
  |none=>rw[q]at e1;cases e1
  |some z=>rw[q]at e1;rw[show z=some i from e1]
 ·intro e;have:=(Array.getElem?_eq_some_iff.mp e).1;exact⟨j,List.mem_range.mpr (by lia),by rw[Array.getD_eq_getD_getElem?,e];rfl⟩
theorem relaid{mask:Nat}(hM:Mk mask)(hs:List Int)(hl:hs.length<=mask+1)(fi mo:Nat)(le pl:Bool) :
  ∃t' order,laid mask fi mo le pl hs.toArray=some (t',order)/\order.toList.Perm (a_ hs.length)/\Good t' (order.toList.filterMap (hs[·]?))/\t'.mask=mask/\t'.led=le/\t'.plain=pl/\t'.moves=mo:=by
 obtain⟨ow,a,L⟩:=xD hM hs hl;generalize hv:((a_ (mask+1)).filterMap λj=>(ow.getD j none).map (j,·))=live;have mem:∀{j i:Nat},(j,i)∈live↔ow[j]? = some (some i):=λ{j i}=>by rw[<-hv];exact Bk L.sz
 have fst:live.map (·.1)=(a_ (mask+1)).filter λj=>(ow.getD j none).isSome:=by rw[<-hv];exact mB ow _
 have ri:(live.map (·.1)).Pairwise (· < ·):=by rw[fst];exact List.pairwise_lt_range.filter _
 have nd:(live.map (·.2)).Nodup:=by
  have:live.Pairwise λx y=>x.1<y.1:=List.pairwise_map.mp ri
  unfold List.Nodup;rw[List.pairwise_map];refine(List.Pairwise.and_mem.mp this).imp λ{x y} ⟨hx,hy,hlt⟩ e=>?_
  have e1:=mem.mp (show (x.1,x.2)∈live from hx);have e2:=mem.mp (show (y.1,y.2)∈live from hy);rw[<-e]at e2;have:=L.one _ _ _ e1 e2;lia
 have pm:(live.map (·.2)).Perm (a_ hs.length):=by
  refine(List.perm_ext_iff_of_nodup nd List.nodup_range).mpr λi=>?_
  rw[a8,List.mem_range];constructor
  ·rintro⟨⟨j,x⟩,h1,rfl⟩;exact L.lo _ _ (mem.mp h1)
  ·intro hi;obtain⟨j,e,_⟩:=L.all i (hs[i]) hi (List.getElem?_eq_getElem hi);exact⟨(j,i),mem.mpr e,rfl⟩
 refine⟨{mask,place:=(live.map (·.1)).toArray,dummies:=#[],finger:=fi,led:=le,moves:=mo,plain:=pl},(live.map (·.2)).toArray,?_,?_⟩
 ·unfold laid;rw[a];simp only[aH,Option.bind_some];rw[hv];rfl
 ·refine⟨pm,?_,rfl,rfl,rfl,rfl⟩;have okk:∀x∈live.map (·.2),(hs[x]?).isSome=true:=λx hx=>by
   have:=List.mem_range.mp (pm.mem_iff.mp hx);rw[List.getElem?_eq_getElem this];rfl
  have ln:((live.map (·.2)).filterMap (hs[·]?)).length=live.length:=by
   have:((live.map (·.2)).filterMap (hs[·]?)).Perm hs:=by
    refine(pm.filterMap _).trans ?_;rw[List.filterMap_getElem?_range_length]
   have p2:=pm.length_eq;rw[this.length_eq];simp at p2;lia
  refine⟨hM,rfl,?_,ri,λj hj=>?_,?_⟩
  ·show (live.map (·.1)).toArray.size=((live.map (·.2)).filterMap (hs[·]?)).length;rw[ln];simp
  ·rw[show (live.map (·.1)).toArray.toList=live.map (·.1)from rfl,fst,List.mem_filter,List.mem_range]at hj;exact Nat.le_of_lt_succ hj.1
  ·rintro⟨j,g⟩ hx;obtain⟨i,hi⟩:=List.mem_iff_getElem?.mp hx;have hz:=List.getElem?_zip_eq_some.mp hi;have h1:=hz.1;have h2:=hz.2;rw[show (live.map (·.1)).toArray.toList=live.map (·.1)from rfl,List.getElem?_map]at h1;rw[show (live.map (·.2)).toArray.toList=live.map (·.2)from rfl,tD okk,List.getElem?_map]at h2;cases q:live[i]? with
   |none=>rw[q]at h1;cases h1
   |some y=>
    rw[q]at h1 h2;cases h1;obtain⟨j',e,r⟩:=L.all y.2 g (by have:=okk y.2 (a8.mpr ⟨y,List.mem_of_getElem? q,rfl⟩);rw[Option.isSome_iff_exists]at this;obtain⟨_,this⟩:=this;exact(List.getElem?_eq_some_iff.mp this).1) h2;have e2:=mem.mp (show (y.1,y.2)∈live from List.mem_of_getElem? q);have:=L.one _ _ _ e e2;subst this;exact r.mono λj ⟨i,e⟩=>by
     rw[show (live.map (·.1)).toArray.toList=live.map (·.1)from rfl];exact a8.mpr ⟨(j,i),mem.mpr e,rfl⟩
end ST
namespace ST
open PySem PySem.Spec PySem.SetTable
section
variable{K:Type} [DecidableEq K]
noncomputable def ent(hash:K->Int)(x:K×ae):Int×Value:=(hash x.1,x.2)
noncomputable def eA(es:List (Int×ae))(ep:Nat)(t:aW):Obj:={cls:=.type "set",dict:=none,data:=.set es.toArray ep t,slots:=#[]}
structure Tb(w:aw)(hash:K->Int)(xs:List (K×ae))(t:aW):Prop where
 good:Good t (xs.map λx=>hash x.1)
 few:xs.length * 5<t.mask * 3
 led:t.led = !w.params.followText "set-order"
 plain:t.plain=true
 nd:(xs.map (·.1)).Nodup
noncomputable def fH(w:aw)(hash:K->Int)(xs:List (K×ae))(o:Obj):Prop:=∃ep t,o=eA (xs.map (ent hash)) ep t/\Tb w hash xs t
variable{w:aw}{hash:K->Int}{xs:List (K×ae)}{t:aW}
theorem Tb.fits(T:Tb w hash xs t):t.fits (xs.map (ent hash)).toArray.size=true:=by
 have:=T.good.fits (by rw[aQ];have:=T.few;rcases T.good.ma with h|h|h<;>rw[h]at this ⊢ <;> lia)
 simpa using this
theorem Tb.nil(fi mo:Nat):Tb w hash [] (.fresh fi mo (!w.params.followText "set-order")):=by
 refine⟨⟨.inl rfl,rfl,rfl,.nil,(λj h=>absurd h (by simp[aW.fresh])),(λjh h=>absurd h (by simp[aW.fresh]))⟩,by show 0 * 5<7 * 3;lia,rfl,rfl,.nil⟩
theorem yP(hash:K->Int)(es:List (K×ae))(p:Nat)(x:K×ae):insertAt (es.map (ent hash)).toArray p (hash x.1,x.2)=((es.take p++x::es.drop p).map (ent hash)).toArray:=by
 apply Array.toList_inj.mp;rw[aW.toList_insertAt];simp[ent]
theorem Tb.put(T:Tb w hash xs t){k:K}{v:ae}{j:Nat}(hj:j∉t.place.toList)(hR:Reach t.mask (·∈t.place.toList) (hash k) j)(hk:k∉xs.map (·.1)) :
  ∃p,t.put j=({t with place:=insertAt t.place p j},p)/\Good {t with place:=insertAt t.place p j} ((xs.take p++(k,v)::xs.drop p).map λx=>hash x.1) /\
   (xs.take p++(k,v)::xs.drop p).Perm (xs++[(k,v)])/\((xs.take p++(k,v)::xs.drop p).map (·.1)).Nodup:=by
 obtain⟨a,b,c⟩:=T.good.put hj hR;have pm:(xs.take (below t.place j)++(k,v)::xs.drop (below t.place j)).Perm (xs++[(k,v)]):=by
  refine List.perm_middle.trans ?_;rw[eN];exact(List.perm_append_singleton _ _).symm
 refine⟨below t.place j,a,?_,pm,?_⟩
 ·simpa[List.map_append,List.map_take,List.map_drop]using c
 ·refine((pm.map (·.1)).nodup_iff).mpr ?_;rw[List.map_append,List.nodup_append];exact⟨T.nd,by simp,λa ha b hb=>by simp at hb;subst hb;exact λe=>hk (e▸ha)⟩
theorem xI{n:Nat}(hn:n+1<64)(hm:Mk t.mask)(hd:t.dummies = #[])(hl:t.place.size=n+1)(hf:n * 5<t.mask * 3) :
  (t.tooFull=false/\(n+1) * 5<t.mask * 3)\/(t.tooFull=true/\∃m,Mk m/\sizeAbove (grown (n+1))-1=m/\sizeAbove (grown (n+1))<=128/\n+1<=m+1/\(n+1) * 5<m * 3):=by
 have e:t.tooFull=decide ((n+1) * 5 >= t.mask * 3):=by unfold tooFull fill;rw[hd,hl];rfl
 rw[e];by_cases q:(n+1) * 5 >= t.mask * 3
 ·refine .inr ⟨by simpa using q,?_⟩;rcases hm with h|h|h<;>rw[h]at q hf
  ·obtain rfl:n=4:=by lia
   exact⟨31,.inr (.inl rfl),by decide,by decide,by lia,by lia⟩
  ·obtain rfl:n=18:=by lia
   exact⟨127,.inr (.inr rfl),by decide,by decide,by lia,by lia⟩
  ·lia
 ·exact .inl ⟨by simpa using q,by lia⟩
theorem Em{t:aW}{ys:List (K×ae)}{n m:Nat}(hM:Mk m)(hs:sizeAbove (grown (n+1))-1=m)(hl:n+1<=m+1)(hq:(n+1) * 5<m * 3)(hn:ys.length=n+1)(led:t.led = !w.params.followText "set-order")(plain:t.plain=true)(nd:(ys.map (·.1)).Nodup) :
  ∃t' order zs,t.relaid ((ys.map (ent hash)).toArray.map (·.1)) (grown (n+1))=some (t',order)/\order.filterMap ((ys.map (ent hash)).toArray[·]?)=(zs.map (ent hash)).toArray/\order.toList.Perm (a_ (n+1))/\zs.Perm ys/\Tb w hash zs t':=by
 have e0:(ys.map (ent hash)).toArray.map (·.1)=(ys.map λx=>hash x.1).toArray:=by
  apply Array.toList_inj.mp;simp[ent,Function.comp_def]
 obtain⟨t',order,h1,h2,h3,h4,h5,h6,h7⟩:=relaid hM (ys.map λx=>hash x.1) (by rw[aQ,hn];exact hl) t.finger (t.movedTo m) t.led t.plain;rw[aQ,hn]at h2;have pz:(order.toList.filterMap (ys[·]?)).Perm ys:=by
  refine(h2.filterMap _).trans ?_;rw[<-hn,List.filterMap_getElem?_range_length]
 refine⟨t',order,order.toList.filterMap (ys[·]?),?_,?_,h2,pz,⟨?_,?_,h5.trans led,h6.trans plain,?_⟩⟩
 ·unfold aW.relaid;rw[hs,e0];exact h1
 ·apply Array.toList_inj.mp;rw[Array.toList_filterMap,List.map_filterMap];refine congrArg (λf=>List.filterMap f order.toList) (funext λi=>?_);simp
 ·rw[List.map_filterMap];refine(congrArg (Good t') (congrArg (λf=>List.filterMap f order.toList) (funext λi=>?_))).mp h3;simp
 ·rw[pz.length_eq,hn,h4];exact hq
 ·exact((pz.map (·.1)).nodup_iff).mpr nd
end
section
variable{prog:aB}{w:aw}{A:aC}{E:ae->af->Prop}{s:af}{K:Type} [DecidableEq K]{hash:K->Int}
theorem store{a:Addr}{es:List (Int×ae)}{ep:Nat}{t t':aW}{es':Array (Int×ae)}{Q:Unit->af->Prop}(ho:s.heap.get? a=some (eA es ep t))(hz:es'.size<=aL)
  (h:∀h',Heap.SameBut a s.heap h'->h'.get? a=some (eA es'.toList (ep+1) t')->Q () {s with heap:=h'}):ah (ak prog w) A (storeSet a es' t') Q E s:=by
 refine wpAny_storeSet_of ho rfl (h _ (Heap.SameBut.update _ _ _) ?_) hz;have:=Heap.get?_update_self (Obj.putSet es' t') ho (by rw[putSet_of es' t' rfl];rfl);rw[putSet_of es' t' rfl]at this;rw[this];simp[eA]
theorem stored{a:Addr}{xs:List (K×ae)}{ep:Nat}{t:aW}{k:K}{v:ae}{j:Nat}(ho:s.heap.get? a=some (eA (xs.map (ent hash)) ep t))(T:Tb w hash xs t)(hj:j∉t.place.toList)(hR:Reach t.mask (·∈t.place.toList) (hash k) j)(hk:k∉xs.map (·.1))(hn:xs.length+1<64)
  {Q:Bool->af->Prop} (h:∀h' ys,Heap.SameBut a s.heap h'->(∃o,h'.get? a=some o/\fH w hash ys o)->ys.Perm (xs++[(k,v)])->Q true {s with heap:=h'}) :
  ∃p,t.put j=({t with place:=insertAt t.place p j},p)/\ah (ak prog w) A (do
   storeSet a (insertAt (xs.map (ent hash)).toArray p (hash k,v)) {t with place:=insertAt t.place p j}
   if !false&&({t with place:=insertAt t.place p j}:aW).tooFull then setRelay a (aW.grown ((xs.map (ent hash)).toArray.size+1))
   return true) Q E s:=by
 obtain⟨p,e1,g,pm,nd⟩:=T.put (v:=v) hj hR hk;refine⟨p,e1,?_⟩;have e2:insertAt (xs.map (ent hash)).toArray p (hash k,v)=((xs.take p++(k,v)::xs.drop p).map (ent hash)).toArray:=yP hash xs p (k,v);rw[e2];generalize hy:xs.take p++(k,v)::xs.drop p=ys at *;have hl:ys.length=xs.length+1:=by rw[pm.length_eq];simp
 have zl:ys.length<=sizeLine:=by rw[hl,bA];lia
 have len:=g.len;rw[aQ,hl]at len;refine ag (store ho (by simpa using zl) λh1 sb1 o1=>?_);rcases xI (t:={t with place:=insertAt t.place p j}) hn T.good.ma T.good.dum len T.few with ⟨f,few⟩|⟨f,m,hM,hs,hsl,hl',hq⟩
 ·rw[f];simp only[Bool.not_false,Bool.and_false,aR,if_false];refine aq (h h1 ys sb1 ⟨_,o1,ep+1,_,rfl,⟨g,by rw[hl];exact few,T.led,T.plain,nd⟩⟩ pm)
 ·rw[f];simp only[Bool.not_false,Bool.and_self,if_true];obtain⟨t',order,zs,r1,r2,r3,r4,r5⟩:=Em (w:=w) (hash:=hash) (t:={t with place:=insertAt t.place p j}) hM hs hl' hq hl T.led T.plain nd;refine ag ?_;unfold setRelay;refine ag (wpAny_setState_of o1 rfl ?_ ?_)
  ·show aW.fits _ (ys.map (ent hash)).toArray.size=true;have:=g.fits (by rw[aQ,hl];have:=T.few;show _<=t.mask;rcases T.good.ma with h|h|h<;>rw[h]at this ⊢ <;> lia)
   simpa using this
  dsimp only;rw[show (xs.map (ent hash)).toArray.size+1=xs.length+1 by simp];rw[if_neg (by rw[bA];lia)];rw[r1];refine ag ?_;show ah _ _ (if ((order.filterMap ((ys.map (ent hash)).toArray[·]?)).size != (ys.map (ent hash)).toArray.size)=true then _ else _) _ _ _;rw[r2];have zs_l:zs.length=ys.length:=r4.length_eq;rw[if_neg (by simp[zs_l])];refine aq ?_;refine store (es:=ys.map (ent hash)) (ep:=ep+1) o1 (by simp[zs_l];exact zl) λh2 sb2 o2=>?_
  exact aq (h h2 zs (sb1.trans sb2) ⟨_,o2,ep+1+1,t',rfl,r5⟩ (r4.trans pm))
end
section
variable{prog:aB}{w:aw}{A:aC}{E:ae->af->Prop}{s:af}
noncomputable def lX(prog:aB)(w:aw)(h:Heap)(k:List Int)(v:ae):Prop:=∃r,v=.ref r/\IsTupleKey (intKind prog w) h k r
abbrev tuH(prog:aB)(w:aw):List Int->Int:=tupleKeyHash (intKind prog w)
theorem oN{ks:List Int}{vs:List ae}(h:ItemsAre (intKind prog w) ks vs):∀v∈vs,∃n t,v=.int n t:=by
 induction h with
 |nil=>intro v hv;cases hv
 |cons h1 _ ih=>
  intro v hv;rcases aG.mp hv with rfl|hv
  ·obtain⟨t,e⟩:=ae.isInt_shape h1;exact⟨_,t,e⟩
  ·exact ih v hv
theorem sS{k:List Int}{r:Addr}{Q:Bool->af->Prop}(hk:IsTupleKey (intKind prog w) s.heap k r)(h:Q false s):ah (ak prog w) A (ofAClassStatement 8 (.ref r)) Q E s:=by
 have hT:=hk.typeIs;obtain⟨o,items,n,ho,_,hd,hi⟩:=hk;unfold ofAClassStatement;refine ag (wpAny_typeOf hT ?_);dsimp only;rw[if_pos (by rfl)];refine ag (aq ?_);simp only[bR,aR,if_false];refine ag (wpAny_seqItems ho hd ?_);refine ag ?_;show ah _ _ (forIn items _ _) _ _ s;rw[<-Array.forIn_toList];refine wpAny_forIn_list _ (λrest r s'=>r.1=none/\s'=s/\∀v∈rest,∃n t,v=.int n t) _ ?_ ?_ _ _ ⟨rfl,rfl,oN hi⟩
 ·rintro v rest r s' ⟨hr,rfl,hall⟩;obtain⟨n,t,rfl⟩:=hall v aO;rw[show ofAClassStatement 7 (.int n t)=pure false by unfold ofAClassStatement;rfl];refine ag (aq ?_);simp only[aR,if_false];exact aq ⟨rfl,rfl,λu hu'=>hall u (aK _ hu')⟩
 ·rintro⟨r1,r2⟩ s' ⟨hr,rfl,_⟩;simp only at hr;subst hr;exact aq h
theorem byValue{k:List Int}{r:Addr}{Q:Bool->af->Prop}(hk:IsTupleKey (intKind prog w) s.heap k r)(h:Q true s):ah (ak prog w) A (hashByValue 8 (.ref r)) Q E s:=by
 have hT:=hk.typeIs;obtain⟨o,items,n,ho,_,hd,hi⟩:=hk;unfold hashByValue;refine ag (wpAny_specialOf hT F.slot_tuple_hash.lookup ?_);refine ag (wpAny_seqItems ho hd ?_);refine ag ?_;show ah _ _ (forIn items _ _) _ _ s;rw[<-Array.forIn_toList];refine wpAny_forIn_list _ (λrest r s'=>r.1=none/\s'=s/\∀v∈rest,∃n t,v=.int n t) _ ?_ ?_ _ _ ⟨rfl,rfl,oN hi⟩
 ·rintro v rest r s' ⟨hr,rfl,hall⟩;obtain⟨n,t,rfl⟩:=hall v aO;rw[show hashByValue 7 (.int n t)=pure true by unfold hashByValue;rfl];refine ag (aq ?_);simp only[bR,aR,if_false];exact aq ⟨rfl,rfl,λu hu'=>hall u (aK _ hu')⟩
 ·rintro⟨r1,r2⟩ s' ⟨hr,rfl,_⟩;simp only at hr;subst hr;exact aq h
theorem yC{k:List Int}{r:Addr}(hk:IsTupleKey (intKind prog w) s.heap k r){ys:List ae}(hy:∀y∈ys,∃k r,y=.ref r/\IsTupleKey (intKind prog w) s.heap k r){Q:Bool->af->Prop}(h:Q false s) :
  ah (ak prog w) A (searchCouldBeSeen (.ref r) ys) Q E s:=by
 unfold searchCouldBeSeen;refine ag ?_;refine wpAny_forIn_list _ (λrest r s'=>r.1=none/\s'=s/\∀y∈rest,∃k r,y=.ref r/\IsTupleKey (intKind prog w) s.heap k r) _ ?_ ?_ _ _ ⟨rfl,rfl,hy⟩
 ·rintro v rest r' s' ⟨hr,rfl,hall⟩;obtain⟨k',r2,rfl,hk'⟩:=hall v aO;have hall':∀y∈rest,∃k r,y=.ref r/\IsTupleKey (intKind prog w) s'.heap k r:=λu hu'=>hall u (aK _ hu')
  dsimp only;split
  ·exact aq ⟨rfl,rfl,hall'⟩
  ·refine ag (wpAny_eqIsQuiet_tuple hk ?_);simp only[bR,aR,if_false];refine ag (wpAny_eqIsQuiet_tuple hk' ?_);simp only[bR,aR,if_false];refine ag (sS hk ?_);simp only[bR,aR,if_false];refine ag (sS hk' ?_);simp only[bR,aR,if_false];exact aq ⟨rfl,rfl,hall'⟩
 ·rintro⟨r1,r2⟩ s' ⟨hr,rfl,_⟩;simp only at hr;subst hr;exact aq h
theorem Fp{t:aW}{hs:List Int}(G:Good t hs)(hf:hs.length<=t.mask)(h:Int):∃m,m<10 * turns t.mask/\(pr t.mask h m).j∉t.place.toList/\∀k,k<m->(pr t.mask h k).j∈t.place.toList:=by
 obtain⟨m0,_,b0,c0⟩:=G.free hf h 0;obtain⟨m,_,b,c⟩:=G.go (λ_=>h+1) h (10 * turns t.mask) 0 ⟨m0,bu _,b0,c0⟩;have occ:∀k,k<m->(pr t.mask h k).j∈t.place.toList:=λk hk=>by
  obtain⟨i,hi,_⟩:=b k (bu _) hk;rw[<-Array.getElem?_toList]at hi;exact List.mem_of_getElem? hi
 rcases c with ⟨c,_⟩|⟨i,_,c,_⟩
 ·refine⟨m,?_,c,occ⟩;have:m<=m0:=dA λq=>c0 (occ m0 q)
  lia
 ·lia
end
section
variable{prog:aB}{w:aw}{A:aC}{E:ae->af->Prop}{s:af}
theorem oC{m:Nat}(h:Mk m):(m%2==0)=false:=by rcases h with rfl|rfl|rfl<;>rfl
theorem search{a r:Addr}{xs:List (List Int×ae)}{ep:Nat}{t:aW}{k:List Int}(hu:A.units<cLine)(ho:s.heap.get? a=some (eA (xs.map (ent (tuH prog w))) ep t))(T:Tb w (tuH prog w) xs t)
  (hel:∀x∈xs,lX prog w s.heap x.1 x.2) (hk:IsTupleKey (intKind prog w) s.heap k r) {ms:Nat} (hms:(pr t.mask (tuH prog w k) ms).j∉t.place.toList) (hoc:∀m,m<ms->(pr t.mask (tuH prog w k) m).j∈t.place.toList)
  {Q:SetFound->af->Prop} (h1:k∈xs.map (·.1)->Q (.there none) s) (h2:k∉xs.map (·.1)->Q (.free (pr t.mask (tuH prog w k) ms).j false) s) :
  ∀(d n fuel:Nat) (stand:Option Probe),ms-n<=d->n<=ms->d<fuel->stand.getD (t.probeStart (tuH prog w k))=pr t.mask (tuH prog w k) n ->
   (∀(i:Nat) (x:List Int×ae),xs[i]? = some x->x.1=k->∃n0,n<=n0/\n0<ms/\t.place[i]? = some (pr t.mask (tuH prog w k) n0).j) ->
   ah (ak prog w) A (setSearchFrom a (.ref r) (tuH prog w k) true fuel stand) Q E s:=by
 have hr:=Ri.of T.good.ri;have hf:(xs.map λx=>tuH prog w x.1).length<=t.mask:=by rw[aQ];have:=T.few;rcases T.good.ma with h|h|h<;>rw[h]at this ⊢ <;> lia
 intro d
 induction d with
 |zero=>
  intro n fuel stand hd hn hfu hst h0;obtain⟨fuel,rfl⟩:∃f,fuel=f+1:=⟨fuel-1,by lia⟩
  obtain rfl:n=ms:=by lia
  have abs:k∉xs.map (·.1):=λhm=>by
   obtain⟨x,hx,e⟩:=a8.mp hm;obtain⟨i,hi⟩:=List.mem_iff_getElem?.mp hx;obtain⟨n0,a,b,_⟩:=h0 i x hi e;lia
  unfold setSearchFrom;refine ag (wpAny_setState_of ho rfl T.fits ?_);dsimp only;unfold gaveWay;rw[oC T.good.ma];simp only[aR,if_false];rw[hst];have e:t.probe (λi=>(((xs.map (ent (tuH prog w))).toArray[i]?).map (·.1)).getD 0) (tuH prog w k) (pr t.mask (tuH prog w k) n)=some (.empty (pr t.mask (tuH prog w k) n).j none):=by
   unfold probe;rw[show 10 * turns t.mask=(10 * turns t.mask-1)+1 by unfold turns;lia,probe.go,mZ T.good.dum λi e=>hms (by rw[<-Array.getElem?_toList]at e;exact List.mem_of_getElem? e)];dsimp only;rw[(gN t.mask _ n).dm]
  show ah _ _ (match t.probe (λi=>(((xs.map (ent (tuH prog w))).toArray[i]?).map (·.1)).getD 0) (tuH prog w k) (pr t.mask (tuH prog w k) n)with|some met=>_|x=>_) _ _ _;rw[e];exact aq (h2 abs)
 |succ d ih=>
  intro n fuel stand hd hn hfu hst h0;obtain⟨fuel,rfl⟩:∃f,fuel=f+1:=⟨fuel-1,by lia⟩
  obtain⟨m,hm1,hm2,hm3⟩:=T.good.go (λi=>(((xs.map (ent (tuH prog w))).toArray[i]?).map (·.1)).getD 0) (tuH prog w k) (10 * turns t.mask) n (T.good.free hf _ n);have at_:∀{i:Nat}{j:Nat},t.place[i]? = some j->∃x,xs[i]? = some x/\(((xs.map (ent (tuH prog w))).toArray[i]?).map (·.1)).getD 0=tuH prog w x.1/\(xs.map (ent (tuH prog w))).toArray[i]? = some (tuH prog w x.1,x.2):=λ{i j} e=>by
   have:=(Array.getElem?_eq_some_iff.mp e).1;have ln:=T.good.len;rw[aQ]at ln;have hx:xs[i]? = some xs[i]:=List.getElem?_eq_getElem (by lia);refine⟨xs[i],hx,?_,?_⟩
   ·simp[hx,ent]
   ·simp[hx,ent]
  have uni:∀{i i' j:Nat},t.place[i]? = some j->t.place[i']? = some j->i=i':=λe e'=>(below_at hr e).symm.trans (below_at hr e')
  have pass:∀(i:Nat) (x:List Int×ae) (n0:Nat),xs[i]? = some x->x.1=k->n<=n0->t.place[i]? = some (pr t.mask (tuH prog w k) n0).j->m<=n0:=λi x n0 hi e a b=>dA λq=>by
   obtain⟨i',e1,e2⟩:=hm2 n0 a q;obtain rfl:=uni b e1;obtain⟨y,e3,e4,_⟩:=at_ b;rw[hi]at e3;cases e3;exact e2 (by rw[e4,e])
  have m_le:m<=ms:=dA λq=>by
   obtain⟨i',e1,_⟩:=hm2 ms hn q;rw[<-Array.getElem?_toList]at e1;exact hms (List.mem_of_getElem? e1)
  unfold setSearchFrom;refine ag (wpAny_setState_of ho rfl T.fits ?_);dsimp only;unfold gaveWay;rw[oC T.good.ma];simp only[aR,if_false];rw[hst];show ah _ _ (match t.probe (λi=>(((xs.map (ent (tuH prog w))).toArray[i]?).map (·.1)).getD 0) (tuH prog w k) (pr t.mask (tuH prog w k) n)with|some met=>_|x=>_) _ _ _;rcases hm3 with ⟨c1,c2⟩|⟨i,c1,c2,c3⟩
  ·have:m=ms:=Nat.le_antisymm m_le (dA λq=>c1 (hoc m q));subst this;rw[show t.probe (λi=>(((xs.map (ent (tuH prog w))).toArray[i]?).map (·.1)).getD 0) (tuH prog w k) (pr t.mask (tuH prog w k) n)=_ from c2];refine aq (h2 λhm=>?_);obtain⟨x,hx,e⟩:=a8.mp hm;obtain⟨i,hi⟩:=List.mem_iff_getElem?.mp hx;obtain⟨n0,a,b,c⟩:=h0 i x hi e;have:=pass i x n0 hi e a c;lia
  ·rw[show t.probe (λi=>(((xs.map (ent (tuH prog w))).toArray[i]?).map (·.1)).getD 0) (tuH prog w k) (pr t.mask (tuH prog w k) n)=_ from c3];dsimp only;obtain⟨x,e1,e2,e3⟩:=at_ c1;have hxm:x∈xs:=List.mem_of_getElem? e1;obtain⟨r2,e4,hk2⟩:=hel x hxm;have nxt:ah (ak prog w) A (do
    let some (_,y):=(xs.map (ent (tuH prog w))).toArray[i]? |unsupported "internal:set-entry"
    let equal <-holding [y] (eqBool y (.ref r))
    let (es',_,t') <-setState a
    if true&&equal then return .there none
    let some same:=t'.sameMemory t.moves t.mask|unsupported "set.changed-during-lookup:is-the-new-block-at-the-old-address"
    let still <-match (if same then t'.slot (pr t.mask (tuH prog w k) m).j else .empty)with
     | .live i'=>match es'[i']? with
      |some (_,y')=>do pure (if <-isSame y' y then some i' else none)
      |none=>pure none
     |_=>pure none
    match still with
    |none=>rule "set.search.anew";setSearchFrom a (.ref r) (tuH prog w k) true fuel none
    |some i'=>if equal then return .there (some i')else setSearchFrom a (.ref r) (tuH prog w k) true fuel (some (pr t.mask (tuH prog w k) (m+1)))) Q E s:=by
    rw[e3];dsimp only;rw[e4];refine ag (bS (wpAny_eqBool_tuple hu hk2 hk ?_));refine ag (wpAny_setState_of ho rfl T.fits ?_);dsimp only;by_cases hq:x.1=k
    ·rw[decide_eq_true hq];simp only[Bool.and_self,if_true];exact aq (h1 (a8.mpr ⟨x,hxm,hq⟩))
    ·rw[decide_eq_false hq];simp only[Bool.and_false,aR,if_false];have sm:t.sameMemory t.moves t.mask=some true:=by unfold sameMemory;simp
     rw[sm];dsimp only;simp only[if_true];rw[tW hr c1];dsimp only;rw[e3];dsimp only;rw[e4];refine ag ?_;show ah _ _ (if (r2==r2)=true then _ else _) _ _ _;rw[if_pos (by simp)];refine aq ?_;refine ag (aq ?_);simp only[if_true];have m_lt:m<ms:=Nat.lt_of_le_of_ne m_le λe=>hms (by rw[<-e];rw[<-Array.getElem?_toList]at c1;exact List.mem_of_getElem? c1)
     refine ih (m+1) fuel (some (pr t.mask (tuH prog w k) (m+1))) (by lia) (by lia) (by lia) rfl λi' x' hi' e'=>?_
     obtain⟨n0,a,b,c⟩:=h0 i' x' hi' e';have:=pass i' x' n0 hi' e' a c;refine⟨n0,?_,b,c⟩;rcases Nat.eq_or_lt_of_le this with e|e
     ·subst e;obtain rfl:=uni c1 c;rw[e1]at hi';cases hi';exact absurd e' hq
     ·exact e
   cases hl:t.led with
   |true=>simp only[bR,aR,if_false];exact nxt
   |false=>
    simp only[Bool.not_false,if_true];refine ag (yC hk (λy hy=>?_) ?_)
    ·obtain⟨⟨g,y'⟩,hy1,rfl⟩:=a8.mp hy;simp only[Array.toList_filter,List.mem_filter,a8]at hy1;obtain⟨⟨z,hz,hz'⟩,_⟩:=hy1;obtain⟨r3,e5,hk3⟩:=hel z hz;cases hz';exact⟨_,r3,e5,hk3⟩
    ·simp only[aR,if_false];exact nxt
end
section
variable{prog:aB}{w:aw}{A:aC}{E:ae->af->Prop}{s:af}
theorem EG{K:Type} [DecidableEq K]{hash:K->Int}{xs:List (K×ae)}{t:aW}(T:Tb w hash xs t){i:Nat}{x:K×ae}(hi:xs[i]? = some x){ms:Nat}(hms:(pr t.mask (hash x.1) ms).j∉t.place.toList) :
  ∃n0,n0<ms/\t.place[i]? = some (pr t.mask (hash x.1) n0).j:=by
 have ln:=T.good.len;rw[aQ]at ln;have il:=(List.getElem?_eq_some_iff.mp hi).1;have hp:t.place[i]? = some t.place[i]:=Array.getElem?_eq_getElem (by lia);have hz:(t.place[i],hash x.1)∈t.place.toList.zip (xs.map λx=>hash x.1):=by
  refine List.mem_of_getElem? (i:=i) (List.getElem?_zip_eq_some.mpr ⟨by rw[Array.getElem?_toList];exact hp,by rw[List.getElem?_map,hi];rfl⟩)
 obtain⟨n0,a,b⟩:=T.good.re _ hz;refine⟨n0,?_,by rw[a];exact hp⟩;rcases Nat.lt_trichotomy n0 ms with q|q|q
 ·exact q
 ·subst q;exact absurd (by rw[a];exact Array.mem_toList_iff.mpr (Array.getElem_mem _)) hms
 ·exact absurd (b ms q) hms
theorem Cd{K:Type} [DecidableEq K]{hash:K->Int}{xs:List (K×ae)}{t:aW}(T:Tb w hash xs t):(xs.map λx=>hash x.1).length<=t.mask:=by
 rw[aQ];have:=T.few;rcases T.good.ma with h|h|h<;>rw[h]at this ⊢ <;> lia
noncomputable def More{K:Type} [DecidableEq K](xs:List (K×ae))(k:K)(v:ae):List (K×ae):=if k∈xs.map (·.1)then xs else xs++[(k,v)]
theorem ui{a r:Addr}{xs:List (List Int×ae)}{k:List Int}(hu:A.units<cLine){o:Obj}(ho:s.heap.get? a=some o)(hS:fH w (tuH prog w) xs o)
  (hel:∀x∈xs,lX prog w s.heap x.1 x.2) (hk:IsTupleKey (intKind prog w) s.heap k r) (hn:xs.length+1<64) {Q:Bool->af->Prop}
  (h:∀b h' ys,Heap.SameBut a s.heap h'->(∃o,h'.get? a=some o/\fH w (tuH prog w) ys o)->ys.Perm (More xs k (.ref r))->Q b {s with heap:=h'}) :
  ah (ak prog w) A (setAddHashed a (.ref r) (tuH prog w k)) Q E s:=by
 obtain⟨ep,t,rfl,T⟩:=hS;obtain⟨ms,m1,m2,m3⟩:=Fp T.good (Cd T) (tuH prog w k);unfold setAddHashed;refine bS ?_;unfold setAddHashedIn;refine ag (wpAny_setState_of ho rfl T.fits ?_);dsimp only;rw[show byScan (.ref r) (xs.map (ent (tuH prog w))).toArray=false by simp[byScan,ae.scannable]];simp only[aR,if_false];have e:s={s with heap:=s.heap}:=by cases s;rfl
 refine ag ?_;unfold setSearch;refine search hu ho T hel hk m2 m3 (λhm=>?_) (λhm=>?_) ms 0 100000 none (by lia) (bu _) (by have:=T.good.ma;unfold turns at m1;rcases this with q|q|q<;>rw[q]at m1<;>lia) rfl λi x hi e=>?_
 ·dsimp only;refine aq ?_;have:=h false s.heap xs (Heap.SameBut.refl a s.heap) ⟨_,ho,ep,t,rfl,T⟩ (by rw[More,if_pos hm]);rw[e];exact this
 ·dsimp only;refine ag (wpAny_setState_of ho rfl T.fits ?_);dsimp only;obtain⟨p,e1,st⟩:=stored (Q:=Q) (E:=E) (A:=A) (prog:=prog) (v:=.ref r) ho T m2 ⟨ms,rfl,m3⟩ hm hn λh' ys a b c=>h true h' ys a b (by rw[More,if_neg hm];exact c)
  rw[e1];dsimp only;rw[T.plain];simp only[if_true];refine ag (byValue hk ?_);simp only[if_true];have et:({mask:=t.mask,place:=insertAt t.place p (pr t.mask (tuH prog w k) ms).j,dummies:=t.dummies,finger:=t.finger,led:=t.led,moves:=t.moves,plain:=true}:aW)={t with place:=insertAt t.place p (pr t.mask (tuH prog w k) ms).j}:=by rw[<-T.plain]
  first|exact st|(rw[et];exact st)
 ·subst e;obtain⟨n0,a,b⟩:=EG T hi m2;exact⟨n0,bu _,a,b⟩
end
structure Kd(prog:aB)(w:aw)(K:Type) [DecidableEq K] where
 hash:K->Int
 el:Heap->K->ae->Prop
 grow:∀{h h':Heap}{k:K}{v:ae},el h k v->(∀b o,h.get? b=some o->h'.get? b=some o)->el h' k v
 room:aC->Prop
 pyHash:∀{A:aC}{E:ae->af->Prop}{s:af}{k:K}{v:ae}{Q:Int->af->Prop},room A->el s.heap k v->(∀tk,s.toks<=tk->Q (hash k) {s with toks:=tk})->ah (ak prog w) A (pyHash v) Q E s
 add:∀{A:aC}{E:ae->af->Prop}{s:af}{a:Addr}{xs:List (K×ae)}{k:K}{v:ae}{o:Obj}{Q:Bool->af->Prop},room A->s.heap.get? a=some o->fH w hash xs o ->
  (∀x∈xs,el s.heap x.1 x.2)->el s.heap k v->xs.length+1<64 ->
  (∀b h' ys,Heap.SameBut a s.heap h'->(∃o,h'.get? a=some o/\fH w hash ys o)->ys.Perm (More xs k v)->Q b {s with heap:=h'})->ah (ak prog w) A (setAddHashed a v (hash k)) Q E s
noncomputable def tuK(prog:aB)(w:aw):Kd prog w (List Int) where
 hash:=tuH prog w
 el:=lX prog w
 grow:=λ⟨r,e,o,items,n,ho,x⟩ g=>⟨r,e,o,items,n,g _ _ ho,x⟩
 room:=λA=>A.units<cLine
 pyHash:=λhu ⟨r,e,hk⟩ h=>by subst e;exact wpAny_pyHash_tuple hu hk (h _ (by lia))
 add:=λhu ho hS hel ⟨r,e,hk⟩ hn h=>by subst e;exact ui hu ho hS hel hk hn h
section
variable{prog:aB}{w:aw}{K:Type} [DecidableEq K](D:Kd prog w K)
noncomputable def Holds(h0 h:Heap)(a:Addr)(keys:Nat->K)(i:Nat):Prop:=∃o xs,h.get? a=some o/\fH w D.hash xs o/\(∀x∈xs,D.el h0 x.1 x.2)/\(∀k,k∈xs.map (·.1)↔∃j,j<i/\keys j=k)/\xs.length<=i
variable{D}
variable{A:aC}{R:Result->af->Prop}{I:Addr}{fp wr:List Addr}{G:Array GenState->Array GenState->Prop}{n:Nat}{P:Nat->ae->Prop}{St:Nat->af->Prop}
theorem loop(W:WalksS prog w A.in1 I fp wr G n P St)(hu:D.room A.in1)(S:Addr)(hSf:S∉fp){h0:Heap}(hS0:h0.get? S=none)(hwr:∀b∈wr,h0.get? b=none)
  (keys:Nat->K) (hval:∀i v,P i v->D.el h0 (keys i) v) (hb:n<64) :
  ∀(k i:Nat) (s:af),n-i=k->i<=n->St i s->(∀b o,h0.get? b=some o->s.heap.get? b=some o)->Holds D h0 s.heap S keys i ->
   (∀s',Moved (S::wr) G s s'->Holds D h0 s'.heap S keys n->R (.ok (.ret .none)) s') ->
   codeAny (ak prog w) A (.builtin "set.update.loop" ⟨[.ref S,.ref I],[]⟩) R s:=by
 have hSw:S∉wr:=λh=>hSf (W.sub _ h)
 have hsub:∀b∈wr,b∈S::wr:=λb hb=>aK _ hb
 intro k
 induction k with
 |zero=>
  intro i s hk hi hst hk0 hS hR;have hin:i=n:=by lia
  subst hin;refine dF PyProof.Rows.F.entry_set_update_loop ?_;rw[aC.under_plainId PyProof.Rows.F.plain_set_update_loop _];show ah _ A.in1 (pyNext (.ref I)>>=_) _ _ s;refine ag (W.done s _ _ hst λs' hm=>?_);show ah _ A.in1 (ret bP) _ _ s';obtain⟨o,xs,ho,r⟩:=hS;exact aq (hR s' (hm.mono hsub) ⟨o,xs,hm.heap S _ hSw ho,r⟩)
 |succ k ih=>
  intro i s hk hi hst hk0 hS hR;have hlt:i<n:=by lia
  refine dF PyProof.Rows.F.entry_set_update_loop ?_;rw[aC.under_plainId PyProof.Rows.F.plain_set_update_loop _];show ah _ A.in1 (pyNext (.ref I)>>=_) _ _ s;refine ag (W.item i s _ _ hlt hst λv s' hP hst' hm=>?_);have hel:=hval i v hP;obtain⟨o,xs,ho,r1,r2,r3,r4⟩:=hS;have hk1:∀b o,h0.get? b=some o->s'.heap.get? b=some o:=λb o e=>hm.heap b o (λq=>by rw[hwr b q]at e;cases e) (hk0 b o e)
  have ho':=hm.heap S _ hSw ho;show ah _ A.in1 (holding [v] (setAdd S v)>>=_) _ _ s';refine ag (bS ?_);unfold setAdd;refine bS ?_;refine ag (D.pyHash hu (D.grow hel hk1) λtk htk=>?_);refine D.add (s:={s' with toks:=tk}) hu ho' r1 (λx hx=>D.grow (r2 x hx) hk1) (D.grow hel hk1) (by lia) λb h' ys sb hS2 pm=>?_
  have hk2:∀b o,h0.get? b=some o->h'.get? b=some o:=λb o e=>by
   rw[sb.2 b (λh:b=S=>by rw[h,hS0]at e;cases e)];exact hk1 b o e
  have hS3:Holds D h0 h' S keys (i+1):=by
   obtain⟨o2,ho2,si⟩:=hS2;refine⟨o2,ys,ho2,si,λx hx=>?_,λk'=>?_,?_⟩
   ·have:=pm.mem_iff.mp hx;unfold More at this;split at this
    ·exact r2 x this
    ·rcases List.mem_append.mp this with q|q
     ·exact r2 x q
     ·rw[List.mem_singleton.mp q];exact hel
   ·rw[(pm.map (·.1)).mem_iff];have:(∃j,j<i+1/\keys j=k')↔(∃j,j<i/\keys j=k')\/keys i=k':=by
     constructor
     ·rintro⟨j,a,b⟩;rcases Nat.lt_succ_iff_lt_or_eq.mp a with q|q
      ·exact .inl ⟨j,q,b⟩
      ·subst q;exact .inr b
     ·rintro(⟨j,a,b⟩|b)
      ·exact⟨j,by lia,b⟩
      ·exact⟨i,by lia,b⟩
    rw[this,<-r3 k'];unfold More;split
    ·rename_i q
     exact⟨.inl,λh=>h.elim id λe=>e▸q⟩
    ·rw[List.map_append,List.mem_append];simp only[aM,List.map_nil,List.mem_singleton];exact⟨λh=>h.imp id Eq.symm,λh=>h.imp id Eq.symm⟩
   ·rw[pm.length_eq];unfold More;split
    ·lia
    ·simp;lia
  refine aq ⟨plainId_quiet PyProof.Rows.F.plain_set_update_loop _,ih (i+1) _ (by lia) hlt (W.frame _ s' _ _ hst' htk λb hb o e=>?_) hk2 hS3 λs'' hm'' hS''=>?_⟩
  ·rw[sb.2 b (λh:b=S=>hSf (by rw[<-h];exact hb))];exact e
  ·refine hR s'' (Moved.trans W.gtrans ((hm.mono hsub).then_heap htk λb o hb e=>?_) hm'') hS'';rw[sb.2 b (λh:b=S=>hb (by rw[h];exact aO))];exact e
end
abbrev cq(w:aw):Obj:={cls:=.type "set",dict:=none,data:=.set #[] 0 (.fresh 0 0 (!w.params.followText "set-order"))}
section
variable{prog:aB}{w:aw}{A:aC}{E:ae->af->Prop}{s:af}{K:Type} [DecidableEq K]{D:Kd prog w K}
theorem ou(a:ae){Q₁:ae->af->Prop}(h:Q₁ (.ref s.heap.objs.size) {s with heap:=s.heap.push (cq w)}) :
  codeAny (ak prog w) A (.call (.builtin "set.__new__") ⟨[.type "set",a],[]⟩) (wants Q₁ E) s:=by
 refine codeAny_of_tree ?_;show ah _ A.in1 (do checkBuiltinCall "set.__new__" ⟨[.type "set",a],[]⟩;again (.builtin "set.__new__" ⟨[.type "set",a],[]⟩)) _ _ s;refine ag (wpAny_of_eq (F.newCall_set_1 a) (aq ⟨plainId_quiet F.plain_set_new _,dF F.entry_set_new ?_⟩));rw[aC.under_plainId F.plain_set_new _];unfold Builtin.«set.__new__» Builtin.Frozenset.newClass;have hsub:=sub_set_self;obtain⟨hp,g,d,tk,os⟩:=s;dsimp only
 wp_walk
 refine wpAny_askSetting (aq ?_);dsimp only;simp only[newObj];refine ag (wpAny_alloc (aq ?_));exact aq h
theorem yc:fH w D.hash [] (cq w):=⟨0,_,rfl,Tb.nil 0 0⟩
theorem nJ(hu:D.room A.in1.in1.in1){I:Addr}{fp wr:List Addr}{items:Array ae}{St:Nat->Heap->Prop}(W:Walks prog w A.in1.in1.in1 I fp wr items.size (λi v=>items[i]? = some v) St){h1:Heap}
  (keys:Nat->K) (hval:∀(i:Nat) v,items[i]? = some v->D.el s.heap (keys i) v) (hb:items.size<64) (hst:St 0 h1) (hS:h1.get? s.heap.objs.size=some (cq w)) (hold:∀b o,s.heap.get? b=some o->h1.get? b=some o)
  (hSf:s.heap.objs.size∉fp) (hwr:∀b∈wr,s.heap.objs.size<=b) {R:Result->af->Prop}
  (h:∀(h':Heap) (tk:Nat),Holds D s.heap h' s.heap.objs.size keys items.size->(∀b o,b<s.heap.objs.size->s.heap.get? b=some o->h'.get? b=some o)->R (.ok (.ret .none)) {s with heap:=h',toks:=tk}) :
  codeAny (ak prog w) A.in1.in1 (.builtin "set.update.loop" ⟨[.ref s.heap.objs.size,.ref I],[]⟩) R {s with heap:=h1}:=by
 have out:∀b,s.heap.objs.size<=b->s.heap.get? b=none:=λb hb=>by
  cases q:s.heap.get? b with
  |none=>rfl
  |some o=>exact absurd (aI q) (Nat.not_lt.mpr hb)
 refine loop W.toS hu s.heap.objs.size hSf (h0:=s.heap) (out _ (aE _)) (λb hb=>out b (hwr b hb)) keys hval hb (items.size-0) 0 _ (by lia) (bu _) hst hold ?_ λs' hm hS'=>?_
 ·exact⟨_,[],hS,yc,(λx hx=>absurd hx (bx)),(λk=>by simp),aE _⟩
 ·obtain⟨h',g',d',tk',os'⟩:=s';have eg:g'=s.gens:=hm.gens;have ed:d'=s.drawn:=hm.drawn;have eo:os'=s.os:=hm.os;subst eg;subst ed;subst eo;refine h h' tk' hS' λb o hb e=>hm.heap b o (λq=>?_) (hold b o e)
  rcases aG.mp q with q|q
  ·rw[q]at hb;exact bN _ hb
  ·exact absurd hb (Nat.not_lt.mpr (hwr b q))
theorem sub_list_set:isSubtype (.type "list") (.type "set")=pure false:=by rw[isSubtype_type];kernel_rfl
theorem sub_list_frozenset:isSubtype (.type "list") (.type "frozenset")=pure false:=by rw[isSubtype_type];kernel_rfl
theorem call_set_list{l:Addr}{items:Array ae}{Q:ae->af->Prop}(hh:A.handled=none)(hu:D.room A.in1.in1.in1)(hl:s.heap.IsList l items)(keys:Nat->K)(hval:∀(i:Nat) v,items[i]? = some v->D.el s.heap (keys i) v)(hb:items.size<64)
  (h:∀(h':Heap) (tk:Nat),Holds D s.heap h' s.heap.objs.size keys items.size->(∀b o,b<s.heap.objs.size->s.heap.get? b=some o->h'.get? b=some o)->Q (.ref s.heap.objs.size) {s with heap:=h',toks:=tk}) :
  ah (ak prog w) A (call (.type "set") [.ref l]) Q E s:=by
 obtain⟨c,tl,hmro⟩:=F.called_set.mro;have hmade:=F.called_set.made;have hsub:=F.called_set.sub;refine wpAny_call (codeAny_of_tree ?_);show ah _ _ (callAny (.type "set") _) _ _ _;refine aq ⟨Code.quiet_builtin _ (by decide +kernel),dF F.entry_type_call ?_⟩;rw[aC.under_plain (weight_type_call_type "set" [.ref l] []) rfl];have h1:=F.called_set.notType;have h2:=F.called_set.canCreate;have hct:=F.typeCall_set_1 (.ref l)
 repeat (any_goals (first|assumption|wp_step))
 refine codeAny_mono (ou (.ref l) (E:=E) (Q₁:=λobj s₁=>obj=.ref s.heap.objs.size/\s₁={s with heap:=s.heap.push (cq w)}) ⟨rfl,rfl⟩) λr s₁ hr=>?_
 cases r with
 |error e=>exact hr
 |ok fl=>
  cases fl with
  |ret obj=>
   obtain⟨rfl,rfl⟩:=hr;have hS:(s.heap.push (cq w)).get? s.heap.objs.size=some (cq w):=Heap.get?_push_size _ rfl;have hT:af.TypeIs {s with heap:=s.heap.push (cq w)} (.ref s.heap.objs.size) "set":=⟨_,hS,rfl⟩
   have hli:=F.called_set.init.lookup;have hbi:=F.called_set.init.bind (.ref s.heap.objs.size)
   repeat (any_goals (first|assumption|wp_step))
   refine codeAny_mono (codeAny_call_builtin (R:=wants (λr s₂=>r=.none/\∃h' tk,s₂={s with heap:=h',toks:=tk}/\Holds D s.heap h' s.heap.objs.size keys items.size /\
     (∀b o,b<s.heap.objs.size->s.heap.get? b=some o->h'.get? b=some o)) E) F.called_set.init.plain F.entry_set_init (check_set_init_1 hT ?_)) λr₂ s₂ hr₂=>?_
   ·obtain⟨ol,hol,hcl,nl,hdl⟩:=hl;obtain⟨ocls,odict,odata,oslots⟩:=ol;simp only at hcl hdl;subst hcl;subst hdl;have hol':(s.heap.push (cq w)).get? l=some {cls:=.type "list",dict:=odict,data:=.seq items nl,slots:=oslots}:=Heap.get?_push_of_some _ hol;have hsls:=sub_list_set;have hslf:=sub_list_frozenset;have hne:(bE "list" == bE "dict")=false:=by decide
    have hl1:(s.heap.push (cq w)).IsList l items:=⟨_,hol',rfl,nl,rfl⟩
    unfold Builtin.«set.__init__» noKeywords Builtin.Frozenset.updateFrom;generalize hPI:pyIter=PI
    wp_walk
    subst hPI;refine wpAny_pyIter_list hl1 ?_;refine ag (wpAny_runValue ?_);have hlS:l<s.heap.objs.size:=aI hol;have hh3:A.in1.in1.in1.handled=none:=by simp[hh]
    have hneI:l≠(s.heap.push (cq w)).objs.size:=by
     rw[bC];exact a7 (dz hlS)
    have hSf:s.heap.objs.size∉[(s.heap.push (cq w)).objs.size,l]:=by
     rw[bC];simp only[aG,List.mem_singleton,bx,or_false,not_or];exact⟨a7 (Nat.lt_succ_self _),Nat.ne_of_gt hlS⟩
    refine nJ hu (Walks.list hh3 _ l hneI items) keys hval hb ⟨⟨_,Heap.get?_push_size _ rfl,rfl,rfl⟩,(hl1.push _)⟩ (Heap.get?_push_of_some _ hS) (λb o e=>Heap.get?_push_of_some _ (Heap.get?_push_of_some _ e)) hSf (λb hb=>by rw[List.mem_singleton.mp hb,bC];exact Nat.le_succ _) λh' tk hH hk=>?_
    show ah _ _ _ _ _ _;refine aq ?_;show ah _ _ (ret bP) _ _ _;exact aq ⟨rfl,h',tk,rfl,hH,hk⟩
   ·cases r₂ with
    |error e=>exact hr₂
    |ok fl₂=>
     cases fl₂ with
     |ret r=>
      obtain⟨rfl,h',tk,rfl,hS',hk'⟩:=hr₂
      repeat (any_goals (first|assumption|wp_step))
      exact h _ _ hS' hk'
     |_=>exact hr₂.elim
  |_=>exact hr.elim
theorem sub_tuple_set:isSubtype (.type "tuple") (.type "set")=pure false:=by rw[isSubtype_type];kernel_rfl
theorem sub_tuple_frozenset:isSubtype (.type "tuple") (.type "frozenset")=pure false:=by rw[isSubtype_type];kernel_rfl
theorem BC{l:Addr}{items:Array ae}{Q:ae->af->Prop}(hh:A.handled=none)(hu:D.room A.in1.in1.in1)(hl:s.heap.IsTuple l items)(keys:Nat->K)(hval:∀(i:Nat) v,items[i]? = some v->D.el s.heap (keys i) v)(hb:items.size<64)
  (h:∀(h':Heap) (tk:Nat),Holds D s.heap h' s.heap.objs.size keys items.size->(∀b o,b<s.heap.objs.size->s.heap.get? b=some o->h'.get? b=some o)->Q (.ref s.heap.objs.size) {s with heap:=h',toks:=tk}) :
  ah (ak prog w) A (call (.type "set") [.ref l]) Q E s:=by
 obtain⟨c,tl,hmro⟩:=F.called_set.mro;have hmade:=F.called_set.made;have hsub:=F.called_set.sub;refine wpAny_call (codeAny_of_tree ?_);show ah _ _ (callAny (.type "set") _) _ _ _;refine aq ⟨Code.quiet_builtin _ (by decide +kernel),dF F.entry_type_call ?_⟩;rw[aC.under_plain (weight_type_call_type "set" [.ref l] []) rfl];have h1:=F.called_set.notType;have h2:=F.called_set.canCreate;have hct:=F.typeCall_set_1 (.ref l)
 repeat (any_goals (first|assumption|wp_step))
 refine codeAny_mono (ou (.ref l) (E:=E) (Q₁:=λobj s₁=>obj=.ref s.heap.objs.size/\s₁={s with heap:=s.heap.push (cq w)}) ⟨rfl,rfl⟩) λr s₁ hr=>?_
 cases r with
 |error e=>exact hr
 |ok fl=>
  cases fl with
  |ret obj=>
   obtain⟨rfl,rfl⟩:=hr;have hS:(s.heap.push (cq w)).get? s.heap.objs.size=some (cq w):=Heap.get?_push_size _ rfl;have hT:af.TypeIs {s with heap:=s.heap.push (cq w)} (.ref s.heap.objs.size) "set":=⟨_,hS,rfl⟩
   have hli:=F.called_set.init.lookup;have hbi:=F.called_set.init.bind (.ref s.heap.objs.size)
   repeat (any_goals (first|assumption|wp_step))
   refine codeAny_mono (codeAny_call_builtin (R:=wants (λr s₂=>r=.none/\∃h' tk,s₂={s with heap:=h',toks:=tk}/\Holds D s.heap h' s.heap.objs.size keys items.size /\
     (∀b o,b<s.heap.objs.size->s.heap.get? b=some o->h'.get? b=some o)) E) F.called_set.init.plain F.entry_set_init (check_set_init_1 hT ?_)) λr₂ s₂ hr₂=>?_
   ·obtain⟨ol,hol,hcl,nl,hdl⟩:=hl;obtain⟨ocls,odict,odata,oslots⟩:=ol;simp only at hcl hdl;subst hcl;subst hdl;have hol':(s.heap.push (cq w)).get? l=some {cls:=.type "tuple",dict:=odict,data:=.seq items nl,slots:=oslots}:=Heap.get?_push_of_some _ hol;have hsls:=sub_tuple_set;have hslf:=sub_tuple_frozenset;have hne:(bE "tuple" == bE "dict")=false:=by decide
    have hl1:(s.heap.push (cq w)).IsTuple l items:=⟨_,hol',rfl,nl,rfl⟩
    unfold Builtin.«set.__init__» noKeywords Builtin.Frozenset.updateFrom;generalize hPI:pyIter=PI
    wp_walk
    subst hPI;refine wpAny_pyIter_tuple hl1 ?_;refine ag (wpAny_runValue ?_);have hlS:l<s.heap.objs.size:=aI hol;have hh3:A.in1.in1.in1.handled=none:=by simp[hh]
    have hneI:l≠(s.heap.push (cq w)).objs.size:=by
     rw[bC];exact a7 (dz hlS)
    have hSf:s.heap.objs.size∉[(s.heap.push (cq w)).objs.size,l]:=by
     rw[bC];simp only[aG,List.mem_singleton,bx,or_false,not_or];exact⟨a7 (Nat.lt_succ_self _),Nat.ne_of_gt hlS⟩
    refine nJ hu (Walks.tuple hh3 _ l hneI items) keys hval hb ⟨⟨_,Heap.get?_push_size _ rfl,rfl,rfl⟩,(hl1.push _)⟩ (Heap.get?_push_of_some _ hS) (λb o e=>Heap.get?_push_of_some _ (Heap.get?_push_of_some _ e)) hSf (λb hb=>by rw[List.mem_singleton.mp hb,bC];exact Nat.le_succ _) λh' tk hH hk=>?_
    show ah _ _ _ _ _ _;refine aq ?_;show ah _ _ (ret bP) _ _ _;exact aq ⟨rfl,h',tk,rfl,hH,hk⟩
   ·cases r₂ with
    |error e=>exact hr₂
    |ok fl₂=>
     cases fl₂ with
     |ret r=>
      obtain⟨rfl,h',tk,rfl,hS',hk'⟩:=hr₂
      repeat (any_goals (first|assumption|wp_step))
      exact h _ _ hS' hk'
     |_=>exact hr₂.elim
  |_=>exact hr.elim
end
theorem rz:Manifest.owners.lookup (String.ofList ['r','o','t','a','r','e','t','i','_','t','e','s'].reverse)=some Manifest.sig_set_iterator:=by kernel_rfl
theorem gS:Slot "set_iterator" "__next__" "set_iterator.__next__":=
 .of (owner:="set_iterator") (n:="__next__") (by rw[typeLookup_type,builtinLookup_eq_fast];kernel_rfl) (by decide +kernel) (by decide +kernel) (by decide +kernel)
  (by first|exact .inl (by decide +kernel)|exact .inr (by decide +kernel)) (by rw[isSubtype_type];kernel_rfl)
theorem oU:entryFor table "set_iterator.__next__" = some Builtin.«set_iterator.__next__»:=entryFor_of_tree (by kernel_rfl)
theorem tI(a:ae):argsOk "set_iterator.__next__" ⟨[a],[]⟩:=by
 unfold argsOk;rw[signature?_of (id:="set_iterator.__next__") (n:=['_','_','t','x','e','n','_','_']) (o:=['r','o','t','a','r','e','t','i','_','t','e','s']) (by kernel_rfl) rz];kernel_rfl
theorem oP:Slot "set_iterator" "__iter__" "set_iterator.__iter__":=
 .of (owner:="set_iterator") (n:="__iter__") (by rw[typeLookup_type,builtinLookup_eq_fast];kernel_rfl) (by decide +kernel) (by decide +kernel) (by decide +kernel)
  (by first|exact .inl (by decide +kernel)|exact .inr (by decide +kernel)) (by rw[isSubtype_type];kernel_rfl)
theorem DP:entryFor table "set_iterator.__iter__" = some Builtin.«dict_keyiterator.__iter__»:=entryFor_alias (id':="dict_keyiterator.__iter__") (by kernel_rfl) (by first|rfl|decide +kernel) (by decide +kernel) (by kernel_rfl)
theorem B5(a:ae):argsOk "set_iterator.__iter__" ⟨[a],[]⟩:=by
 unfold argsOk;rw[signature?_of (id:="set_iterator.__iter__") (n:=['_','_','r','e','t','i','_','_']) (o:=['r','o','t','a','r','e','t','i','_','t','e','s']) (by kernel_rfl) rz];kernel_rfl
theorem vm:entryFor table "set.__iter__" = some Builtin.«frozenset.__iter__»:=entryFor_alias (id':="frozenset.__iter__") (by kernel_rfl) (by first|rfl|decide +kernel) (by decide +kernel) (by kernel_rfl)
noncomputable def eW(w:aw)(a:Addr)(ep:Nat)(es:List (Int×ae)):List (Int×ae):=if w.params.followText "set-order" = true then (pickOrder (w.params.setOrder a ep) es.toArray).toList else es
theorem nA{α:Type}:∀{l:List α}{i:Nat} (h:i<l.length),(l[i]::l.eraseIdx i).Perm l
 |_::_,0,_=>.refl _
 |a::l,i+1,h=>by
  rw[List.eraseIdx_cons_succ,List.getElem_cons_succ];exact(List.Perm.swap _ _ _).trans ((nA (by simpa using h)).cons a)
theorem sr{α:Type}(next:Nat->Nat):∀(fuel k:Nat) (left:List α) (out:Array α),left.length=fuel->(pickOrder.go next fuel k left out).toList.Perm (out.toList++left)
 | 0,k,left,out,h=>by rw[pickOrder.go,List.length_eq_zero_iff.mp h,dD]
 |fuel+1,k,left,out,h=>by
  have hl:next k%left.length<left.length:=Nat.mod_lt _ (by lia);rw[pickOrder.go,List.getElem?_eq_getElem hl];dsimp only;refine(sr next fuel (k+1) _ _ (by rw[List.length_eraseIdx_of_lt hl];lia)).trans ?_;rw[Array.toList_push,List.append_assoc];refine List.Perm.append_left _ ?_;rw[List.singleton_append];exact nA hl
theorem iS(w:aw)(a:Addr)(ep:Nat)(es:List (Int×ae)):(eW w a ep es).Perm es:=by
 unfold eW;split
 ·have:=sr (w.params.setOrder a ep) es.toArray.size 0 es.toArray.toList #[] (by simp);simp only[List.nil_append]at this;exact this
 ·exact .refl _
section
variable{prog:aB}{w:aw}{A:aC}{E:ae->af->Prop}{s:af}{K:Type} [DecidableEq K]{hash:K->Int}
noncomputable def itO(slot i:Nat)(a:Addr)(n ep:Nat):Obj:={cls:=.type "set_iterator",data:=.fields #[.int slot 0,.int i 0,.ref a,.int n 0,.int ep 0]}
theorem Ar{a:Addr}{xs:List (K×ae)}{ep:Nat}{t:aW}(ho:s.heap.get? a=some (eA (xs.map (ent hash)) ep t))(T:Tb w hash xs t){Q:ae->af->Prop}
  (h:Q (.ref s.heap.objs.size) {s with heap:=s.heap.push (itO 0 0 a xs.length ep)}):ah (ak prog w) A (pyIter (.ref a)) Q E s:=by
 have hT:s.TypeIs (.ref a) "set":=⟨_,ho,rfl⟩
 refine wpAny_pyIter_slot hT PySem.F.slot_set_iter (b5 PySem.F.slot_set_iter hT vm ?_ (PySem.F.args_set_iter_1 _));unfold Builtin.«frozenset.__iter__» Builtin.Frozenset.slot0 slotArgs;simp only[List.isEmpty_nil,bR,aR,↓reduceIte,bind_assoc,List.length_nil,bne_self_eq_false];unfold Builtin.Frozenset.addrOf Builtin.Frozenset.sizeOf;refine ag (aq ?_)
 try dsimp only
 refine ag (aq ?_);refine ag (ag (wpAny_setEntries_of ho rfl T.fits (aq ?_)));refine ag ?_;unfold setDrawn;refine ag (wpAny_setState_of ho rfl T.fits ?_);unfold setsByText;refine ag (ag (wpAny_askSetting (aq ?_)));refine aq ?_;show ah _ _ (if (!(w.params.followText "set-order")&&(!t.plain&&decide ((xs.map (ent hash)).toArray.size>1)))=true then _ else _) _ _ _;rw[T.plain];simp only[bR,Bool.false_and,Bool.and_false,aR,if_false];refine ag (aq ?_);refine ag (wpAny_setEpoch_of ho rfl T.fits ?_);refine ag (bK (aq ⟨_,rfl,"set_iterator",_,⟨_,Heap.get?_push_size _ rfl,rfl⟩,gS.lookup,?_⟩));have e:(xs.map (ent hash)).toArray.size=xs.length:=by simp
 rw[e];exact h
end
section
variable{prog:aB}{w:aw}{A:aC}{E:ae->af->Prop}{s:af}{K:Type} [DecidableEq K]{hash:K->Int}
theorem DJ{xs:Array Nat}(hr:Ri xs):below xs 0=0:=by
 obtain⟨a,b⟩:=jJ hr 0;refine Nat.le_zero.mp (dA λq=>?_);have:=(b 0 xs[0] (Array.getElem?_eq_getElem (by lia))).mp q;lia
theorem BN{xs:Array Nat}(hr:Ri xs){i x:Nat}(h:xs[i]? = some x):below xs (x+1)=i+1:=by
 obtain⟨a,b⟩:=jJ hr (x+1);have h1:=(b i x h).mpr (by lia);refine Nat.le_antisymm (dA λq=>?_) h1;have e:xs[i+1]? = some xs[i+1]:=Array.getElem?_eq_getElem (by lia);have:=(b _ _ e).mp q;have:=hr i (i+1) x _ (by lia) h e;lia
theorem rg{a:Addr}{xs:List (K×ae)}{ep slot i:Nat}{t:aW}(ho:s.heap.get? a=some (eA (xs.map (ent hash)) ep t))(T:Tb w hash xs t)(hs:w.params.followText "set-order" = false->below t.place slot=i)
  {Q:Option (ae×Nat)->af->Prop}
  (h:∀slot',(w.params.followText "set-order" = false->i<xs.length->below t.place slot'=i+1)->Q (((eW w a ep (xs.map (ent hash)))[i]?).map λe=>(e.2,slot')) s):ah (ak prog w) A (setNext a slot i ep) Q E s:=by
 have hr:=Ri.of T.good.ri;unfold setNext;refine ag (wpAny_setState_of ho rfl T.fits ?_);dsimp only;unfold setsByText;refine ag (ag (wpAny_askSetting (aq ?_)));show ah _ _ (if w.params.followText "set-order" = true then _ else _) _ _ _;unfold eW at h;cases q:w.params.followText "set-order" with
 |true=>
  rw[q]at h;simp only[if_true]at h ⊢;rw[if_neg (by simp)];refine ag ?_;unfold setWalk;refine ag (wpAny_setState_of ho rfl T.fits ?_);dsimp only;unfold setsByText;refine ag (ag (wpAny_askSetting (aq ?_)));show ah _ _ (if w.params.followText "set-order" = true then _ else _) _ _ _;rw[q];simp only[if_true];refine ag (wpAny_askSetting (aq (aq ?_)));have:=h slot (λe=>by cases e);rw[Array.getElem?_toList]at this;exact this
 |false=>
  rw[q]at h;simp only[aR,if_false]at h ⊢;show ah _ _ (if (!t.plain&&decide ((xs.map (ent hash)).toArray.size>1))=true then _ else _) _ _ _;rw[T.plain];simp only[bR,Bool.false_and,aR,if_false];refine ag ?_;show ah _ _ (if (!t.led && !(xs.map (ent hash)).toArray.isEmpty)=true then _ else _) _ _ _;rw[T.led,q];simp only[Bool.not_false,bR,Bool.false_and,aR,if_false];refine aq ?_;rw[hs q];have ln:=T.good.len;rw[aQ]at ln;by_cases hi:i<xs.length
  ·have e1:(xs.map (ent hash)).toArray[i]? = some (ent hash xs[i]):=by simp[hi]
   have e2:t.place[i]? = some t.place[i]:=Array.getElem?_eq_getElem (by lia);rw[e1,e2];refine aq ?_;have:=h (t.place[i]+1) λ_ _=>BN hr e2
   rw[show (xs.map (ent hash))[i]? = some (ent hash xs[i])by simp[hi]]at this;exact this
  ·have e1:(xs.map (ent hash)).toArray[i]? = none:=by simp;lia
   rw[e1];refine aq ?_;have:=h 0 λ_ q=>absurd q hi
   rw[show (xs.map (ent hash))[i]? = none by simp;lia]at this;exact this
noncomputable def StI(w:aw)(hash:K->Int)(I a:Addr)(xs:List (K×ae))(ep:Nat)(t:aW)(i:Nat)(h:Heap):Prop:=
 (∃slot,h.get? I=some (itO slot i a xs.length ep)/\(w.params.followText "set-order" = false->below t.place slot=i))/\h.get? a=some (eA (xs.map (ent hash)) ep t)
theorem next_item{I a:Addr}(hne:a≠I){xs:List (K×ae)}{ep i:Nat}{t:aW}(T:Tb w hash xs t)(st:StI w hash I a xs ep t i s.heap){e:Int×ae}(he:(eW w a ep (xs.map (ent hash)))[i]? = some e){Q:Option ae->af->Prop}
  (hQ:∀h',StI w hash I a xs ep t (i+1) h'->Heap.SameBut I s.heap h'->Q (some e.2) {s with heap:=h'}):ah (ak prog w) A (pyNext (.ref I)) Q E s:=by
 obtain⟨⟨slot,hI,hs⟩,ho⟩:=st;have hT:s.TypeIs (.ref I) "set_iterator":=⟨_,hI,rfl⟩
 have il:i<xs.length:=by
  have:=(List.getElem?_eq_some_iff.mp he).1;rw[(iS ..).length_eq,aQ]at this;exact this
 unfold pyNext;refine ag (wpAny_attempt (wpAny_callSpecial?_slot (name:=ao "__next__") hT gS (b5 gS hT oU ?_ (tI _))));show ah _ _ (fieldsOf (.ref I)>>=_) _ _ s;refine ag (wpAny_fieldsOf hI rfl ?_);show ah _ _ (setEntries a>>=_) _ _ s;refine ag (wpAny_setEntries_of ho rfl T.fits ?_);rw[show ((((xs.map (ent hash)).toArray.size:Nat):Int) != ((xs.length:Nat):Int))=false by simp];simp only[aR,if_false];show ah _ _ (setNext a (Int.toNat ((slot:Nat):Int)) (Int.toNat ((i:Nat):Int)) (Int.toNat ((ep:Nat):Int))>>=_) _ _ s;rw[Int.toNat_natCast,Int.toNat_natCast,Int.toNat_natCast];refine ag (rg ho T hs λslot' h1=>?_);rw[he];show ah _ _ (setField (.ref I) 0 (rawInt slot')>>=_) _ _ s;refine ag (wpAny_setField hI rfl (by simp) ?_);have hI2:(s.heap.update I (Obj.mapFields (·.setIfInBounds 0 (rawInt slot')))).get? I=some (itO slot' i a xs.length ep):=by
  rw[Heap.get?_update_self _ hI (Obj.isFreed_of_fields (Obj.data_mapFields (by rfl) _))];rfl
 refine ag (wpAny_setField hI2 rfl (by simp) ?_);have hI3:((s.heap.update I (Obj.mapFields (·.setIfInBounds 0 (rawInt slot')))).update I (Obj.mapFields (·.setIfInBounds 1 (rawInt ((i:Int)+1))))).get? I=some (itO slot' (i+1) a xs.length ep):=by
  rw[Heap.get?_update_self _ hI2 (Obj.isFreed_of_fields (Obj.data_mapFields (by rfl) _))];rfl
 refine aq ⟨e.2,rfl,aq (hQ _ ⟨⟨slot',hI3,λq=>h1 q il⟩,?_⟩ ((Heap.SameBut.update ..).trans (Heap.SameBut.update ..)))⟩;rw[Heap.get?_update_other _ _ (Ne.symm hne),Heap.get?_update_other _ _ (Ne.symm hne)];exact ho
theorem next_end{I a:Addr}(hh:A.handled=none){xs:List (K×ae)}{ep:Nat}{t:aW}(T:Tb w hash xs t)(st:StI w hash I a xs ep t xs.length s.heap){Q:Option ae->af->Prop}
  (hQ:∀h',Heap.ExtBut I s.heap h'->Q none {s with heap:=h'}):ah (ak prog w) A (pyNext (.ref I)) Q E s:=by
 obtain⟨⟨slot,hI,hs⟩,ho⟩:=st;have hT:s.TypeIs (.ref I) "set_iterator":=⟨_,hI,rfl⟩
 unfold pyNext;refine ag (wpAny_attempt (wpAny_callSpecial?_slot (name:=ao "__next__") hT gS (b5 gS hT oU ?_ (tI _))));show ah _ _ (fieldsOf (.ref I)>>=_) _ _ s;refine ag (wpAny_fieldsOf hI rfl ?_);show ah _ _ (setEntries a>>=_) _ _ s;refine ag (wpAny_setEntries_of ho rfl T.fits ?_);rw[show ((((xs.map (ent hash)).toArray.size:Nat):Int) != ((xs.length:Nat):Int))=false by simp];simp only[aR,if_false];show ah _ _ (setNext a (Int.toNat ((slot:Nat):Int)) (Int.toNat ((xs.length:Nat):Int)) (Int.toNat ((ep:Nat):Int))>>=_) _ _ s;rw[Int.toNat_natCast,Int.toNat_natCast,Int.toNat_natCast];refine ag (rg ho T hs λslot' h1=>?_);rw[show (eW w a ep (xs.map (ent hash)))[xs.length]? = none from List.getElem?_eq_none (by rw[(iS ..).length_eq,aQ];exact aE _)];show ah _ _ (setField (.ref I) 2 .none>>=_) _ _ s;refine ag (wpAny_setField hI rfl (by simp) ?_);show ah _ _ (newExc (.type "StopIteration") []>>=_) _ _ _;refine ag ?_;simp only[newExc,newTuple];refine ag (bK ?_ (by size_fits));refine ag (m:=firstArgMember _ _) (wpAny_of_eq (a:=bP) (by first|rfl|(simp only[firstArgMember];rfl)) ?_);refine bK ?_ (by size_fits);simp only[raiseNew];refine ag (wpAny_handled ?_)
 first|rw[show A.in1.handled=none from hh]|rw[hh]
 refine ag (aq (wpAny_throw ?_));refine ag (wpAny_isInstance (T:="StopIteration") (b:=true) ⟨_,Heap.get?_push_size _ rfl,rfl⟩ isSubtype_stop ?_);exact aq (hQ _ (((Heap.SameBut.update ..).extBut.push _).push _))
theorem Dn{I a:Addr}{xs:List (K×ae)}{ep i:Nat}{t:aW}(st:StI w hash I a xs ep t i s.heap){Q:ae->af->Prop}(h:Q (.ref I) s):ah (ak prog w) A (pyIter (.ref I)) Q E s:=by
 obtain⟨⟨slot,hI,hs⟩,ho⟩:=st;have hT:s.TypeIs (.ref I) "set_iterator":=⟨_,hI,rfl⟩
 refine wpAny_pyIter_slot hT oP (b5 oP hT DP ?_ (B5 _));show ah _ _ (ret (.ref I)) _ _ s;exact aq ⟨_,rfl,"set_iterator",_,hT,gS.lookup,h⟩
theorem walks(hh:A.handled=none)(I a:Addr)(hne:a≠I){xs:List (K×ae)}{ep:Nat}{t:aW}(T:Tb w hash xs t) :
  Walks prog w A I [I,a] [I] xs.length (λi v=>∃e,(eW w a ep (xs.map (ent hash)))[i]? = some e/\e.2=v) (λi h=>StI w hash I a xs ep t i h) where
 sub:=λb hb=>by simp at hb;simp[hb]
 frame:=λ_ _ _ st hk=>⟨let ⟨slot,x,y⟩:=st.1;⟨slot,hk I (by simp) _ x,y⟩,hk a (by simp) _ st.2⟩
 item:=λi s Q E hi st hQ=>by
  have il:i<(eW w a ep (xs.map (ent hash))).length:=by rw[(iS ..).length_eq,aQ];exact hi
  refine next_item hne T st (List.getElem?_eq_getElem il) λh' st' hs'=>?_
  exact hQ _ h' s.toks ⟨_,List.getElem?_eq_getElem il,rfl⟩ st' λb o hb e=>hs'.extBut b o (λh=>hb (by simp[h])) e
 done:=λs Q E st hQ=>next_end hh T st λh' he'=>hQ h' s.toks λb o hb e=>he' b o (λh=>hb (by simp[h])) e
 self:=λ_ _ _ _ st hQ=>Dn st hQ
end
section
variable{prog:aB}{w:aw}{A:aC}{E:ae->af->Prop}{s:af}{K:Type} [DecidableEq K]{hash:K->Int}
theorem Bq{a:Addr}{xs:List (K×ae)}{ep:Nat}{t:aW}(hh:A.handled=none)(ho:s.heap.get? a=some (eA (xs.map (ent hash)) ep t))(T:Tb w hash xs t)(hn:xs.length<=aL){Q:List ae->af->Prop}
  (hQ:∀h' tk (acc:List ae),s.toks<=tk->s.heap.objs.size<h'.objs.size->(∀b o,s.heap.get? b=some o->h'.get? b=some o)->acc.Perm (xs.map (·.2))->Q acc {s with heap:=h',toks:=tk}):ah (ak prog w) A (collect (.ref a)) Q E s:=by
 have ha:a<s.heap.objs.size:=aI ho;have hSI:s.heap.objs.size≠a:=Nat.ne_of_gt ha;unfold collect;refine ag (wpAny_runValue (dF F.entry_proto_collect ?_));rw[aC.under_plainId F.plain_proto_collect _];show ah _ A.in1 (newList []>>=λl=>again (.builtin "list.__iadd__" ⟨[l,.ref a],[]⟩)) _ _ s;refine ag (bK ?_);refine aq ⟨plainId_quiet F.plain_list_iadd _,dF F.entry_list_iadd ?_⟩;rw[aC.under_plainId F.plain_list_iadd _];have ho₁:(s.heap.push {cls:=.type "list",data:=.seq ([]:List ae).toArray}).get? a=some (eA (xs.map (ent hash)) ep t):=Heap.get?_push_of_some _ ho;have hT₁:af.TypeIs {s with heap:=s.heap.push {cls:=.type "list",data:=.seq ([]:List ae).toArray}} (.ref a) "set":=⟨_,ho₁,rfl⟩
 show ah _ A.in1 (Builtin.List.listExtendWith (.ref s.heap.objs.size) (.ref a) (.ref s.heap.objs.size)) _ _ _;unfold Builtin.List.listExtendWith;refine ag (wpAny_typeOf hT₁ ?_);have h1:Builtin.List.listSameRef (.ref s.heap.objs.size) (.ref a)=false:=by simp[Builtin.List.listSameRef,hSI]
 have h2:(bE "set" == bE "list")=false:=by decide
 have h3:(bE "set" == bE "tuple")=false:=by decide
 simp only[h1,h2,h3,Bool.or_false,aR,if_false];refine ag (Ar ho₁ T ?_);have hsz:(s.heap.push {cls:=.type "list",data:=.seq ([]:List ae).toArray}).objs.size=s.heap.objs.size+1:=bC ..;have ho₂:=Heap.get?_push_of_some (itO 0 0 a xs.length ep) ho₁;have hI₂:((s.heap.push {cls:=.type "list",data:=.seq ([]:List ae).toArray}).push (itO 0 0 a xs.length ep)).get? (s.heap.push {cls:=.type "list",data:=.seq ([]:List ae).toArray}).objs.size=some (itO 0 0 a xs.length ep):=Heap.get?_push_size _ rfl;have hT₂:af.TypeIs {s with heap:=(s.heap.push {cls:=.type "list",data:=.seq ([]:List ae).toArray}).push (itO 0 0 a xs.length ep)} (.ref a) "set":=⟨_,ho₂,rfl⟩
 refine ag (bS ?_);unfold Builtin.List.listLengthHint;refine ag (wpAny_specialOf hT₂ PySem.F.slot_set_len.lookup ?_);show ah _ A.in1 (isInstance (bF a) (.type "set")>>=_) _ _ _;refine ag (wpAny_isInstance hT₂ sub_set_self ?_);simp only[bR,aR,if_false];show ah _ A.in1 (typeOf (bF a)>>=_) _ _ _;refine ag (wpAny_typeOf hT₂ ?_);refine aq ?_;show ah _ A.in1 (rule "list.extend.makes-room" >>= λ_=>Builtin.List.listTouch (.ref s.heap.objs.size)>>=λ_=>
  again (.builtin "list.extend.loop" ⟨[.ref s.heap.objs.size,.ref (s.heap.push {cls:=.type "list",data:=.seq ([]:List ae).toArray}).objs.size,.ref s.heap.objs.size],[]⟩)) _ _ _
 refine ag (wpAny_rule ?_);have hS₁:((s.heap.push {cls:=.type "list",data:=.seq ([]:List ae).toArray}).push (itO 0 0 a xs.length ep)).get? s.heap.objs.size=some {cls:=.type "list",data:=.seq ([]:List ae).toArray}:=Heap.get?_push_of_some _ (Heap.get?_push_size _ rfl);rw[hsz]at *;generalize hH:(s.heap.push {cls:=.type "list",data:=.seq ([]:List ae).toArray}).push (itO 0 0 a xs.length ep)=H1 at *;have old1:∀b o,s.heap.get? b=some o->H1.get? b=some o:=λb o e=>by rw[<-hH];exact Heap.get?_push_of_some _ (Heap.get?_push_of_some _ e)
 refine ag ?_;show ah _ A.in1 (updateSeq s.heap.objs.size (·.push .none)>>=λ_=>updateSeq s.heap.objs.size (·.pop)) _ _ _;refine ag (wpAny_updateSeq hS₁ rfl ?_);have hS₂:=Heap.get?_update_self (bB (·.push bP)) hS₁ rfl;refine wpAny_updateSeq hS₂ rfl ?_;have hS₃:=Heap.get?_update_self (bB (·.pop)) hS₂ rfl;have oth:∀b o,b≠s.heap.objs.size->H1.get? b=some o->((H1.update s.heap.objs.size (bB (·.push bP))).update s.heap.objs.size (bB (·.pop))).get? b=some o:=
  λb o hb e=>(Heap.get?_update_other _ _ (Ne.symm hb)).trans ((Heap.get?_update_other _ _ (Ne.symm hb)).trans e)
 have hne:a≠s.heap.objs.size+1:=a7 (dz ha);have hSf:s.heap.objs.size∉[s.heap.objs.size+1,a]:=by
  simp only[aG,bx,or_false,not_or];exact⟨a7 (Nat.lt_succ_self _),hSI⟩
 refine aq ⟨plainId_quiet F.plain_extend_loop _,codeAny_extend_loopS ((walks (prog:=prog) (A:=A.in1) hh (s.heap.objs.size+1) a hne (ep:=ep) T).toS) hn _ hSf _ xs.length 0 _ _ _ rfl (bu _)
  ⟨⟨0,oth _ _ (Nat.succ_ne_self _) hI₂,λ_=>DJ (Ri.of T.good.ri)⟩,oth _ _ (Ne.symm hSI) ho₂⟩ hS₃ (ItemsOf.nil _) λs' acc' c' hm hS' hacc=>?_⟩
 show ah _ A (load s.heap.objs.size>>=_) _ _ s';refine ag (wpAny_load hS' ?_);obtain⟨h',g',d',tk',os'⟩:=s';have eg:g'=s.gens:=hm.gens;have ed:d'=s.drawn:=hm.drawn;have eo:os'=s.os:=hm.os;subst eg;subst ed;subst eo;refine aq (hQ h' tk' acc'.toList hm.toks (aI hS') (λb o e=>?_) ?_)
 ·have hb:=aI e;refine hm.heap b o (λq=>?_) (oth b o (a7 hb) (old1 b o e));rcases aG.mp q with q|q
  ·exact absurd q (a7 hb)
  ·exact absurd (List.mem_singleton.mp q) (a7 (dz hb))
 ·have e1:acc'.toList=(eW w a ep (xs.map (ent hash))).map (·.2):=by
   refine List.ext_getElem? λi=>?_
   have ln:(eW w a ep (xs.map (ent hash))).length=xs.length:=by rw[(iS ..).length_eq,aQ]
   rw[Array.getElem?_toList,List.getElem?_map];by_cases hi:i<xs.length
   ·have hi':i<acc'.size:=by rw[hacc.1];exact hi
    have e2:acc'[i]? = some acc'[i]:=Array.getElem?_eq_getElem hi';obtain⟨e,e3,e4⟩:=hacc.2 i _ e2;rw[e2,e3,<-e4];rfl
   ·rw[Array.getElem?_eq_none (by rw[hacc.1];lia),List.getElem?_eq_none (by lia)];rfl
  rw[e1];refine((iS w a ep _).map _).trans ?_;rw[List.map_map];exact .refl _
end
end ST
namespace ST
open PySem PySem.Spec PySem.SetTable PyProof.Rows
section
variable{prog:aB}{w:aw}{A:aC}{E:ae->af->Prop}{s:af}
end
noncomputable def Kd.also{prog:aB}{w:aw}{K:Type} [DecidableEq K](D:Kd prog w K)(P:K->ae->Prop):Kd prog w K where
 hash:=D.hash
 el:=λh k v=>D.el h k v/\P k v
 grow:=λh g=>⟨D.grow h.1 g,h.2⟩
 room:=D.room
 pyHash:=λhu h q=>D.pyHash hu h.1 q
 add:=λhu ho hS hel h hn q=>D.add hu ho hS (λx hx=>(hel x hx).1) h.1 hn q
theorem EU{prog:aB}{w:aw}{vs:List ae}{ns:List Int}(h:PyProof.Rows.IntsAre vs ns):ItemsAre (intKind prog w) ns vs:=by
 induction h with
 |nil=>exact .nil
 |cons n t _ ih=>exact .cons (intKind_is _ _ _ _) ih
end ST
namespace L2
open PySem PySem.Spec PyProof.Rows
variable{X:Cx}
noncomputable def jP(P:aB)(w:aw)(p:Addr)(as:List Addr)(ts:List (List Int)):Heap->Prop:=λh=>∃o xs,h.get? p=some o/\ST.fH w (ST.tuH P w) xs o/\(∀x∈xs,∃i:Nat,∃a,as[i]? = some a/\ts[i]? = some x.1/\x.2=.ref a)/\(∀k,k∈xs.map (·.1)↔k∈ts)/\xs.length<64
noncomputable def nc(X:Cx):List V->Hp->VK->Prop:=λvs H Q=>∃(l:Addr) (as:List Addr) (ts:List (List Int)),vs=[.ref l]/\(SqL X.K H l (as.map V.ref)\/SqT X.K H l (as.map V.ref))/\as.length=ts.length/\ts.length<64 /\
 (∀(i:Nat) a t,as[i]? = some a->ts[i]? = some t->SqT X.K H a (t.map V.int))/\∀p,H p=none->Q (.ref p) (upd H p (.ext (jP X.prog X.w p as ts)))
theorem getD_mem{α:Type} [DecidableEq α](l:List α)(d:α)(k:α):(∃j,j<l.length/\l.getD j d=k)↔k∈l:=by
 constructor
 ·rintro⟨j,hj,rfl⟩;rw[List.getD_eq_getElem?_getD,List.getElem?_eq_getElem hj];exact dC hj
 ·intro h;obtain⟨i,hi,rfl⟩:=List.getElem_of_mem h;exact⟨i,hi,by rw[List.getD_eq_getElem?_getD,List.getElem?_eq_getElem hi];rfl⟩
theorem uN(hc:X.calm=true)(hu:X.A.units+64<cLine):zv X (.type "set") (nc X):=by
 intro pins s σ H xs us Q I r ⟨l,as,ts,e,hl,hlen,h64,ht,q⟩;subst e;obtain⟨u,rfl,ru⟩:=r.one;cases ru;have room:(ST.tuK X.prog X.w).room X.A.in1.in1.in1:=by show X.A.units+1+1+1<cLine;lia
 have hval:∀{its:List ae},Vals (as.map V.ref) its->∀(i:Nat) v,its.toArray[i]? = some v->((ST.tuK X.prog X.w).also λk v=>∃i:Nat,∃a,as[i]? = some a/\ts[i]? = some k/\v=.ref a).el s.heap (ts.getD i []) v:=by
  intro its rv i v hv;have hil:i<its.length:=by have:=(Array.getElem?_eq_some_iff.mp hv).1;simpa using this
  have hl2:=rv.length;rw[aQ]at hl2;have e1:as[i]? = some as[i]:=List.getElem?_eq_getElem (by lia);have e2:ts[i]? = some ts[i]:=List.getElem?_eq_getElem (by lia);obtain⟨v',hv',rvv⟩:=rv.get (i:=i) (x:=.ref as[i]) (by simp[e1]);cases rvv;have ev:v=.ref as[i]:=by
   have:its[i]? = some v:=by simpa using hv
   rw[hv']at this;exact(bM this).symm
  subst ev;obtain⟨its2,r2,⟨o,a1,a2,n,a3⟩,_⟩:=I.tuple (ht i _ _ e1 e2);rw[List.getD_eq_getElem?_getD,e2];exact⟨⟨_,rfl,o,_,n,a1,a2,a3,ST.EU (intsAre_of r2)⟩,i,_,e1,e2,rfl⟩
 have fin:∀{its:List ae} (h':Heap) (tk:Nat),its.length=ts.length->ST.Holds ((ST.tuK X.prog X.w).also λk v=>∃i:Nat,∃a,as[i]? = some a/\ts[i]? = some k/\v=.ref a) s.heap h' s.heap.objs.size (λi=>ts.getD i []) its.toArray.size->(∀b o,b<s.heap.objs.size->s.heap.get? b=some o->h'.get? b=some o)->EP X pins σ Q (.ref s.heap.objs.size) {s with heap:=h',toks:=tk}:=by
  intro its h' tk hle ⟨o,ys,e1,e2,e3,e4,e5⟩ hk;rw[aP,hle]at e4 e5;refine⟨.ref _,_,I.laid (t':=tk) (o:=.ext (jP X.prog X.w s.heap.objs.size as ts)) (λb o e=>hk b o (aI e) e) (aE _) ⟨⟨o,ys,e1,e2,λx hx=>(e3 x hx).2,λk=>(e4 k).trans (getD_mem ts [] k),by lia⟩,⟨_,e1⟩,λh1 h2 ⟨o,ys,a1,a2⟩ k=>⟨o,ys,k _ a1,a2⟩⟩,rfl,q _ I.fresh⟩
 rcases hl with hl|hl
 ·obtain⟨its,rv,pl,hz⟩:=I.list hl;have hle:its.length=ts.length:=by rw[<-rv.length,aQ,hlen]
  exact ST.call_set_list (D:=(ST.tuK X.prog X.w).also _) (I.ok.hd hc) room pl.isList (λi=>ts.getD i []) (hval rv) (by rw[aP,hle];exact h64) λh' tk hH hk=>fin h' tk hle hH hk
 ·obtain⟨its,rv,pl,hz⟩:=I.tuple hl;have hle:its.length=ts.length:=by rw[<-rv.length,aQ,hlen]
  exact ST.BC (D:=(ST.tuK X.prog X.w).also _) (I.ok.hd hc) room pl (λi=>ts.getD i []) (hval rv) (by rw[aP,hle];exact h64) λh' tk hH hk=>fin h' tk hle hH hk
end L2
namespace ST
open PySem PySem.Spec PySem.SetTable PyProof.Rows TS L2
theorem wm{h:Heap}{l:List ae}{ks:List (List Int)}(t:cj h l ks)(h2:l.length<2):ks.Pairwise (λa b=>ltL b a=false):=by
 cases t with
 |nil=>exact .nil
 |cons x t=>
  cases t with
  |nil=>exact List.pairwise_singleton _ _
  |cons y t=>simp only[bZ]at h2;lia
section
variable{prog:aB}{w:aw}{A:aC}{E:ae->af->Prop}{s:af}
theorem wK{a:Addr}{xs:List (List Int×ae)}{hash:List Int->Int}{ep:Nat}{t:aW}(hh:A.handled=none)(hu:A.in1.in1.units<cLine)(ho:s.heap.get? a=some (eA (xs.map (ent hash)) ep t))(T:Tb w hash xs t)
  (hel:∀x∈xs,TupAt s.heap x.2 x.1) (hne:∀x∈xs,x.1≠[]) (hn:xs.length<64) {Q:ae->af->Prop}
  (h:∀(h':Heap) (tk:Nat) (D:Addr) (out:List ae) (ks:List (List Int)) (c:Nat),s.heap.objs.size<=D->(∀b o,s.heap.get? b=some o->h'.get? b=some o)->h'.get? D=some {cls:=.type "list",data:=.seq out.toArray c}->out.Perm (xs.map (·.2))->cj s.heap out ks->ks.Pairwise (λa b=>ltL b a=false)->Q (.ref D) {s with heap:=h',toks:=tk}) :
  ah (ak prog w) A (call (.builtin "sorted") [.ref a]) Q E s:=by
 refine Calls.call_function_entry kind_sorted plain_sorted entry_sorted (PyProof.Rows.args_sorted1 _) ?_;unfold Builtin.«sorted»;refine ag (m:=checkCount "sorted" 1 1 _) (aq ?_);refine ag (Bq (A:=A.in1) hh ho T (by rw[bA];lia) λh1 tk acc _ hs1 k1 pm=>?_);have hT:∀v∈acc,∃k,TupAt s.heap v k/\k≠[]:=λv hv=>by
  obtain⟨x,hx,rfl⟩:=a8.mp (pm.mem_iff.mp hv);exact⟨_,hel x hx,hne x hx⟩
 have tups:∃ks,cj s.heap acc ks/\∀k∈ks,k≠[]:=by
  clear pm
  induction acc with
  |nil=>exact⟨[],.nil,λk hk=>by cases hk⟩
  |cons v acc ih=>
   obtain⟨k,a1,a2⟩:=hT v aO;obtain⟨ks,b1,b2⟩:=ih λu hu=>hT u (aK _ hu)
   exact⟨k::ks,.cons a1 b1,λq hq=>by rcases aG.mp hq with rfl|hq;exact a2;exact b2 q hq⟩
 obtain⟨ks,tt,tne⟩:=tups;have al:acc.length=xs.length:=by rw[pm.length_eq,aQ]
 have az:acc.length<=sizeLine:=by rw[bA,al];lia
 refine ag (wpAny_newList (hsz:=az) ?_);have hL:(h1.push (bc "list" acc.toArray 0)).get? h1.objs.size=some (bc "list" acc.toArray 0):=Heap.get?_push_size _ rfl;have old:∀b o,s.heap.get? b=some o->(h1.push (bc "list" acc.toArray 0)).get? b=some o:=λb o e=>Heap.get?_push_of_some _ (k1 b o e)
 have keep:∀out b o,s.heap.get? b=some o->(sortedHeap (h1.push (bc "list" acc.toArray 0)) h1.objs.size acc out).get? b=some o:=λout b o e=>by
  have hb:=aI (k1 b o e);rw[sortedHeap_old (a7 hb) (by rw[bC];exact dz hb)];exact old b o e
 show ah _ _ _ _ _ ({s with heap:=h1.push (bc "list" acc.toArray 0),toks:=tk}:af);refine ag (bS ?_);refine b5 slot_list_sort ⟨_,hL,rfl⟩ entry_list_sort ?_ (args_list_sort _);have pw:acc.length<2->ks.Pairwise (λa b=>ltL b a=false):=wm tt;by_cases h2:acc.length<2
 ·obtain⟨c,hc⟩:=sortedHeap_at (out:=acc.toArray) hL;have hq:=h (sortedHeap (h1.push (bc "list" acc.toArray 0)) h1.objs.size acc acc.toArray) tk h1.objs.size acc ks c (Nat.le_of_lt hs1) (keep _) hc pm tt (pw h2);refine D2 hL h2 ?_;exact⟨_,rfl,aq ⟨_,rfl,hq⟩⟩
 ·refine DM (h0:=s.heap) hL old (λb o e=>a7 (aI (k1 b o e))) (by lia) (by lia) az tt (.inr tne) hu λout ks' a1 a2 a3=>?_
  obtain⟨c,hc⟩:=sortedHeap_at (out:=out.toArray) hL;have hq:=h (sortedHeap (h1.push (bc "list" acc.toArray 0)) h1.objs.size acc out.toArray) tk h1.objs.size out ks' c (Nat.le_of_lt hs1) (keep _) hc (a1.trans pm) a2 a3;exact⟨_,rfl,aq ⟨_,rfl,hq⟩⟩
end
end ST
namespace L2
open PySem PySem.Spec PyProof.Rows TS
variable{X:Cx}
theorem Ds(hc:X.calm=true)(hu:X.A.units+64<cLine):zv X (.builtin "sorted") (λvs H Q=>∃(p:Addr) (as:List Addr) (ts:List (List Int)),vs=[.ref p]/\H p=some (.ext (jP X.prog X.w p as ts))/\(∀t∈ts,t≠[])/\as.length=ts.length /\
  (∀(i:Nat) a t,as[i]? = some a->ts[i]? = some t->SqT X.K H a (t.map V.int)) /\
  ∀(D:Addr) (qs:List Addr) (ks:List (List Int)),H D=none->qs.length=ks.length->(∀(i:Nat) a t,qs[i]? = some a->ks[i]? = some t->∃j:Nat,as[j]? = some a/\ts[j]? = some t)->ks.Nodup->(∀k,k∈ks↔k∈ts)->ks.Pairwise (λa b=>ltL b a=false)->Q (.ref D) (upd H D (.lst (qs.map V.ref)))):=by
 intro pins s σ H xs us Q I r ⟨p,as,ts,e,hp,hne,hlen,ht,q⟩;subst e;obtain⟨u,rfl,ru⟩:=r.one;cases ru;obtain⟨⟨o,ys,e1,⟨ep,t,rfl,T⟩,e3,e4,e5⟩,_⟩:=I.hok p _ hp;have tp:∀(i:Nat) a t,as[i]? = some a->ts[i]? = some t->TupAt s.heap (.ref a) t:=λi a t ha hb=>by
  obtain⟨its,r2,⟨o,e1,e2,n,e3⟩,_⟩:=I.tuple (ht i a t ha hb);exact⟨a,o,its.toArray,n,rfl,e1,e2,e3,by simpa using intsAre_of r2⟩
 have hel:∀x∈ys,TupAt s.heap x.2 x.1:=λx hx=>by
  obtain⟨i,a,a1,a2,a3⟩:=e3 x hx;rw[a3];exact tp i a _ a1 a2
 refine ST.wK (I.ok.hd hc) (by show X.A.units+1+1<cLine;lia) e1 T hel (λx hx=>hne _ ((e4 _).mp (a8.mpr ⟨x,hx,rfl⟩))) e5 λh' tk D out ks c hD hk hl op ot os=>?_
 have eo:out=(out.map jj).map ae.ref:=by
  rw[List.map_map]
  conv=>lhs;rw[<-List.map_id out]
  refine List.map_congr_left λv hv=>?_
  obtain⟨x,hx,rfl⟩:=a8.mp (op.mem_iff.mp hv);obtain⟨i,a,a1,a2,a3⟩:=e3 x hx;rw[a3];rfl
 -- the keys, in the new order
 have gx:∃g:ae->List Int,∀v k,TupAt s.heap v k->g v=k:=by
  refine⟨λv=>@dite _ (∃k,TupAt s.heap v k) (Classical.propDecidable _) (λz=>z.choose) λ_=>[],λv k hk=>?_⟩;have z:∃k,TupAt s.heap v k:=⟨k,hk⟩
  simp only[dif_pos z];exact Dc z.choose_spec hk
 obtain⟨g,hg⟩:=gx;have em:∀{l:List ae}{k:List (List Int)},cj s.heap l k->k=l.map g:=λh=>by
  induction h with
  |nil=>rfl
  |cons t _ ih=>rw[aM,hg _ _ t,ih]
 have ek:=em ot;have kp:ks.Perm (ys.map (·.1)):=by
  rw[ek];refine(op.map g).trans ?_;rw[List.map_map,show ys.map (g∘λx=>x.2)=ys.map (·.1)from List.map_congr_left λx hx=>hg _ _ (hel x hx)]
 refine⟨.ref D,_,I.laid (t':=tk) (o:=.lst ((out.map jj).map V.ref)) hk hD ⟨by rw[aQ,aQ,op.length_eq,aQ,bA];lia,out,c,by have:=pH (out.map jj);rwa[<-eo]at this,hl⟩,rfl,q D (out.map jj) ks (I.hok.fresh hD) (by rw[ek,aQ,aQ]) (λi a k ha hb=>?_) (kp.nodup_iff.mpr T.nd) (λk=>kp.mem_iff.trans (e4 k)) os⟩;rw[ek,List.getElem?_map]at hb;rw[List.getElem?_map]at ha;cases qo:out[i]? with
 |none=>rw[qo]at ha;cases ha
 |some v=>
  rw[qo]at ha hb;cases ha;cases hb;obtain⟨x,hx,rfl⟩:=a8.mp (op.mem_iff.mp (List.mem_of_getElem? qo));obtain⟨i',a,a1,a2,a3⟩:=e3 x hx;rw[hg _ _ (hel x hx),a3];exact⟨i',a1,a2⟩
end L2
namespace HT
open PySem PySem.Spec PyProof.Rows L2
section
variable{prog:aB}{w:aw}{A:aC}{E:ae->af->Prop}{s:af}
theorem l7(xs:Array ae):((a_ xs.size).filterMap λ(m:Nat)=>xs[((((xs.size:Nat):Int)-1)+(m:Int) * -1).toNat]?).toArray=xs.toList.reverse.toArray:=by
 congr 1
 have ok:∀m∈a_ xs.size,xs[((((xs.size:Nat):Int)-1)+(m:Int) * -1).toNat]? = some (xs.toList.reverse.getD m .none):=λm hm=>by
  have hm':=List.mem_range.mp hm;have e:((((xs.size:Nat):Int)-1)+(m:Int) * -1).toNat=xs.size-1-m:=by lia
  rw[e,Array.getElem?_eq_getElem (by lia),List.getD_eq_getElem?_getD,List.getElem?_reverse (by simpa using hm')];simp;rw[Array.getElem?_eq_getElem (by lia)];rfl
 have all:∀(l:List Nat),(∀m∈l,m∈a_ xs.size)->l.filterMap (λ(m:Nat)=>xs[((((xs.size:Nat):Int)-1)+(m:Int) * -1).toNat]?)=l.map λm=>xs.toList.reverse.getD m .none:=by
  intro l
  induction l with
  |nil=>intro _;rfl
  |cons m l ih=>intro h;rw[List.filterMap_cons,ok m (h m aO),aM];show _::_=_;rw[ih λk hk=>h k (aK _ hk)]
 rw[all _ λ_ h=>h];refine List.ext_getElem (by simp) λi h1 h2=>?_
 have hi:i<xs.size:=by simpa using h1
 rw[dY,List.getElem_range,List.getD_eq_getElem?_getD,List.getElem?_eq_getElem h2];rfl
theorem xY{t sl:Addr}{items:Array ae}{tk:Tok}{Q:ae->af->Prop}(ht:IsTup s.heap t items)(hs:s.heap.IsSliceOf sl .none .none (.int (-1) tk))
  (h:Q (.ref s.heap.objs.size) {s with heap:=s.heap.push {cls:=.type "tuple",data:=.seq items.toList.reverse.toArray}}) (hsz:items.size<=aL):ah (ak prog w) A (getItem (.ref t) (.ref sl)) Q E s:=by
 have htake:sizeOk (.seq items.toList.reverse.toArray):=by
  show items.toList.reverse.toArray.size<=aL;rw[aP,List.length_reverse,bU];exact hsz
 obtain⟨os,hos,hcs,hds⟩:=id hs;have hTs:s.TypeIs (.ref sl) "slice":=⟨os,hos,hcs⟩
 unfold getItem
 try with_reducible refine bS ?_
 first|refine ag (aq ?_)|skip
 refine ag (wpAny_sequenceKey ht.typeIs (by decide) ?_);refine ag (wpAny_callSpecial?_slot (name:=ao "__getitem__") ht.typeIs eK
  (b5 eK ht.typeIs entry_tuple_getitem ?_ (args_tuple_getitem _ _)))
 show ah _ _ (Builtin.Tuple.tupleItemsOf (.ref t)>>=_) _ _ s;refine ag (tupleItemsOf_ ht ?_);refine ag (wpAny_typeOf hTs ?_);rw[if_pos (by decide)];refine ag ?_;unfold Builtin.Slice.sliceApplied Builtin.Slice.sliceFields;refine ag (ag (bD hos hds (x:=.none) rfl (ag (bD hos hds (x:=.none) rfl (ag (bD hos hds (x:=.int (-1) tk) rfl (aq ?_)))))));refine ag (slicePart_int ?_);show ah _ _ (if ((-1:Int)==0)=true then _ else _) _ _ s;rw[if_neg (by decide)];refine ag (slicePart_none (ag (slicePart_none (ag (aq ?_)))));have e1:eM none none (-1) ((items.size:Nat):Int)=(((items.size:Nat):Int)-1,-1):=by unfold eM;simp
 have e2:dw (((items.size:Nat):Int)-1) (-1) (-1)=items.size:=by
  unfold dw;rw[if_neg (by decide)];rw[show -(-1:Int)=1 from rfl,Int.ediv_one];split<;>lia
 show ah _ _ (match eM none none (-1) ((items.size:Nat):Int)with|(lo,hi)=>pure (lo,(-1:Int),dw lo hi (-1))) _ _ s;rw[e1];show ah _ _ (pure (((items.size:Nat):Int)-1,(-1:Int),dw (((items.size:Nat):Int)-1) (-1) (-1))) _ _ s;rw[e2];refine aq ?_;show ah _ _ (if ((((items.size:Nat):Int)-1)==0&&(-1:Int)==1&&items.size==items.size)=true then _ else _) _ _ s;rw[if_neg (by simp),l7]
 first
  |exact ag (m:=dy _) (bK (aq ⟨_,rfl,aq h⟩) htake)
  |exact ag (m:=dy _) (bK (ag (aq (aq ⟨_,rfl,aq h⟩))) htake)
  |exact ag (ag (m:=dy _) (bK (aq (aq ⟨_,rfl,aq h⟩)) htake))
  |exact ag (ag (m:=dy _) (bK (aq ⟨_,rfl,aq h⟩) htake))
end
end HT
namespace L2
open PySem PySem.Spec PyProof.Rows
variable{X:Cx}{e st:Expr}{te ts:TE}{p2 pos:Pos}
theorem DL:∀{xs:List V}{us:List ae},Vals xs us->Vals xs.reverse us.reverse:=by
 have app:∀{xs ys:List V}{us ws:List ae},Vals xs us->Vals ys ws->Vals (xs++ys) (us++ws):=λh h'=>by
  induction h with
  |nil=>exact h'
  |cons a _ ih=>exact .cons a ih
 intro xs us h
 induction h with
 |nil=>exact .nil
 |cons a _ ih=>rw[List.reverse_cons,List.reverse_cons];exact app ih (.cons a .nil)
noncomputable def Bf(K:ax)(te ts:TE):TE:=λσ H Q=>te σ H λx H1=>ts σ H1 λy H2=>y=.int (-1)/\∃a xs,x=.ref a/\SqT K H2 a xs/\∀p,H2 p=none->Q (.ref p) (upd H2 p (.tup xs.reverse))
theorem xX(he:PE X e te)(hs:PE X st ts):PE X (.Subscript e (.Slice none none (some st) p2) pos) (Bf X.K te ts):=by
 intro pins s σ H Q I h;refine Subscript_ (thn (he pins s σ H _ I h) λv s1 ⟨x,H1,I1,r1,q1⟩=>?_);refine wpAny_Slice ?_;rw[evalPart_none];refine aq (aq ?_);rw[evalPart_some];refine thn (hs pins s1 σ H1 _ I1 q1) λu s3 ⟨y,H3,I3,r3,q3⟩=>?_
 obtain⟨rfl,a,xs,rfl,hx,q⟩:=q3;obtain⟨tk,rfl⟩:=r3;cases r1;have I4:Inv X pins σ H3 {s3 with heap:=s3.heap.push {cls:=.type "slice",data:=.fields #[.none,.none,.int (-1) tk]}}:=I3.kept (t':=s3.toks) λb ob q=>Heap.get?_push_of_some _ q
 obtain⟨its,r,ht,hz⟩:=I4.tuple hx;have hlen:its.toArray.size=xs.length:=by rw[aP];exact r.length.symm
 show ah (ak X.prog X.w) X.A (subscriptTail e (.Slice none none (some st) p2) (.ref a) (.ref s3.heap.objs.size)) (EP X pins σ Q) X.xe {s3 with heap:=s3.heap.push {cls:=.type "slice",data:=.fields #[.none,.none,.int (-1) tk]}};refine tail_any (ops:=[.ref a,.ref s3.heap.objs.size]) ht.typeIs eK.lookup (HT.xY ht (Heap.IsSliceOf.new ..) ?_ (by rw[hlen];exact hz)) (by with_unfolding_all rfl);exact⟨.ref _,_,I4.laid (o:=.tup xs.reverse) (λb ob q=>Heap.get?_push_of_some _ q) (aE _) ⟨by rw[List.length_reverse];exact hz,its.reverse,DL r,⟨_,Heap.get?_push_size _ rfl,rfl,0,by simp⟩⟩,rfl,q _ I4.fresh⟩
end L2
namespace EV
open PySem PySem.Spec PySem.P PyProof.Rows L2
theorem j9{α:Type} [DecidableEq α]{x:α}:∀{l:List α},x∈uq l↔x∈l
 | []=>.rfl
 |a::l=>by
  rw[uq];split
  ·rename_i h
   rw[j9,aG];exact⟨.inr,λz=>z.elim (λe=>e▸h) id⟩
  ·rw[aG,aG,j9]
theorem ki{α:Type} [DecidableEq α]:∀(l:List α),(uq l).Nodup
 | []=>.nil
 |a::l=>by
  rw[uq];split
  ·exact ki l
  ·rename_i h
   exact List.nodup_cons.mpr ⟨λz=>h (j9.mp z),ki l⟩
theorem nr{α:Type} [DecidableEq α]{l m:List α}(h1:m.Nodup)(h2:∀k,k∈m↔k∈l):m.Perm (uq l):=
 (List.perm_ext_iff_of_nodup h1 (ki l)).mpr λk=>(h2 k).trans j9.symm
theorem EI{c:Cc}{b:B1}{as:List Expr}{a:Expr}(h:lx c b as=some a):∃y p3 pos3,as=[.Call (.Name y p3) [a] [] pos3]/\b=.sorted/\glob c y=some .set/\isStar a=false/\c.calm=true:=by
 unfold lx at h;split at h
 ·split at h
  ·rename_i hq
   cases h;simp only[aJ,bV,beq_iff_eq,bG]at hq;exact⟨_,_,_,rfl,hq.1.1.1.1,hq.1.1.2,hq.1.2,hq.2⟩
  ·cases h
 ·cases h
section
variable{w:W}{g:Gc}{c:Cc}{E:XK}{X:Cx}{a:Expr}{ia:EV.E}{pos p2 p3 pos3:Pos}
theorem B8{st:Expr}(h:fz st=true):∃k p q,st=.UnaryOp .USub (.Constant (.int 1) k p) q:=by
 unfold fz at h;split at h
 ·simp only[decide_eq_true_eq]at h;subst h;exact⟨_,_,_,rfl⟩
 ·cases h
theorem qZ.rev{g:Gc}{H:Hp}:∀{ds:List D}{vs:List V},qZ g H ds vs->qZ g H ds.reverse vs.reverse:=by
 have app:∀{ds es:List D}{vs us:List V},qZ g H ds vs->qZ g H es us->qZ g H (ds++es) (vs++us):=λ{ds}=>by
  induction ds with
  |nil=>intro es vs us h h';cases h;exact h'
  |cons d ds ih=>intro es vs us h h';cases h with|cons a b=>exact .cons a (ih b h')
 intro ds
 induction ds with
 |nil=>intro vs h;cases h;exact .nil
 |cons d ds ih=>intro vs h;cases h with|cons a b=>rw[List.reverse_cons,List.reverse_cons];exact app (ih b) (.cons a .nil)
theorem PE.or'{e:Expr}{t t':TE}(h:PE X e t)(h':PE X e t'):PE X e (λσ H Q=>t σ H Q\/t' σ H Q):=λpins s σ H Q I q=>q.elim (h pins s σ H Q I) (h' pins s σ H Q I)
theorem xf(O:XO w g c E X){st:Expr}(ha:PE X a (tE w g c E ia))(hs:fz st=true):PE X (.Subscript a (.Slice none none (some st) p2) pos) (tE w g c E (.rev ia)):=by
 obtain⟨k,p,q,rfl⟩:=B8 hs;have hK:=O.K;refine PE.imp (PE.or' (xX ha (jY kq iQ)) (uh ha (jY kq iQ))) λσ H Q ⟨τ,S,se,k⟩=>?_
 simp only[za,ze,qY,zj,zf,zb,zm,zk,zg,qE,qC,qy,qI,qG,qz,qt,qD,qk,qx,qp,qX,qi,qK,qU,qH,qw,qQ,qW,qO,qS,qV,qR,qP,qN,qF,qA,qr,qT,qM,qJ,qL,qB]at k;cases q:evE w ia τ with
 |ex z=>exact .inl ⟨τ,S,se,by rw[q]at k ⊢;exact k⟩
 |no=>rw[q]at k;exact k.elim
 |ok dd=>
  cases dd with
  |tup xs=>
   refine .inl (zh se k λda va H1 e1 p1 k1=>?_);rw[q]at e1;cases e1;obtain⟨l,vs,rfl,h1,r1⟩:=p1.rb.tup;refine⟨1,rfl,rfl,l,vs,rfl,by rw[hK];exact h1,λp hp=>?_⟩;exact k1 _ _ (bp.of (p1.same.trans (zx hp)) (fP (se.sub.same p1.same) hp r1.rev) rfl)
  |str z=>
   refine .inr (zh se k λda va H1 e1 p1 k1=>?_);rw[q]at e1;cases e1;have hv:va=.str z:=by cases p1.rb.rep;rfl
   simp only at k1;by_cases hz:(zH z).length<=SZ
   ·rw[if_pos hz]at k1;exact⟨1,rfl,rfl,z,hv,bf hz szl,k1 _ _ (bp.of p1.same (.str _) rfl)⟩
   ·rw[if_neg hz]at k1;exact k1.elim
  |_=>rw[q]at k;exact k.elim
theorem EL(O:XO w g c E X)(hc:X.calm=true){x y:Str}{b:B1}(hb:b=.sorted)(hx:glob c x=some (.bi b))(hy:glob c y=some .set)(ha:PE X a (tE w g c E ia))(hs:isStar a=false) :
  PE X (.Call (.Name x p2) [.Call (.Name y p3) [a] [] pos3] [] pos) (tE w g c E (.sset (b==.len) ia)):=by
 obtain⟨h1,h2,id,h3⟩:=O.gm hx;have hbt:=m5 b;rw[<-h2,h3]at hbt;obtain⟨r1,r2⟩:=O.gm hy;have hK:=O.K;have hr:=lM (p:=p3) (pos:=pos3) (uN hc O.units) (O.gl hy) r1 r2 (zA ha cM (qu hs)) (zr hy).2.2.2 (zr hy).2.2.1 (qu hs);have arg:∀{S:Sh}{H:Hp}{da:D}{va:V}{xs:List D},zE g H S da va->seq? da=some xs->∃l vs,va=.ref l/\(SqL g.K H l vs\/SqT g.K H l vs)/\qZ g (hid H S) xs vs:=λ{S H da va xs} r e=>by
  cases da with
  |tup ys=>cases e;obtain⟨l,vs,rfl,q1,q2⟩:=r.tup;exact⟨l,vs,rfl,.inr q1,q2⟩
  |lst ys=>cases e;obtain⟨l,vs,rfl,q1,q2⟩:=r.lst;exact⟨l,vs,rfl,.inl q1,q2⟩
  |_=>cases e
 have hbc:∀(r:List V->Hp->VK->Prop),zv X (b1V b) r->PE X (.Call (.Name x p2) [.Call (.Name y p3) [a] [] pos3] [] pos) (tCB r (gb (tCB (nc X) (gb (tE w g c E ia) gP)) gP)):=λr hcall=>by
  rw[h3]at hcall;exact mj hcall (O.gl hx) h1 hbt (zA hr cM) (zr hx).2.2.2 (zr hx).2.2.1
 subst hb
 ·refine PE.imp (hbc _ (Ds hc O.units)) λσ H Q ⟨τ,S,se,q⟩=>?_
  simp only[za,ze,qY,zj,zf,zb,zm,zk,zg,qE,qC,qy,qI,qG,qz,qt,qD,qk,qx,qp,qX,qi,qK,qU,qH,qw,qQ,qW,qO,qS,qV,qR,qP,qN,qF,qA,qr,qT,qM,qJ,qL,qB]at q;refine zh se q λda va H1 e1 p1 k1=>?_
  unfold gK at k1;cases e2:seq? da with
  |none=>rw[e2]at k1;exact k1.elim
  |some xs=>
   rw[e2]at k1;simp only[zW]at k1;by_cases h64:xs.length<64
   ·rw[if_pos h64]at k1;obtain⟨l,vs,rfl,hl,rr⟩:=arg p1.rb e2;cases e4:tups? xs with
    |none=>rw[e4]at k1;exact k1.elim
    |some ts=>
     rw[e4]at k1;have k1:=k1;simp only[show (B1.sorted==B1.len)=false from rfl,aR,if_false]at k1;obtain⟨rfl,as,rfl,hlen,hp⟩:=rr.tups e4;cases e5:ts.all (λt=>!t.isEmpty)with
     |false=>rw[e5]at k1;exact k1.elim
     |true=>
      rw[e5,if_pos rfl]at k1;refine⟨l,as,ts,rfl,by rw[hK];exact hl,hlen,by simpa using h64,λi b t hb ht=>by rw[hK];exact zB zF (hp i b t hb ht).1,λp hp'=>⟨p,as,ts,rfl,zC,λt ht=>by simpa using bL.mp e5 t ht,hlen,?_,?_⟩⟩
      ·exact λi b t hb ht=>by rw[hK];exact zB (zx hp') (zB zF (hp i b t hb ht).1)
      ·intro D qs ks hD ql qm nd mem pw;have s1:=zx (o:=.ext (jP X.prog X.w p as ts)) hp';have e6:=vP (nr nd mem) pw;subst e6;refine k1 _ _ (bp.of ((p1.same.trans s1).trans (zx hD)) (gy (se.sub.same (p1.same.trans s1)) hD (sD ql λi b t hb ht=>?_)) rfl);obtain⟨j,j1,j2⟩:=qm i b t hb ht;exact(hp j b t j1 j2).2.mono (zq s1)
   ·rw[if_neg h64]at k1;exact k1.elim
end
theorem i_{x:Expr}{t:Str}(h:fc x=some t):∃k p,x=.Constant (.str t) k p:=by
 unfold fc at h;split at h
 ·split at h
  ·cases h;exact⟨_,_,rfl⟩
  ·cases h
 ·cases h
theorem jE{x a:Expr}(h:eS x=some a):∃p,x=.FormattedValue a (-1) none p:=by
 unfold eS at h;split at h
 ·split at h
  ·split at h
   ·rename_i e;cases h;subst e;exact⟨_,rfl⟩
   ·cases h
  ·cases h
 ·cases h
section
variable{w:W}{g:Gc}{c:Cc}{E:XK}{X:Cx}{a:Expr}{ia:EV.E}{pos p2 p3 pos3:Pos}
theorem wV{α:Type}{x:D}{f:Int->R α}{z:α}(h:iR x f=.ok z):∃i,x=.int i/\f i=.ok z:=by
 cases x<;>first|exact⟨_,rfl,h⟩|(cases (show R.no=R.ok z from h);done)
theorem kx{α:Type}{x:D}{f:Str->R α}{z:α}(h:sR x f=.ok z):∃i,x=.str i/\f i=.ok z:=by
 cases x<;>first|exact⟨_,rfl,h⟩|(cases (show R.no=R.ok z from h);done)
theorem Bm{α:Type}{x:D}{f:Int->R α}{z:Str}(hf:∀i,f i≠.ex z):iR x f≠.ex z:=by
 cases x<;>first|exact hf _|exact c_
theorem jO{α:Type}{x:D}{f:Str->R α}{z:Str}(hf:∀i,f i≠.ex z):sR x f≠.ex z:=by
 cases x<;>first|exact hf _|exact c_
theorem iD{α:Type}{b:Prop} [Decidable b]{d:α}{z:Str}:(if b then R.ok d else .no)≠.ex z:=by
 split
 ·exact eC
 ·exact c_
theorem jF{α:Type}{b:Bool}{x:R α}{d:α}(h:(if b=true then x else .no)=.ok d):b=true/\x=.ok d:=by
 cases b with
 |false=>cases h
 |true=>exact⟨rfl,h⟩
theorem uJ{op:Operator}(h:o2 op=some .add):op=.Add:=by cases op<;>first|rfl|(cases h;done)
theorem Dl{vs:List Expr}{a b:Expr}{t:Str}(h:o_ vs=some (a,t,b)):∃k1 p1 p2 p3,vs=[.FormattedValue a (-1) none p1,.Constant (.str t) k1 p2,.FormattedValue b (-1) none p3]:=by
 cases vs with
 |nil=>cases h
 |cons x0 r=>cases r with
  |nil=>cases h
  |cons x1 r=>cases r with
   |nil=>cases h
   |cons x2 r=>cases r with
    |cons _ _=>cases h
    |nil=>
     have h:(match eS x0 with
      |some a=>match fc x1 with
       |some t=>match eS x2 with
        |some b=>some (a,t,b)
        |none=>none
       |none=>none
      |none=>none)=some (a,t,b):=h
     cases e0:eS x0 with
     |none=>rw[e0]at h;cases h
     |some a'=>
      rw[e0]at h;cases e1:fc x1 with
      |none=>rw[e1]at h;cases h
      |some t'=>
       rw[e1]at h;cases e2:eS x2 with
       |none=>rw[e2]at h;cases h
       |some b'=>
        rw[e2]at h;cases h;obtain⟨p1,rfl⟩:=jE e0;obtain⟨k1,p2,rfl⟩:=i_ e1;obtain⟨p3,rfl⟩:=jE e2;exact⟨_,_,_,_,rfl⟩
theorem qZ.strs{H:Hp}{ds:List D}:∀{vs:List V}{ys:List Str},qZ g H ds vs->strs? ds=some ys->vs=ys.map V.str:=by
 induction ds with
 |nil=>intro vs ys h e;cases h;cases e;rfl
 |cons d ds ih=>
  intro vs ys h e;cases h with
  |cons h t=>cases d with
   |str i=>
    obtain⟨ms,e1,rfl⟩:=br.mp (show (strs? ds).map (i :: ·)=some ys from e);have h1:=ih t e1;cases h;rw[h1];rfl
   |_=>cases (show none=some ys from e)
theorem DF(O:XO w g c E X){x:Str}(h:glob c x=some (.ty "str" none))(ha:PE X a (tE w g c E ia))(hs:isStar a=false):PE X (.Call (.Name x p2) [a] [] pos) (tE w g c E (.stri ia)):=by
 obtain⟨h1,h2,_⟩:=O.gm h;have hst:=qu (es:=[]) (env:=X.env) hs;refine PE.imp (lM y6 (O.gl h) h1 h2 (zA ha cM hst) (zr h).2.2.2 (zr h).2.2.1 hst) λσ H Q ⟨τ,S,se,k⟩=>?_
 simp only[za,ze,qY,zj,zf,zb,zm,zk,zg,qE,qC,qy,qI,qG,qz,qt,qD,qk,qx,qp,qX,qi,qK,qU,qH,qw,qQ,qW,qO,qS,qV,qR,qP,qN,qF,qA,qr,qT,qM,qJ,qL,qB]at k;refine zh se k λda va H1 e1 p1 k1=>?_
 cases hm:fO da with
 |ex z=>exact absurd hm (Bm λi=>iD)
 |no=>rw[hm]at k1;exact k1.elim
 |ok d=>
  rw[hm]at k1;obtain⟨i,rfl,q⟩:=wV hm;obtain⟨q1,q2⟩:=jF q;cases q2;exact⟨i,by rw[p1.rb.int],lU q1,k1 _ _ (bp.of p1.same (.str _) rfl)⟩
theorem CG{op:Operator}{b:Expr}{ib:EV.E}(ho:op=.Add)(ha:PE X a (tE w g c E ia))(hb:PE X b (tE w g c E ib)):PE X (.BinOp a op b pos) (tE w g c E (.sadd ia ib)):=by
 subst ho;refine PE.imp (sT rO ha hb) λσ H Q ⟨τ,S,se,k⟩=>?_
 simp only[za,ze,qY,zj,zf,zb,zm,zk,zg,qE,qC,qy,qI,qG,qz,qt,qD,qk,qx,qp,qX,qi,qK,qU,qH,qw,qQ,qW,qO,qS,qV,qR,qP,qN,qF,qA,qr,qT,qM,qJ,qL,qB]at k;refine zh se k λda va H1 e1 p1 k1=>?_
 refine zh (se.up p1.same) k1 λdb vb H2 e2 p2 k2=>?_
 cases hm:eh da db with
 |ex z=>exact absurd hm (jO λi=>jO λj=>iD)
 |no=>rw[hm]at k2;exact k2.elim
 |ok d=>
  rw[hm]at k2;obtain⟨i,rfl,q⟩:=kx hm;obtain⟨j,rfl,q'⟩:=kx q;by_cases hz:i.length+j.length<=SZ
  ·rw[if_pos hz]at q';cases q';have va':va=.str i:=by cases p1.rb.rep;rfl
   have vb':vb=.str j:=by cases p2.rb.rep;rfl
   exact⟨i,j,va',vb',bf hz szl,k2 _ _ (bp.of (p1.same.trans p2.same) (.str _) rfl)⟩
  ·rw[if_neg hz]at q';cases q'
theorem qZ.ofStrs{H:Hp}:∀(ys:List Str),qZ g H (ys.map D.str) (ys.map V.str)
 | []=>.nil
 |_::ys=>.cons (.str _) (qZ.ofStrs ys)
theorem yY{o:Expr}{ib:EV.E}{ap cp:Pos}(hb:baseOk o=true)(ho:PE X o (tE w g c E ia))(ha:PE X a (tE w g c E ib))(hs:isStar a=false)(hl:(ap.endLine==cp.line)=true) :
  PE X (.Call (.Attribute o "split" ap) [a] [] cp) (tE w g c E (.spl ia ib)):=by
 have hst:=qu (es:=[]) (env:=X.env) hs;refine PE.imp (gQ (X:=X) (apos:=ap) (cpos:=cp) PySem.F.plainAttrs_str PySem.F.slot_str_split PySem.F.type_str_split wo ho (zA ha cM hst) (pP hb) (by rw[hst];rfl) hl hst rfl) λσ H Q ⟨τ,S,se,k⟩=>?_
 simp only[za,ze,qY,zj,zf,zb,zm,zk,zg,qE,qC,qy,qI,qG,qz,qt,qD,qk,qx,qp,qX,qi,qK,qU,qH,qw,qQ,qW,qO,qS,qV,qR,qP,qN,qF,qA,qr,qT,qM,qJ,qL,qB]at k;refine zh se k λda va H1 e1 p1 k1=>?_
 cases hda:da with
 |str i=>
  subst hda;have va':va=.str i:=by cases p1.rb.rep;rfl
  subst va';refine⟨rfl,?_⟩;refine zh (se.up p1.same) k1 λdb vb H2 e2 p2 k2=>?_
  cases hm:iZ i db with
  |ex z=>exact absurd hm (jO λj=>iD)
  |no=>rw[hm]at k2;exact k2.elim
  |ok d=>
   rw[hm]at k2;obtain⟨j,rfl,q'⟩:=kx hm;obtain⟨q1,q2⟩:=jF q';cases q2;simp only[aJ,decide_eq_true_eq]at q1;have vb':vb=.str j:=by cases p2.rb.rep;rfl
   subst vb';exact⟨i,j,rfl,rfl,q1.1.1,bf q1.1.2 szl,bf q1.2 szl,λp hp=>k2 _ _ (bp.of ((p1.same.trans p2.same).trans (zx hp)) (gy (se.sub.same (p1.same.trans p2.same)) hp (qZ.ofStrs _)) rfl)⟩
 |_=>subst hda;exact k1.elim
theorem B_{o:Expr}{ib:EV.E}{ap cp:Pos}(hb:baseOk o=true)(ho:PE X o (tE w g c E ia))(ha:PE X a (tE w g c E ib))(hs:isStar a=false)(hl:(ap.endLine==cp.line)=true) :
  PE X (.Call (.Attribute o "strip" ap) [a] [] cp) (tE w g c E (.stp ia ib)):=by
 have hst:=qu (es:=[]) (env:=X.env) hs;refine PE.imp (gQ (X:=X) (apos:=ap) (cpos:=cp) PySem.F.plainAttrs_str PySem.F.slot_str_strip PySem.F.type_str_strip CP ho (zA ha cM hst) (pP hb) (by rw[hst];rfl) hl hst rfl) λσ H Q ⟨τ,S,se,k⟩=>?_
 simp only[za,ze,qY,zj,zf,zb,zm,zk,zg,qE,qC,qy,qI,qG,qz,qt,qD,qk,qx,qp,qX,qi,qK,qU,qH,qw,qQ,qW,qO,qS,qV,qR,qP,qN,qF,qA,qr,qT,qM,qJ,qL,qB]at k;refine zh se k λda va H1 e1 p1 k1=>?_
 cases hda:da with
 |str i=>
  subst hda;have va':va=.str i:=by cases p1.rb.rep;rfl
  subst va';refine⟨rfl,?_⟩;refine zh (se.up p1.same) k1 λdb vb H2 e2 p2 k2=>?_
  cases hm:jZ i db with
  |ex z=>exact absurd hm (jO λj=>iD)
  |no=>rw[hm]at k2;exact k2.elim
  |ok d=>
   rw[hm]at k2;obtain⟨j,rfl,q'⟩:=kx hm;obtain⟨q1,q2⟩:=jF q';cases q2;simp only[decide_eq_true_eq]at q1;have vb':vb=.str j:=by cases p2.rb.rep;rfl
   subst vb';exact⟨i,j,rfl,rfl,bf q1 szl,k2 _ _ (bp.of (p1.same.trans p2.same) (.str _) rfl)⟩
 |_=>subst hda;exact k1.elim
theorem EC{lo hi:Option Expr}{s:Expr}(h:cUp lo hi s=true):∃x,lo=none/\hi=some x/\ig x=true/\fz s=true:=by
 unfold cUp at h;simp only[aJ,Option.isNone_iff_eq_none]at h;obtain⟨⟨h1,h2⟩,h3⟩:=h;cases hi with
 |none=>cases h2
 |some x=>exact⟨x,h1,rfl,h2,h3⟩
theorem Bj{st:Expr}(h:ig st=true):∃k p,st=.Constant (.int 0) k p:=by
 unfold ig at h;split at h
 ·simp only[decide_eq_true_eq]at h;subst h;exact⟨_,_,rfl⟩
 ·cases h
theorem Fd{st:Expr}(h:fz st=true):∃k p q,st=.UnaryOp .USub (.Constant (.int 1) k p) q:=by
 unfold fz at h;split at h
 ·simp only[decide_eq_true_eq]at h;subst h;exact⟨_,_,_,rfl⟩
 ·cases h
theorem qZ.picks{H:Hp}{ds:List D}{vs:List V}(r:qZ g H ds vs):∀(l:List Nat),qZ g H (l.filterMap (ds[·]?)) (l.filterMap (vs[·]?))
 | []=>.nil
 |i::l=>by
  cases h:ds[i]? with
  |none=>
   have h':vs[i]? = none:=by rw[List.getElem?_eq_none_iff]at h ⊢;rw[<-r.length];exact h
   rw[List.filterMap_cons_none h,List.filterMap_cons_none h'];exact qZ.picks r l
  |some x=>
   obtain⟨u,h',ru⟩:=r.get h;rw[List.filterMap_cons_some h,List.filterMap_cons_some h'];exact .cons ru (qZ.picks r l)
theorem qZ.pickL{H:Hp}{ds:List D}{vs:List V}(r:qZ g H ds vs)(lo hi st:Option Int):qZ g H (L2.pickL ds lo hi st) (L2.pickL vs lo hi st):=by
 unfold L2.pickL;rw[<-r.length];exact r.picks _
theorem xH(O:XO w g c E X){st hi:Expr}(ha:PE X a (tE w g c E ia))(hz:ig hi=true)(hs:fz st=true):PE X (.Subscript a (.Slice none (some hi) (some st) p2) pos) (tE w g c E (.rvt ia)):=by
 obtain⟨k,p,q,rfl⟩:=Fd hs;obtain⟨k',p',rfl⟩:=Bj hz;have hK:=O.K;refine PE.imp (CC ha iQ (jY kq iQ)) λσ H Q ⟨τ,S,se,k⟩=>?_
 simp only[za,ze,qY,zj,zf,zb,zm,zk,zg,qE,qC,qy,qI,qG,qz,qt,qD,qk,qx,qp,qX,qi,qK,qU,qH,qw,qQ,qW,qO,qS,qV,qR,qP,qN,qF,qA,qr,qT,qM,qJ,qL,qB]at k;refine zh se k λda va H1 e1 p1 k1=>?_
 cases hm:iM da with
 |ex z=>exact absurd hm (jU λxs=>eC)
 |no=>rw[hm]at k1;exact k1.elim
 |ok d=>
  rw[hm]at k1;obtain⟨xs,rfl,q⟩:=jV hm;cases q;obtain⟨l,vs,rfl,h1,r1⟩:=p1.rb.lst;refine⟨1,rfl,0,-1,rfl,rfl,by decide,l,vs,rfl,by rw[hK];exact h1,λp hp=>?_⟩;exact k1 _ _ (bp.of (p1.same.trans (zx hp)) (gy (se.sub.same p1.same) hp (r1.pickL _ _ _)) rfl)
theorem xP(O:XO w g c E X){sep:Str}{kk}{pp ap cp:Pos}(ha:PE X a (tE w g c E ia))(hs:isStar a=false)(hl:(ap.endLine==cp.line)=true) :
  PE X (.Call (.Attribute (.Constant (.str sep) kk pp) "join" ap) [a] [] cp) (tE w g c E (.joi sep ia)):=by
 have hst:=qu (es:=[]) (env:=X.env) hs;refine PE.imp (gQ (X:=X) (apos:=ap) (cpos:=cp) PySem.F.plainAttrs_str PySem.F.slot_str_join PySem.F.type_str_join yp lQ (zA ha cM hst) rfl (by rw[hst];rfl) hl hst rfl) λσ H Q ⟨τ,S,se,k⟩=>?_
 simp only[za,ze,qY,zj,zf,zb,zm,zk,zg,qE,qC,qy,qI,qG,qz,qt,qD,qk,qx,qp,qX,qi,qK,qU,qH,qw,qQ,qW,qO,qS,qV,qR,qP,qN,qF,qA,qr,qT,qM,qJ,qL,qB]at k;refine⟨rfl,?_⟩;refine zh se k λda va H1 e1 p1 k1=>?_
 cases hm:fb sep da with
 |ex z=>exact absurd hm (jU λxs=>gL λys=>iD)
 |no=>rw[hm]at k1;exact k1.elim
 |ok d=>
  rw[hm]at k1;obtain⟨xs,rfl,q⟩:=jV hm;obtain⟨ys,e,q⟩:=i8 q;obtain⟨q1,q2⟩:=jF q;cases q2;simp only[aJ,decide_eq_true_eq]at q1;obtain⟨l,vs,rfl,z1,z2⟩:=p1.rb.lst;have z3:=z2.strs e;subst z3;exact⟨sep,l,ys,rfl,rfl,by rw[O.K];exact z1,q1.1,by lia,k1 _ _ (bp.of p1.same (.str _) rfl)⟩
theorem DW{b:Expr}{ib:EV.E}{t:Str}{k1}{p1 p3:Pos}(ha:PE X a (tE w g c E ia))(hb:PE X b (tE w g c E ib)) :
  PE X (.JoinedStr [.FormattedValue a (-1) none p1,.Constant (.str t) k1 p2,.FormattedValue b (-1) none p3] pos) (tE w g c E (.fsm ia t ib)):=by
 refine PE.imp (vp ha hb) λσ H Q ⟨τ,S,se,k⟩=>?_
 simp only[za,ze,qY,zj,zf,zb,zm,zk,zg,qE,qC,qy,qI,qG,qz,qt,qD,qk,qx,qp,qX,qi,qK,qU,qH,qw,qQ,qW,qO,qS,qV,qR,qP,qN,qF,qA,qr,qT,qM,qJ,qL,qB]at k;refine zh se k λda va H1 e1 p1 k1=>?_
 cases da with
 |int i=>
  simp only[iR]at k1;cases hc:zt i&&decide (((Str.empty++zK i)++t).length<=SZ)with
  |false=>rw[hc]at k1;exact k1.elim
  |true=>
   rw[hc,if_pos rfl]at k1;simp only[aJ,decide_eq_true_eq]at hc;refine⟨i,by rw[p1.rb.int],⟨lU hc.1,bf hc.2 szl⟩,zh (se.up p1.same) k1 λdb vb H2 e2 p2 k2=>?_⟩;cases db with
   |int j=>
    simp only at k2;cases hd:zt j&&decide ((cm i t j).length<=SZ)with
    |false=>rw[hd]at k2;exact k2.elim
    |true=>
     rw[hd,if_pos rfl]at k2;simp only[aJ,decide_eq_true_eq]at hd;exact⟨j,by rw[p2.rb.int],⟨lU hd.1,bf hd.2 szl⟩,k2 _ _ (bp.of (p1.same.trans p2.same) (.str _) rfl)⟩
   |_=>exact k2.elim
 |_=>exact k1.elim
end
section
variable{w:W}{g:Gc}{n:Nat}
theorem Snd.call_name(ih:Snd w g n){c:Cc}{E:XK}{X:Cx}(O:XO w g c E X){f:Str}{p pos:Pos}{as:List Expr}{ir:EV.E}(h:cE (n+1) c (.Call (.Name f p) as [] pos)=some ir):PE X (.Call (.Name f p) as [] pos) (tE w g c E ir):=by
 unfold cE at h;dsimp only at h;split at h
 ·cases h
 ·split at h
  ·rename_i fr hg
   simp only[aH,aF]at h;obtain⟨ies,h1,h⟩:=h;split at h
   ·rename_i hc
    simp only[aJ,bG]at hc;cases h
    match as with
    | []=>simp at hc
    |e::es=>exact wx O hg (ih.es O h1) hc.1 (fK h1)
   ·split at h
    ·rename_i hc
     simp only[bG]at hc;cases h
     match as with
     | []=>simp at hc
     |e::es=>exact wQ O hg (ih.es O h1) (fK h1)
    ·cases h
  ·rename_i b hg
   split at h
   ·rename_i a hs
    obtain⟨y,p3,pos3,rfl,hb,hy,hst,hc⟩:=EI hs;rw[br]at h;obtain⟨ia,h1,rfl⟩:=h;exact EL O (O.calm hc) hb hg hy (ih.e O h1) hst
   simp only[aH,aF]at h;obtain⟨ies,h1,h⟩:=h;split at h
   ·rename_i hc
    simp only[aJ,bG,bV,beq_iff_eq]at hc;cases h
    match as with
    | []=>simp at hc
    |e::es=>exact Dm O hg (by rcases hc.2 with (z|z)|z;exact .inl (O.calm z);exact .inr (.inl z);exact .inr (.inr z)) (ih.es O h1) (fK h1)
   ·cases h
  ·rename_i t b hg
   have plain:∀{ies:Es},cEs n c as=some ies->as.isEmpty=false->PE X (.Call (.Name f p) as [] pos) (tE w g c E (.bi b ies)):=λ{ies} h1 he=>by
    match as with
    | []=>simp at he
    |e::es=>exact D5 O hg (ih.es O h1) (fK h1)
   split at h
   ·rename_i y p' as' q
    split at h
    ·rename_i hr
     simp only[aJ,beq_iff_eq]at hr;split at h
     ·rename_i hc
      simp only[aJ,bV,beq_iff_eq]at hc;split at h
      ·rename_i a
       split at h
       ·cases h
       ·rename_i hs
        have hs:isStar a=false:=by simpa using hs
        simp only[aH,aF]at h;obtain⟨ia,h1,h⟩:=h;cases h;exact tG O (O.calm hc.1) hg hr.2 (ug (ih.e O h1) hs) (by intro z hz;simp at hz;rw[hz];exact hs) hc.2 yy
      ·rename_i a d
       split at h
       ·cases h
       ·rename_i hs
        have hs:isStar a=false/\isStar d=false:=by simpa using hs
        simp only[aH,aF]at h;obtain⟨ia,h1,ib,h2,h⟩:=h;cases h;exact tG O (O.calm hc.1) hg hr.2 (zA (ih.e O h1) (zA (ih.e O h2) cM (qu hs.2)) (qu hs.1)) (by intro z hz;simp at hz;rcases hz with rfl|rfl;exact hs.1;exact hs.2) hc.2 DS
      ·rename_i a d k
       split at h
       ·cases h
       ·rename_i hs
        have hs:(isStar a=false/\isStar d=false)/\isStar k=false:=by simpa[and_assoc]using hs
        simp only[aH,aF]at h;obtain⟨ia,h1,ib,h2,id,h3,h⟩:=h;split at h
        ·rename_i ht
         have ht:=eq_of_beq ht;subst ht;cases h;exact BG O (O.calm hc.1) hg hr.2 (ih.e O h1) (ih.e O h2) (ih.e O h3) hs.1.1 hs.1.2 hs.2
        ·cases h
      ·cases h
     ·cases h
    ·simp only[aH,aF]at h;obtain⟨ies,h1,h⟩:=h;cases h;exact plain h1 rfl
   ·simp only[aH,aF]at h;obtain⟨ies,h1,h⟩:=h;split at h
    ·rename_i hc
     cases h;exact plain h1 (by simpa using hc)
    ·cases h
  ·rename_i hg
   split at h
   ·rename_i a k
    split at h
    ·cases h
    ·rename_i hs
     simp only[aH,aF]at h;obtain⟨ia,h1,cl,h2,h⟩:=h;cases h;exact BU O hg (ih.e O h1) h2 (by simpa using hs)
   ·cases h
  ·rename_i t hg
   split at h
   ·split at h
    ·rename_i hq
     simp only[aJ,beq_iff_eq,bG]at hq;obtain⟨rfl,hst⟩:=hq;obtain⟨ia,h1,rfl⟩:=br.mp h;exact DF O hg (ih.e O h1) hst
    ·cases h
   ·cases h
  ·cases h
theorem jQ:∀{n:Nat}{c:Cc}{l:List Expr}{es:Es},cEs n c l=some es->l.length<=n
 | 0,_,_,_,h=>by simp[cEs]at h
 |n+1,_,[],_,_=>by simp
 |n+1,c,x::l,es,h=>by
  have hs:=fK h x aO;simp only[cEs,hs,aR,if_false,aH,aF]at h;obtain⟨_,_,r,hr,_⟩:=h;have:=jQ hr
  simpa using this
theorem pB{c:Cc}{elt:Expr}{gs:List cy}{sc:aY}{p:Pos}{ir:EV.E}(h:cE (n+1) c (.ListComp elt gs sc p)=some ir) :
  ∃tgt it ifs iit itg it' ie,gs=[⟨tgt,it,ifs,0⟩]/\(c.calm=true/\zz it=true)/\(jf (λx=>c.nm.lookup x) c.N (cb sc.names) (gD c sc.names) sc=true/\(cb sc.names).Nodup)/\cI n c it=some iit/\cTg (dQ c sc) tgt=some itg/\fF n (dQ c sc) ifs=some it'/\cE n (dQ c sc) elt=some ie/\(esc ie=true/\h9 iit tgt=true)/\ir=.comp iit (gD c sc.names) itg it' ie:=by
 unfold cE at h;dsimp only at h;split at h
 ·rename_i tgt it ifs asy
  split at h
  ·cases h
  ·rename_i hs
   have hs:(asy=0/\c.calm=true)/\zz it=true:=by simpa using hs
   obtain⟨⟨rfl,hs1⟩,hs2⟩:=hs;split at h
   ·cases h
   ·rename_i hk
    have hk:jf (λx=>c.nm.lookup x) c.N (cb sc.names) (gD c sc.names) sc=true/\(cb sc.names).Nodup:=by simpa using hk
    simp only[aH,aF]at h;obtain⟨iit,h1,itg,h2,it',h3,ie,h4,h⟩:=h;split at h
    ·rename_i he
     simp only[aJ]at he;cases h;exact⟨tgt,it,ifs,iit,itg,it',ie,rfl,⟨hs1,hs2⟩,hk,h1,h2,h3,h4,he,rfl⟩
    ·cases h
 ·cases h
theorem Br{vs:List Expr}{t0 t1 t2:Str}{a b:Expr}(h:kY vs=some (t0,a,t1,b,t2)):∃k0 k1 k2 p0 p1 p2 p3 p4,vs=[.Constant (.str t0) k0 p0,.FormattedValue a (-1) none p1,.Constant (.str t1) k1 p2,.FormattedValue b (-1) none p3,.Constant (.str t2) k2 p4]/\(Str.empty++t0).length<=1000:=by
 unfold kY at h;split at h
 ·simp only[aH,aF]at h;obtain⟨u0,h0,u1,h1,u2,h2,u3,h3,u4,h4,h⟩:=h;split at h
  ·rename_i hz
   cases h;obtain⟨k0,p0,rfl⟩:=i_ h0;obtain⟨p1,rfl⟩:=jE h1;obtain⟨k1,p2,rfl⟩:=i_ h2;obtain⟨p3,rfl⟩:=jE h3;obtain⟨k2,p4,rfl⟩:=i_ h4;exact⟨_,_,_,_,_,_,_,_,rfl,hz⟩
  ·cases h
 ·cases h
theorem Snd.e_succ(ih:Snd w g n)(hn:n<=100000){c:Cc}{E:XK}{X:Cx}(O:XO w g c E X){x:Expr}{ir:EV.E}(h:cE (n+1) c x=some ir):PE X x (tE w g c E ir):=by
 have h0:=h;unfold cE at h;split at h
 ·-- Name
  rename_i y p
  split at h
  ·rename_i i hl
   have:=kO (w:=w) (E:=E) (pos:=p) O hl;cases ho:c.own.contains y with
   |true=>rw[ho]at h this;cases h;exact this
   |false=>rw[ho]at h this;cases h;exact this
  ·split at h
   ·rename_i hg;cases h;exact yJ O hg
   ·rename_i fr hg;cases h;exact u9 O hg
   ·cases h
 ·split at h
  ·cases h;exact jt iQ λ_=>.int _
  ·cases h;exact jt nS λ_=>.bl _
  ·cases h;exact jt BJ λ_=>.non
  ·cases h;exact jt lQ λ_=>.str _
  ·cases h
 ·simp only[aH,aF]at h;obtain⟨o,ho,ia,h1,ib,h2,h⟩:=h;split at h
  ·rename_i ht
   cases h;simp only[oX,aJ,beq_iff_eq]at ht;rw[ht.1]at ho;exact CG (uJ ho) (ih.e O h1) (ih.e O h2)
  ·cases h;exact CT O ho (ih.e O h1) (ih.e O h2)
 ·rename_i op a p
  simp only[aH,aF]at h;obtain⟨ia,h1,h⟩:=h;cases op with
  |USub=>cases h;exact yI (ih.e O h1)
  |Invert=>cases h;exact AW (ih.e O h1)
  |Not=>cases h;exact B' (ih.e O h1)
  |UAdd=>cases h
 ·exact(ih.bo O h).1
 ·split at h
  ·simp only[aH,aF]at h;obtain⟨ia,h1,ib,h2,h⟩:=h;split at h
   ·rename_i hs;cases h;exact AA O (ih.e O h1) (ih.e O h2) hs
   ·cases h
  ·simp only[aH,aF]at h;obtain⟨ia,h1,ib,h2,id',h3,h⟩:=h;split at h
   ·rename_i hs
    simp only[aJ]at hs;cases h;exact AO O (ih.e O h1) (ih.e O h2) (ih.e O h3) hs.2
   ·cases h
  ·simp only[aH,aF]at h;obtain⟨ia,h1,ib,h2,id',h3,if',h4,h⟩:=h;split at h
   ·rename_i hs
    simp only[aJ]at hs;cases h;exact CK O (ih.e O h1) (ih.e O h2) (ih.e O h3) (ih.e O h4) hs.2
   ·cases h
  ·cases h
 ·split at h
  ·rename_i ks vs _ hk
   simp only[aJ,List.isEmpty_iff]at hk;obtain⟨rfl,rfl⟩:=hk;cases h;exact E8
  ·cases h
 ·split at h
  ·rename_i hf
   simp only[aH,aF]at h;obtain⟨ia,h1,ib,h2,h⟩:=h;cases h;obtain⟨k0,k1,k2,p0,p1,p2,p3,p4,rfl,hz⟩:=Br hf;exact yF hz (ih.e O h1) (ih.e O h2)
  ·split at h
   ·rename_i hf
    simp only[aH,aF]at h;obtain⟨ia,h1,ib,h2,h⟩:=h;cases h;obtain⟨k1,p1,p2,p3,rfl⟩:=Dl hf;exact DW (ih.e O h1) (ih.e O h2)
   ·cases h
 ·simp only[aH,aF]at h;obtain⟨it,h1,ia,h2,ib,h3,h⟩:=h;split at h
  ·rename_i hs
   simp only[aJ]at hs;cases h;exact D9 (ih.t O h1) (ih.e O h2) (ih.e O h3) hs.1 hs.2
  ·cases h
 ·simp only[aH,aF]at h;obtain⟨ies,h1,h⟩:=h;split at h
  ·rename_i hs;cases h
   exact E5 (ih.es O h1) hs λτ ds e=>by rw[ka h1 e];exact bf (jQ h1) hn
  ·cases h
 ·simp only[aH,aF]at h;obtain⟨ies,h1,h⟩:=h;split at h
  ·rename_i hs;cases h
   exact wq (ih.es O h1) hs λτ ds e=>by rw[ka h1 e];exact bf (jQ h1) hn
  ·cases h
 ·split at h
  ·rename_i lo hi st' sp
   split at h
   ·split at h
    ·rename_i hq
     simp only[aJ,Option.isNone_iff_eq_none]at hq;obtain⟨⟨rfl,rfl⟩,hq⟩:=hq;rw[br]at h;obtain⟨ia,h1,rfl⟩:=h;exact xf O (ih.e O h1) hq
    ·split at h
     ·rename_i hq
      obtain⟨hh,rfl,rfl,hz,hq⟩:=EC hq;rw[br]at h;obtain⟨ia,h1,rfl⟩:=h;exact xH O (ih.e O h1) hz hq
     ·cases h
   ·simp only[aH,aF]at h;obtain⟨ia,h1,il,h2,ih',h3,h⟩:=h;cases h;exact wN O (ih.e O h1) (ih.o O h2) (ih.o O h3)
  ·split at h
   ·cases h
   ·rename_i hs
    simp only[aH,aF]at h;obtain⟨ia,h1,ib,h2,h⟩:=h;cases h;exact vk O (ih.e O h1) (ih.e O h2) (by simpa using hs)
 ·-- ListComp
  rename_i elt gs sc p
  obtain⟨tgt,it,ifs,iit,itg,it',ie,rfl,hs,hk,h1,h2,h3,h4,he,rfl⟩:=pB h0;have hS:eB X (cb sc.names) (gD c sc.names) sc:=eB.of (by
   have e1:(λx=>c.nm.lookup x)=X.env.kindOf:=by funext x;show _=X.env.scope.names.lookup x;rw[O.nm]
   rw[<-e1,O.N];exact hk.1)
  refine BE O (O.calm hs.1) hS hk.2 (ih.i O h1 he.2) (λcl C s₀ H₀ fp=>?_) he.1 hs.2;have OY:=O.comp hS.kind hk.2 cl C s₀ H₀ fp;exact⟨jm OY h2,ih.ifs OY h3,ih.e OY h4⟩
 ·split at h
  ·split at h
   ·exact ih.call_name O h0
   ·split at h
    ·rename_i hm
     cases h;exact Ai O hm
    ·split at h
     ·split at h
      ·rename_i sep hx
       split at h
       ·rename_i hq
        simp only[aJ,beq_iff_eq,bG]at hq;obtain⟨⟨rfl,hst⟩,hln⟩:=hq;obtain⟨ia,h1,rfl⟩:=br.mp h;obtain⟨kk,pp,rfl⟩:=i_ hx;exact xP O (ih.e O h1) hst (beq_iff_eq.mpr hln)
       ·cases h
      ·split at h
       ·rename_i hm
        have hm:=eq_of_beq hm;subst hm;split at h
        ·cases h
        ·rename_i hc
         simp only[bV,bG,not_or,Bool.not_eq_true,Bool.not_eq_false]at hc;simp only[aH,aF]at h;obtain⟨io,h1,ia,h2,h⟩:=h;cases h;obtain⟨⟨c1,c2⟩,c4⟩:=hc;exact B_ c1 (ih.e O h1) (ih.e O h2) c2 c4
       ·split at h
        ·rename_i hm
         have hm:=eq_of_beq hm;subst hm;split at h
         ·cases h
         ·rename_i hc
          simp only[bV,bG,not_or,Bool.not_eq_true,Bool.not_eq_false]at hc;simp only[aH,aF]at h;obtain⟨io,h1,ia,h2,h⟩:=h;cases h;obtain⟨⟨c1,c2⟩,c4⟩:=hc;exact yY c1 (ih.e O h1) (ih.e O h2) c2 c4
        ·split at h
         ·cases h
         ·rename_i hc
          simp only[bV,bG,not_or,Bool.not_eq_true,Bool.not_eq_false]at hc;simp only[aH,aF]at h;obtain⟨io,h1,ia,h2,h⟩:=h;split at h
          ·cases h;obtain⟨⟨⟨c1,c2⟩,c3⟩,c4⟩:=hc;have c3:=eq_of_beq c3;subst c3;exact D_ O c1 (ih.e O h1) (ih.e O h2) c2 c4
          ·cases h
     ·cases h
   ·cases h
  ·cases h
 ·cases h
theorem yh:Snd w g 0:=⟨λ_ _ _ h=>(by cases h),λ_ _ _ _ _ h=>by simp[cBo]at h,λ_ _ _ h=>by simp[cO]at h,λ_ _ _ h=>by simp[cEs]at h,λ_ _ _ _ h=>by simp[cI]at h,λ_ _ _ h=>by simp[cT]at h,λ_ _ _ _ _ h=>by simp[cTs]at h,λ_ _ _ h=>by simp[fF]at h⟩
theorem snd:∀n,n<=100000->Snd w g n
 | 0,_=>yh
 |n+1,h=>
  have ih:=snd n (Nat.le_of_succ_le h)
  ⟨λO _ _ q=>ih.e_succ (Nat.le_of_succ_le h) O q,λO _ _ _ _ q=>ih.bo_succ O q,λO _ _ q=>ih.o_succ O q,λO _ _ q=>ih.es_succ O q,λO _ _ _ q t=>ih.i_succ O q t,λO _ _ q=>ih.t_succ O q,λO _ _ _ _ q=>ih.ts_succ O q,λO _ _ q=>ih.ifs_succ O q⟩
end
noncomputable def zI(c:Cc)(i:Nat):Prop:=∃x,c.N[i]? = some x/\c.own.contains x=true
structure SS(g:Gc)(c:Cc)(H0:Hp)(B:Sh)(τ:Env)(σ:L2.St)(H:Hp)(S:Sh):Prop where
 se:SE g c τ σ H S
 lenN:τ.length=c.N.length
 same:qh H0 H
 sub0:Sub B H0
 hd:∀a,S.h a=(B.h a||S.o a)
 new:∀a,S.o a=true->H0 a=none
 own:∀i d,zI c i->τ[i]? = some (some d)->∃a vs ds,σ[i]? = some (some (.ref a))/\S.o a=true/\d=.lst ds/\H a=some (.lst vs)/\qZ g (hid H S) ds vs
 inj:∀i j d e a,zI c i->zI c j->τ[i]? = some (some d)->τ[j]? = some (some e)->σ[i]? = some (some (.ref a))->σ[j]? = some (some (.ref a))->i=j
 frz:c.frz=true->(∀i,zI c i->σ[i]? = B.z[i]?)/\qh B.y H
section
variable{g:Gc}{c:Cc}{H0:Hp}{B:Sh}{τ:Env}{σ:L2.St}{H H':Hp}{S:Sh}
theorem SS.up(s:SS g c H0 B τ σ H S)(e:qh H H'):SS g c H0 B τ σ H' S:=
 ⟨s.se.up e,s.lenN,s.same.trans e,s.sub0,s.hd,s.new,λi d hi h=>let ⟨a,vs,ds,h1,h2,h3,h4,h5⟩:=s.own i d hi h;⟨a,vs,ds,h1,h2,h3,e _ _ h4,h5.mono (zq e)⟩,s.inj,λz=>⟨(s.frz z).1,(s.frz z).2.trans e⟩⟩
theorem SS.set{i:Nat}{d:D}{v:V}(s:SS g c H0 B τ σ H S)(hi:¬ zI c i)(r:Rep g (hid H S) d v):SS g c H0 B (τ.set i (some d)) (σ.set i (some v)) H S:=by
 refine⟨s.se.set r,by simp[s.lenN],s.same,s.sub0,s.hd,s.new,λj e hj h=>?_,λj k e f a hj hk h1 h2 h3 h4=>?_,λz=>⟨λj hj=>?_,(s.frz z).2⟩⟩
 ·have hij:i≠j:=λz=>hi (z▸hj)
  rw[List.getElem?_set_ne hij]at h ⊢;exact s.own j e hj h
 ·have hij:i≠j:=λz=>hi (z▸hj)
  have hik:i≠k:=λz=>hi (z▸hk)
  rw[List.getElem?_set_ne hij]at h1 h3;rw[List.getElem?_set_ne hik]at h2 h4;exact s.inj j k e f a hj hk h1 h2 h3 h4
 ·rw[List.getElem?_set_ne (λz:i=j=>hi (z▸hj))];exact(s.frz z).1 j hj
theorem SS.setAll{is:List Nat}:∀{ds:List D}{vs:List V}{τ τ':Env}{σ:L2.St}{Q:L2.St->Hp->Prop},SS g c H0 B τ σ H S->(∀i∈is,¬ zI c i)->qZ g (hid H S) ds vs->EV.setAll is ds τ=.ok τ'->(∀σ',SS g c H0 B τ' σ' H S->Q σ' H)->iJ is vs σ H Q:=by
 induction is with
 |nil=>
  intro ds vs τ τ' σ Q se _ r h k;cases r with
  |nil=>cases (show R.ok τ=R.ok τ' from h);exact⟨rfl,k σ se⟩
  |cons _ _=>cases (show R.no=R.ok τ' from h)
 |cons i is ih=>
  intro ds vs τ τ' σ Q se ho r h k;cases r with
  |nil=>cases (show R.no=R.ok τ' from h)
  |cons r rs=>exact⟨_,_,rfl,ih (se.set (ho i aO) r) (λj hj=>ho j (aK _ hj)) rs h k⟩
theorem xx{tg:Tg}(h:h_ c tg):match tg with | .nm i=>¬ zI c i | .tp is=>∀i∈is,¬ zI c i:=by
 cases tg with
 |nm i=>rintro⟨x,h1,h2⟩;rw[h x h1]at h2;cases h2
 |tp is=>rintro i hi ⟨x,h1,h2⟩;rw[h i hi x h1]at h2;cases h2
theorem SS.store{X:Cx}(O:X.K=g.K){tg:Tg}{d:D}{v:V}{τ':Env}{Q:L2.St->Hp->Prop}(s:SS g c H0 B τ σ H S)(hf:h_ c tg)(r:Rep g (hid H S) d v)(h:EV.store tg d τ=.ok τ')(k:∀σ',SS g c H0 B τ' σ' H S->Q σ' H):gT X.K tg v σ H Q:=by
 have ho:=xx hf;cases tg with
 |nm i=>
  simp only[EV.store,R.ok.injEq]at h;subst h;exact k _ (s.set ho r)
 |tp is=>
  cases d with
  |tup ds=>
   simp only[EV.store]at h;split at h
   ·rename_i hl
    cases r with
    |tup h1 r1=>exact⟨_,_,rfl,by rw[O];exact zB zF h1,by rw[<-r1.length];exact hl,s.setAll ho r1 h k⟩
   ·cases h
  |_=>simp[EV.store]at h
noncomputable def px(S:Sh)(a:Addr):Sh:=⟨λb=>S.o b||b==a,λb=>S.h b||b==a,S.z,S.y⟩
theorem SS.setOwn{i:Nat}{d:D}{v:V}(s:SS g c H0 B τ σ H S)(hz:c.frz=false)(hi:zI c i)(hlt:i<τ.length)(e:qh H H')(f:Fr g H S H' d v):∃S',SS g c H0 B (τ.set i (some d)) (σ.set i (some v)) H' S'/\qh (hid H S) (hid H' S'):=by
 obtain⟨a,vs,ds,rfl,rfl,h1,h2,h3⟩:=f;have up:qh (hid H S) (hid H' (px S a)):=λb o hb=>by
  obtain⟨z1,z2⟩:=b8.mp hb;refine b8.mpr ⟨?_,e _ _ z2⟩;show (S.h b||b==a)=false;rw[z1]
  simpa using λz:b=a=>by rw[z,h1]at z2;cases z2
 have hlt':i<σ.length:=by rw[<-s.se.len];exact hlt
 refine⟨px S a,⟨⟨by simp[s.se.len],λj e' hj=>?_,λb hb n=>?_⟩,by simp[s.lenN],s.same.trans e,s.sub0,λb=>?_,λb hb=>?_,λj e' hj h=>?_,λj k e1 e2 b hj hk q1 q2 q3 q4=>?_,λz=>by rw[hz]at z;cases z⟩,up⟩
 ·by_cases hij:i=j
  ·subst hij;simp[hlt]at hj;subst hj;refine⟨.ref a,by simp[hlt'],.inr ⟨a,vs,ds,by show (S.o a||a==a)=true;simp,rfl,rfl,h2,h3⟩,λx hx hn=>?_⟩;obtain⟨y,hy1,hy2⟩:=hi;rw[hy1]at hx;cases hx;rw[hn]at hy2;cases hy2
  ·rw[List.getElem?_set_ne hij]at hj ⊢;obtain⟨u,z1,z2,z3⟩:=s.se.val j e' hj;refine⟨u,z1,?_,λx hx hn=>(z3 x hx hn).mono up⟩;rcases z2 with z2|⟨a',vs',ds',y1,y2,y3,y4,y5⟩
   ·exact .inl (z2.mono up)
   ·exact .inr ⟨a',vs',ds',by show (S.o a'||a'==a)=true;rw[y1];rfl,y2,y3,e _ _ y4,y5.mono up⟩
 ·have hb:(S.h b||b==a)=true\/(S.o b||b==a)=true:=hb;by_cases hba:b=a
  ·rw[hba,h2]at n;cases n
  ·have:S.h b=true\/S.o b=true:=by
    rcases hb with z|z
    ·exact .inl (by simpa[hba]using z)
    ·exact .inr (by simpa[hba]using z)
   exact(s.se.sub.same e) b this n
 ·show (S.h b||b==a)=(B.h b||(S.o b||b==a))
  rw[s.hd b,Bool.or_assoc]
 ·have hb:(S.o b||b==a)=true:=hb;by_cases hba:b=a
  ·rw[hba];exact s.same.free h1
  ·exact s.new b (by simpa[hba]using hb)
 ·by_cases hij:i=j
  ·subst hij;simp[hlt]at h;subst h;exact⟨a,vs,ds,by simp[hlt'],by show (S.o a||a==a)=true;simp,rfl,h2,h3⟩
  ·rw[List.getElem?_set_ne hij]at h ⊢;obtain⟨a',vs',ds',y1,y2,y3,y4,y5⟩:=s.own j e' hj h;exact⟨a',vs',ds',y1,by show (S.o a'||a'==a)=true;rw[y2];rfl,y3,e _ _ y4,y5.mono up⟩
 ·have other:∀j e1 b,i≠j->zI c j->τ[j]? = some (some e1)->σ[j]? = some (some (.ref b))->b≠a:=λj e1 b hij hj q1 q3 z=>by
   obtain⟨a',vs',ds',y1,y2,y3,y4,y5⟩:=s.own j e1 hj q1;rw[q3]at y1;cases y1;rw[z,h1]at y4;cases y4
  by_cases hij:i=j
  ·by_cases hik:i=k
   ·rw[<-hij,<-hik]
   ·subst hij;rw[List.getElem?_set_ne hik]at q2 q4;have q3':b=a:=by
     have:(σ.set i (some (.ref a)))[i]? = some (some (.ref a)):=by simp[hlt']
     rw[this]at q3;cases q3;rfl
    exact absurd q3' (other k e2 b hik hk q2 q4)
  ·by_cases hik:i=k
   ·subst hik;rw[List.getElem?_set_ne hij]at q1 q3;have q4':b=a:=by
     have:(σ.set i (some (.ref a)))[i]? = some (some (.ref a)):=by simp[hlt']
     rw[this]at q4;cases q4;rfl
    exact absurd q4' (other j e1 b hij hj q1 q3)
   ·rw[List.getElem?_set_ne hij]at q1 q3;rw[List.getElem?_set_ne hik]at q2 q4;exact s.inj j k e1 e2 b hj hk q1 q2 q3 q4
theorem SS.change{i:Nat}{a:Addr}{d0:D}{vs:List V}{ds:List D}(s:SS g c H0 B τ σ H S)(hz:c.frz=false)(hi:zI c i)(h0:τ[i]? = some (some d0))(ha:σ[i]? = some (some (.ref a)))(r:qZ g (hid H S) ds vs):SS g c H0 B (τ.set i (some (.lst ds))) σ (upd H a (.lst vs)) S/\qh (hid H S) (hid (upd H a (.lst vs)) S):=by
 have hlt:i<τ.length:=(List.getElem?_eq_some_iff.mp h0).1;obtain⟨a',vs0,ds0,y1,y2,y3,y4,y5⟩:=s.own i d0 hi h0;rw[ha]at y1;cases y1;have hh:S.h a=true:=by rw[s.hd,y2,Bool.or_true]
 have he:hid (upd H a (.lst vs)) S=hid H S:=iC hh;have other:∀j e,i≠j->zI c j->τ[j]? = some (some e)->∀b,σ[j]? = some (some (.ref b))->b≠a:=λj e hij hj h b hb z=>by
  subst z;exact hij (s.inj i j d0 e b hi hj h0 h ha hb)
 refine⟨⟨⟨by simp[s.se.len],λj e hj=>?_,λb hb n=>?_⟩,by simp[s.lenN],λb o hb=>?_,s.sub0,s.hd,s.new,λj e hj h=>?_,λj k e1 e2 b hj hk q1 q2 q3 q4=>?_,λz=>by rw[hz]at z;cases z⟩,by rw[he];exact qh.refl _⟩
 ·by_cases hij:i=j
  ·subst hij;simp[hlt]at hj;subst hj;refine⟨.ref a,ha,.inr ⟨a,vs,ds,y2,rfl,rfl,zC,by rw[he];exact r⟩,λx hx hn=>?_⟩;obtain⟨y,hy1,hy2⟩:=hi;rw[hy1]at hx;cases hx;rw[hn]at hy2;cases hy2
  ·rw[List.getElem?_set_ne hij]at hj;obtain⟨u,z1,z2,z3⟩:=s.se.val j e hj;by_cases ho:zI c j
   ·obtain⟨b,ws,es,w1,w2,w3,w4,w5⟩:=s.own j e ho hj;rw[z1]at w1;cases w1;refine⟨_,z1,.inr ⟨b,ws,es,w2,rfl,w3,by rw[qq (other j e hij ho hj b z1)];exact w4,by rw[he];exact w5⟩,λx hx hn=>?_⟩;obtain⟨y,hy1,hy2⟩:=ho;rw[hy1]at hx;cases hx;rw[hn]at hy2;cases hy2
   ·have st:Rep g (hid H S) e u:=by
     cases q:c.N[j]? with
     |some x=>
      refine z3 x q ?_;cases q2:c.own.contains x with
      |false=>rfl
      |true=>exact absurd ⟨x,q,q2⟩ ho
     |none=>
      have h1:=(List.getElem?_eq_some_iff.mp hj).1;have h2:=List.getElem?_eq_none_iff.mp q;have h3:=s.lenN;lia
    exact⟨u,z1,.inl (by rw[he];exact st),λ_ _ _=>by rw[he];exact st⟩
 ·by_cases hba:b=a
  ·subst hba;rw[zC]at n;cases n
  ·rw[qq hba]at n;exact s.se.sub b hb n
 ·by_cases hba:b=a
  ·subst hba;rw[s.new b y2]at hb;cases hb
  ·rw[qq hba];exact s.same _ _ hb
 ·by_cases hij:i=j
  ·subst hij;simp[hlt]at h;subst h;exact⟨a,vs,ds,ha,y2,rfl,zC,by rw[he];exact r⟩
  ·rw[List.getElem?_set_ne hij]at h;obtain⟨b,ws,es,w1,w2,w3,w4,w5⟩:=s.own j e hj h;exact⟨b,ws,es,w1,w2,w3,by rw[qq (other j e hij hj h b w1)];exact w4,by rw[he];exact w5⟩
 ·have f:∀k e,(τ.set i (some (.lst ds)))[k]? = some (some e)->∃e',τ[k]? = some (some e'):=λk e h=>by
   by_cases hik:i=k
   ·subst hik;exact⟨d0,h0⟩
   ·rw[List.getElem?_set_ne hik]at h;exact⟨e,h⟩
  obtain⟨e1',q1'⟩:=f j e1 q1;obtain⟨e2',q2'⟩:=f k e2 q2;exact s.inj j k e1' e2' b hj hk q1' q2' q3 q4
end
noncomputable def b9(g:Gc)(c:Cc)(E:XK)(fr:Bool)(H0:Hp)(B:Sh)(H:Hp)(S:Sh)(D:Ends):O->Prop
 | .nx τ'=>∀σ' H' S',SS g c H0 B τ' σ' H' S'->qh (hid H S) (hid H' S')->D.nx σ' H'
 | .bk τ'=>∀σ' H' S',SS g c H0 B τ' σ' H' S'->qh (hid H S) (hid H' S')->D.bk σ' H'
 | .ct τ'=>∀σ' H' S',SS g c H0 B τ' σ' H' S'->qh (hid H S) (hid H' S')->D.ct σ' H'
 | .rt d=>∀v H',qh H0 H'->Rep g (hid H' B) d v->(fr=true->Fr g H0 B H' d v)->D.rt v H'
 | .ex k=>∀H' C,qh H0 H'->g.clA k=some C->E (.ref C) none H'
 | .no=>False
section
variable(w:W)(g:Gc)(c:Cc)(E:XK)(fr:Bool)
noncomputable def tS(s:EV.S):TS:=λD σ H=>∃H0 B τ S,SS g c H0 B τ σ H S/\b9 g c E fr H0 B H S D (evS w s τ)
noncomputable def tSs(s:Ss):TS:=λD σ H=>∃H0 B τ S,SS g c H0 B τ σ H S/\b9 g c E fr H0 B H S D (qf w s τ)
end
structure XS(w:W)(g:Gc)(c:Cc)(E:XK)(X:Cx):Prop extends XO w g c E X where
 thr:c.thr=true->Throws X E
 exc:∀x C,c.G.lookup x=some .exc->g.clA x=some C->kT g.K C
 cat:∀k x,w.cat k x=true->∀C D,g.clA k=some C->g.clA x=some D->cg g.K (.ref C) (.ref D)=some true
 frm:X.ex=[]/\X.stack=X.env::X.outer/\X.env.frame=some X.env.locals
 gh:∀x k,c.GH.lookup x=some k->k≠.exc/\∀v,GM w g X.prog X.w X.mg X.base (X.A.mark v) false x k
section
variable{w:W}{g:Gc}{c:Cc}{E:XK}{fr:Bool}{X:Cx}{H0:Hp}{B:Sh}{τ:Env}{σ:L2.St}{H H':Hp}{S:Sh}{Ed:Ends}
theorem b9.up{o:O}{S':Sh}(h:b9 g c E fr H0 B H S Ed o)(e:qh (hid H S) (hid H' S')):b9 g c E fr H0 B H' S' Ed o:=by
 cases o with
 |nx t=>exact λσ' H2 S2 s e2=>h σ' H2 S2 s (e.trans e2)
 |bk t=>exact λσ' H2 S2 s e2=>h σ' H2 S2 s (e.trans e2)
 |ct t=>exact λσ' H2 S2 s e2=>h σ' H2 S2 s (e.trans e2)
 |rt d=>exact h
 |ex k=>exact h
 |no=>exact h
theorem s_e{e:EV.E}{f:D->O}{Q:VK}(ss:SS g c H0 B τ σ H S)(h:b9 g c E fr H0 B H S Ed ((evE w e τ).out f))(k:∀d v H',evE w e τ=.ok d->bp g c e S H d v H'->b9 g c E fr H0 B H S Ed (f d)->Q v H'):tE w g c E e σ H Q:=by
 refine⟨τ,S,ss.se,?_⟩;cases q:evE w e τ with
 |ok d=>rw[q]at h;exact λv H' p=>k d v H' q p h
 |ex x=>rw[q]at h;exact λH' C s hc=>h H' C (ss.same.trans s) hc
 |no=>rw[q]at h;exact h
theorem s_t{t:T}{f:Bool->O}{Q:Bool->Hp->Prop}(ss:SS g c H0 B τ σ H S)(h:b9 g c E fr H0 B H S Ed ((evT w t τ).out f))(k:∀b H',evT w t τ=.ok b->qh H H'->b9 g c E fr H0 B H S Ed (f b)->Q b H'):tT w g c E t σ H Q:=by
 refine⟨τ,S,ss.se,?_⟩;cases q:evT w t τ with
 |ok d=>rw[q]at h;exact λH' p=>k d H' q p h
 |ex x=>rw[q]at h;exact λH' C s hc=>h H' C (ss.same.trans s) hc
 |no=>rw[q]at h;exact h
theorem s_a{es:Es}{f:List D->O}{Q:List V->Hp->Prop}(ss:SS g c H0 B τ σ H S)(h:b9 g c E fr H0 B H S Ed ((zw w es τ).out f))(k:∀ds vs H',zw w es τ=.ok ds->qh H H'->fm g H' S ds vs->b9 g c E fr H0 B H S Ed (f ds)->Q vs H'):tA w g c E es σ H Q:=by
 refine⟨τ,S,ss.se,?_⟩;cases q:zw w es τ with
 |ok d=>rw[q]at h;exact λvs H' p r _=>k d vs H' q p r h
 |ex x=>rw[q]at h;exact λH' C s hc=>h H' C (ss.same.trans s) hc
 |no=>rw[q]at h;exact h
theorem nj(ss:SS g c H0 B τ σ H S){b:Addr}(h:S.h b=false):B.h b=false:=by
 have:=ss.hd b;rw[h]at this;cases q:B.h b with
 |false=>rfl
 |true=>rw[q]at this;cases this
theorem Ez(ss:SS g c H0 B τ σ H S):qh (hid H' S) (hid H' B):=λb o h=>by
 obtain⟨z1,z2⟩:=b8.mp h;exact b8.mpr ⟨nj ss z1,z2⟩
theorem nv:∀{is:List Nat}{ds:List EV.D}{τ:Env}{x:Str},setAll is ds τ≠.ex x
 | [],[],_,_,h=>by cases h
 | [],_::_,_,_,h=>by cases h
 |_::_,[],_,_,h=>by cases h
 |i::is,d::ds,τ,x,h=>by simp only[setAll]at h;exact nv h
theorem DZ{pos:Pos}:PS X (.Pass pos) (tS w g c E fr .pass):=PS.imp AV λD σ H ⟨H0,B,τ,S,ss,h⟩=>h σ H S ss (qh.refl _)
theorem yH{pos:Pos}:PS X (.Break pos) (tS w g c E fr .brk):=PS.imp CN λD σ H ⟨H0,B,τ,S,ss,h⟩=>h σ H S ss (qh.refl _)
theorem Aq{pos:Pos}:PS X (.Continue pos) (tS w g c E fr .cnt):=PS.imp Fu λD σ H ⟨H0,B,τ,S,ss,h⟩=>h σ H S ss (qh.refl _)
theorem kg{e:Expr}{t:Option Expr}{l:Nat}{env:PySem.Env}(h:fC e=false):swapsWith e t l env=pure false:=by
 cases e<;>first|rfl|(simp[fC]at h)
theorem vS{e:Expr}{ie:EV.E}{pos:Pos}(he:PE X e (tE w g c E ie))(hc:fC e=false):PS X (.Expr e pos) (tS w g c E fr (.exp ie)):=
 PS.imp (mR he (kg hc)) λD σ H ⟨H0,B,τ,S,ss,h⟩=>by
  simp only[zN,cD,dq,cQ,zJ,cJ,cC,cA,de,cK,zV,dr,dh,cX,dk,dv,cY,du]at h;exact s_e ss h λd v H' _ p k=>k σ H' S (ss.up p.same) (zq p.same)
theorem wF{pos:Pos}(hf:fr=false):PS X (.Return none pos) (tS w g c E fr .retN):=PS.imp CQ λD σ H ⟨H0,B,τ,S,ss,h⟩=>h _ _ ss.same .non (by rw[hf];intro z;cases z)
theorem kL(ss:SS g c H0 B τ σ H S){a:Addr}{vs:List V}{ds:List EV.D}(h1:H0 a=none)(h2:H' a=some (.lst vs))(h3:qZ g (hid H' (cG S a)) ds vs):Rep g (hid H' B) (.lst ds) (.ref a)/\Fr g H0 B H' (.lst ds) (.ref a):=by
 have up:qh (hid H' (cG S a)) (hid H' (cG B a)):=λb o hb=>by
  obtain⟨z1,z2⟩:=b8.mp hb;refine b8.mpr ⟨?_,z2⟩;have z1:(S.h b||b==a)=false:=z1;simp only[Bool.or_eq_false_iff]at z1;show (B.h b||b==a)=false;rw[nj ss z1.1,z1.2];rfl
 exact⟨.lst (SqL.of (b8.mpr ⟨ss.sub0.free h1,h2⟩)) (h3.mono (up.trans tF)),⟨a,vs,ds,rfl,rfl,h1,h2,h3.mono up⟩⟩
theorem nL(ss:SS g c H0 B τ σ H S){a:Addr}{vs:List V}{ds:List EV.D}(y1:S.o a=true)(y3:qZ g (hid H' S) ds vs):qZ g (hid H' (cG S a)) ds vs:=y3.mono λb o hb=>by
 have hh:S.h a=true:=by rw[ss.hd,y1,Bool.or_true]
 obtain⟨z1,z2⟩:=b8.mp hb;refine b8.mpr ⟨?_,z2⟩;show (S.h b||b==a)=false;rw[z1]
 simpa using λz:b=a=>by rw[z,hh]at z1;cases z1
theorem sE{e:Expr}{ie:EV.E}{pos:Pos}(he:PE X e (tE w g c E ie))(hf:fr=true->fresh c ie=true):PS X (.Return (some e) pos) (tS w g c E fr (.ret ie)):=
 PS.imp (pI he) λD σ H ⟨H0,B,τ,S,ss,h⟩=>by
  simp only[zN,cD,dq,cQ,zJ,cJ,cC,cA,de,cK,zV,dr,dh,cX,dk,dv,cY,du]at h;refine s_e ss h λd v H' _ p k=>?_
  have k:∀v H',qh H0 H'->Rep g (hid H' B) d v->(fr=true->Fr g H0 B H' d v)->D.rt v H':=k;have s1:=ss.up p.same;by_cases hz:fr=true
  ·obtain⟨a,vs,ds,rfl,rfl,h1,h2,h3⟩:=p.fr (hf hz);obtain⟨r1,r2⟩:=kL (H':=H') ss (ss.same.free h1) h2 h3;exact k _ H' s1.same r1 λ_=>r2
  ·rcases p.rb with r|⟨a,vs,ds,y1,rfl,rfl,y2,y3⟩
   ·exact k v H' s1.same (r.mono (Ez ss)) λz=>absurd z hz
   ·obtain⟨r1,r2⟩:=kL (H':=H') ss (ss.new a y1) y2 (nL ss y1 y3);exact k _ H' s1.same r1 λ_=>r2
theorem D8(O:XO w g c E X){x:Str}{i:Nat}{p pos:Pos}(h:loc c x=some i)(ho:c.own.contains x=true):PS X (.Return (some (.Name x p)) pos) (tS w g c E fr (.ret (.own i))):=by
 obtain⟨h1,h2,h3,h4⟩:=fA h;refine PS.imp (pI (jR (i:=i) (by rw[O.N];exact h1) (by unfold gH;rw[O.nm];exact h2) h3 h4)) λD σ H ⟨H0,B,τ,S,ss,h⟩=>?_
 simp only[zN,cD,dq,cQ,zJ,cJ,cC,cA,de,cK,zV,dr,dh,cX,dk,dv,cY,du,za,ze,qY,zj,zf,zb,zm,zk,zg,qE,qC,qy,qI,qG,qz,qt,qD,qk,qx,qp,qX,qi,qK,qU,qH,qw,qQ,qW,qO,qS,qV,qR,qP,qN,qF,qA,qr,qT,qM,qJ,qL,qB,bX]at h;cases q:τ[i]? with
 |none=>rw[q]at h;exact h.elim
 |some o=>
  cases o with
  |none=>rw[q]at h;exact h.elim
  |some d=>
   rw[q]at h;obtain⟨a,vs,ds,z1,y1,rfl,y2,y3⟩:=ss.own i d ⟨x,h1,ho⟩ q;obtain⟨r1,r2⟩:=kL (H':=H) ss (ss.new a y1) y2 (nL ss y1 y3);exact⟨_,z1,h _ H ss.same r1 λ_=>r2⟩
theorem kU{e:Expr}{ie:EV.E}{i:Nat}{st:Stmt}{te:TE}(hp:PS X st (ju te (fJ i)))(hr:∀σ H Q,tE w g c E ie σ H Q->te σ H Q)(hlt:i<c.N.length)(hk:(zI c i/\fresh c ie=true/\c.frz=false)\/(¬ zI c i/\esc ie=true)):PS X st (tS w g c E fr (.set (.nm i) ie)):=
 PS.imp hp λD σ H ⟨H0,B,τ,S,ss,h⟩=>by
  simp only[zN,cD,dq,cQ,zJ,cJ,cC,cA,de,cK,zV,dr,dh,cX,dk,dv,cY,du,store]at h;refine hr σ H _ (s_e ss h λd v H' _ p k=>?_);have k:∀σ' H2 S2,SS g c H0 B (τ.set i (some d)) σ' H2 S2->qh (hid H S) (hid H2 S2)->D.nx σ' H2:=k;rcases hk with ⟨ho,hf,hfz⟩|⟨ho,he⟩
  ·obtain⟨S',s1,s2⟩:=ss.setOwn hfz ho (by rw[ss.lenN];exact hlt) p.same (p.fr hf);exact k _ _ S' s1 s2
  ·exact k _ _ S ((ss.up p.same).set ho (p.st he)) (zq p.same)
theorem xZ(O:XO w g c E X){tg e:Expr}{itg:Tg}{ie:EV.E}{pos:Pos}(he:PE X e (tE w g c E ie))(hg:PG X tg (gT X.K itg))(hf:h_ c itg)(hes:esc ie=true)(hs:swapsWithSole [tg] e pos.line X.env=pure false)(hw:swappedStores [tg] e X.env=pure none)(h1:(assignEach [tg] X.env).map (·.2)=[assign tg X.env]) :
  PS X (.Assign [tg] e pos) (tS w g c E fr (.set itg ie)):=
 PS.imp (tN he hg hs hw h1) λD σ H ⟨H0,B,τ,S,ss,h⟩=>by
  simp only[zN,cD,dq,cQ,zJ,cJ,cC,cA,de,cK,zV,dr,dh,cX,dk,dv,cY,du]at h;refine s_e ss h λd v H' _ p k=>?_
  cases q:store itg d τ with
  |ok τ'=>
   rw[q]at k;exact(ss.up p.same).store O.K hf (p.st hes) q λσ' s1=>k σ' H' S s1 (zq p.same)
  |ex z=>cases itg<;>simp only[store]at q<;>first|cases q|(split at q<;>first|cases q|(split at q<;>first|(exact absurd q (nv))|cases q))
  |no=>rw[q]at k;exact k.elim
end
section
variable{w:W}{g:Gc}{c:Cc}{E:XK}{fr:Bool}{X:Cx}{H0:Hp}{B:Sh}{τ:Env}{σ:L2.St}{H H':Hp}{S:Sh}{Ed:Ends}
theorem rT{i:Nat}{d:EV.D}(h:bX τ i=.ok d):τ[i]? = some (some d):=by
 unfold bX at h;split at h
 ·rename_i q;cases h;exact q
 ·cases h
theorem yV(O:XO w g c E X)(hfz:c.frz=false){x:Str}{i:Nat}{a:Expr}{ia:EV.E}{p ap cp pos:Pos}(h:loc c x=some i)(ho:c.own.contains x=true)(ha:PE X a (tE w g c E ia))(hes:esc ia=true)(hs:isStar a=false)(hl:(ap.endLine==cp.line)=true) :
  PS X (.Expr (.Call (.Attribute (.Name x p) "append" ap) [a] [] cp) pos) (tS w g c E fr (.app i ia)):=by
 obtain⟨h1,h2,h3,h4⟩:=fA h;have hv:PE X (.Name x p) (iB i):=jR (i:=i) (by rw[O.N];exact h1) (by unfold gH;rw[O.nm];exact h2) h3 h4;have hst:=qu (es:=[]) (env:=X.env) hs;have hb:=gQ (X:=X) (apos:=ap) (cpos:=cp) PySem.F.plainAttrs_list PySem.F.slot_list_append PySem.F.type_list_append p5 hv (zA ha cM hst) rfl (by rw[hst];rfl) hl hst rfl;refine PS.imp (mR hb rfl) λD σ H ⟨H0,B,τ,S,ss,k⟩=>?_
 simp only[zN,cD,dq,cQ,zJ,cJ,cC,cA,de,cK,zV,dr,dh,cX,dk,dv,cY,du]at k;cases q:bX τ i with
 |ex z=>unfold bX at q;split at q<;>cases q
 |no=>rw[q]at k;exact k.elim
 |ok d0=>
  rw[q]at k;have q':=rT q;have hi:zI c i:=⟨x,h1,ho⟩
  obtain⟨ad,vs,ds,z1,y1,rfl,y2,y3⟩:=ss.own i d0 hi q';refine⟨_,z1,.inl ⟨rfl,vs,SqL.of y2⟩,s_e ss k λd v H1 _ p1 k1=>?_⟩;simp only at k1;by_cases hz:ds.length<SZ
  ·rw[if_pos hz]at k1;have s1:=ss.up p1.same;have y2':=p1.same _ _ y2;obtain⟨s2,s3⟩:=s1.change (vs:=vs++[v]) (ds:=ds++[d]) hfz hi q' z1 ((y3.mono (zq p1.same)).append (.cons (p1.st hes) .nil));exact⟨ad,vs,v,rfl,rfl,y2',by rw[<-y3.length,bA];unfold SZ at hz;lia,k1 _ _ S s2 ((zq p1.same).trans s3)⟩
  ·rw[if_neg hz]at k1;exact k1.elim
theorem Er(O:XO w g c E X)(hfz:c.frz=false){x:Str}{i:Nat}{k e:Expr}{ik ie:EV.E}{p sp pos:Pos}(h:loc c x=some i)(ho:c.own.contains x=true)(hk:PE X k (tE w g c E ik))(he:PE X e (tE w g c E ie))(hes:esc ie=true)(hsl:isSlice k=false)(hc:fC e=false) :
  PS X (.Assign [.Subscript (.Name x p) k sp] e pos) (tS w g c E fr (.seti i ik ie)):=by
 obtain⟨h1,h2,h3,h4⟩:=fA h;have hv:PE X (.Name x p) (iB i):=jR (i:=i) (by rw[O.N];exact h1) (by unfold gH;rw[O.nm];exact h2) h3 h4;have hg:PG X (.Subscript (.Name x p) k sp) (pf (iB i) (tE w g c E ik) rN):=yq hv hk set_list (by intro v;cases k<;>first|rfl|(simp[isSlice]at hsl));refine PS.imp (tN he hg (by simp only[swapsWithSole];exact kg hc) rfl rfl) λD σ H ⟨H0,B,τ,S,ss,k⟩=>?_
 simp only[zN,cD,dq,cQ,zJ,cJ,cC,cA,de,cK,zV,dr,dh,cX,dk,dv,cY,du]at k;refine s_e ss k λd v H1 _ p1 k1=>?_
 cases q:bX τ i with
 |ex z=>unfold bX at q;split at q<;>cases q
 |no=>rw[q]at k1;exact k1.elim
 |ok d0=>
  rw[q]at k1;have q':=rT q;have hi:zI c i:=⟨x,h1,ho⟩
  have s1:=ss.up p1.same;obtain⟨ad,vs,ds,z1,y1,rfl,y2,y3⟩:=s1.own i d0 hi q';refine⟨_,z1,s_e s1 (b9.up k1 (zq p1.same)) λn vn H2 _ p2 k2=>?_⟩;cases n with
  |int j=>
   simp only at k2;cases qj:ixN ds.length j with
   |none=>rw[qj]at k2;exact k2.elim
   |some m=>
    rw[qj]at k2;have s2:=s1.up p2.same;have y2':=p2.same _ _ y2;obtain⟨s3,s4⟩:=s2.change (vs:=vs.set m v) (ds:=ds.set m d) hfz hi q' z1 ((y3.mono (zq p2.same)).set ((p1.st hes).mono (zq p2.same)) m);exact⟨ad,vs,j,m,rfl,p2.rb.int,y2',by rw[<-y3.length];exact qj,k2 _ _ S s3 ((zq p2.same).trans s4)⟩
  |_=>exact k2.elim
theorem E2:PSs X [] (tSs w g c E fr .nil):=PSs.imp EK λD σ H ⟨H0,B,τ,S,ss,h⟩=>by
 simp only[qf]at h;exact h σ H S ss (qh.refl _)
theorem mT{s:Stmt}{r:List Stmt}{is:EV.S}{ir:Ss}(h1:PS X s (tS w g c E fr is))(h2:PSs X r (tSs w g c E fr ir)):PSs X (s::r) (tSs w g c E fr (.cons is ir)):=
 PSs.imp (Fy h1 h2) λD σ H ⟨H0,B,τ,S,ss,h⟩=>by
  simp only[qf]at h;refine⟨H0,B,τ,S,ss,?_⟩;cases q:evS w is τ with
  |nx τ'=>rw[q]at h;exact λσ' H' S' s' e=>⟨H0,B,τ',S',s',b9.up h e⟩
  |bk τ'=>rw[q]at h;exact h
  |ct τ'=>rw[q]at h;exact h
  |rt d=>rw[q]at h;exact h
  |ex k=>rw[q]at h;exact h
  |no=>rw[q]at h;exact h
theorem vi{t:Expr}{a b:List Stmt}{it:T}{ia ib:Ss}{pos:Pos}(ht:PT X t (tT w g c E it))(ha:PSs X a (tSs w g c E fr ia))(hb:PSs X b (tSs w g c E fr ib)):PS X (.If t a b pos) (tS w g c E fr (.ite it ia ib)):=
 PS.imp (vY ht ha hb) λD σ H ⟨H0,B,τ,S,ss,h⟩=>by
  simp only[zN,cD,dq,cQ,zJ,cJ,cC,cA,de,cK,zV,dr,dh,cX,dk,dv,cY,du]at h;refine s_t ss h λz H1 _ s1 k1=>?_
  cases z with
  |true=>exact⟨H0,B,τ,S,ss.up s1,b9.up k1 (zq s1)⟩
  |false=>exact⟨H0,B,τ,S,ss.up s1,b9.up k1 (zq s1)⟩
theorem PS.nox'{st:Stmt}{t:TS}(h:PS X.nox st t):PS X st t:=λpins s σ H D I hw=>
 bT (h pins s σ H D (I.wish _) hw) (λ_ _ q=>q.unwish) λ_ _ z=>a9 z
theorem XO.nox(O:XO w g c E X):XO w g c E0 X.nox:=⟨O.K,O.nm,O.N,O.nd,O.calm,O.units,O.fn,O.kind,kA rfl rfl,O.gok,O.fns,O.sub⟩
theorem XS.nox(O:XS w g c E X):XS w g c E0 X.nox:=⟨O.toXO.nox,λ_ _ _ _ _ _ _ _ _ _ _ z=>a9 z,O.exc,O.cat,O.frm,O.gh⟩
theorem AH{o:O}(h:b9 g c E fr H0 B H S Ed o.noEx):b9 g c E0 fr H0 B H S Ed o/\(∀k,o≠.ex k)/\o≠.no:=by
 cases o with
 |ex k=>exact h.elim
 |no=>exact h.elim
 |nx t=>exact⟨h,(λ_ z=>by cases z),(λz=>by cases z)⟩
 |bk t=>exact⟨h,(λ_ z=>by cases z),(λz=>by cases z)⟩
 |ct t=>exact⟨h,(λ_ z=>by cases z),(λz=>by cases z)⟩
 |rt t=>exact⟨h,(λ_ z=>by cases z),(λz=>by cases z)⟩
noncomputable def frozen(c:Cc)(b:Bool):Cc:={c with frz:=c.frz||b}
theorem XS.froze(O:XS w g c E X){b:Bool}:XS w g (frozen c b) E X:=
 ⟨⟨O.K,O.nm,O.N,O.nd,O.calm,O.units,O.fn,O.kind,O.pass,O.gok,O.fns,O.sub⟩,O.thr,O.exc,O.cat,O.frm,O.gh⟩
noncomputable def eV(B:Sh)(b:Bool)(σ:L2.St)(H:Hp):Sh:=if b=true then ⟨B.o,B.h,σ,H⟩else B
theorem mf{b:Bool}:(eV B b σ H).h=B.h:=by unfold eV;split<;>rfl
theorem D0{b:Bool}{H1:Hp}:hid H1 (eV B b σ H)=hid H1 B:=by funext a;unfold hid;rw[mf]
theorem SS.froze(b:Bool)(ss:SS g c H0 B τ σ H S):SS g (frozen c b) H0 (eV B b σ H) τ σ H S:=by
 refine⟨⟨ss.se.len,ss.se.val,ss.se.sub⟩,ss.lenN,ss.same,?_,?_,ss.new,ss.own,ss.inj,λz=>?_⟩
 ·unfold eV;split
  ·exact ss.sub0
  ·exact ss.sub0
 ·rw[mf];exact ss.hd
 ·cases b with
  |true=>exact⟨λi _=>rfl,qh.refl _⟩
  |false=>
   have z:(c.frz||false)=true:=z;rw[Bool.or_false]at z;exact ss.frz z
theorem SS.thaw{b:Bool}{σ1:L2.St}{H1:Hp}{τ1:Env}{S1:Sh}(s0:SS g c H0 B τ1 σ1 H1 S1)(ss:SS g (frozen c b) H0 (eV B b σ1 H1) τ σ H S):SS g c H0 B τ σ H S:=by
 refine⟨⟨ss.se.len,ss.se.val,ss.se.sub⟩,ss.lenN,ss.same,s0.sub0,?_,ss.new,ss.own,ss.inj,λz=>?_⟩
 ·have:=ss.hd;rw[mf]at this;exact this
 ·have f:=ss.frz (by show (c.frz||b)=true;rw[z];rfl);cases b with
  |true=>exact⟨λi hi=>(f.1 i hi).trans ((s0.frz z).1 i hi),(s0.frz z).2.trans f.2⟩
  |false=>exact f
theorem SS.iced{b:Bool}{σ1:L2.St}{H1:Hp}(hb:b=true)(ss:SS g (frozen c b) H0 (eV B b σ1 H1) τ σ H S):qh H1 H:=by
 subst hb;exact(ss.frz (by show (c.frz||true)=true;rw[Bool.or_true])).2
theorem yK(O:XO w g c E X)(hc:X.calm=true){tg it:Expr}{b:List Stmt}{itg:Tg}{iit:It}{ib:Ss}{pos:Pos}(hi:PI X.nox tg it (tIt w g c E0 iit))(hg:PG X.nox tg (gT X.K itg))(hf:h_ c itg)(hb:PSs X.nox b (tSs w g (frozen c (owned iit)) E0 fr ib))(hs:zz it=true) :
  PS X (.For tg it b [] pos) (tS w g c E fr (.for itg iit ib)):=by
 refine PS.nox' (PS.imp (wR (X:=X.nox) PassesOwn.never hc hi hg hb (λx=>by cases it<;>first|rfl|(simp[zz]at hs))) λD σ H ⟨H0,B,τ,S,ss,h⟩=>?_);simp only[zN,cD,dq,cQ,zJ,cJ,cC,cA,de,cK,zV,dr,dh,cX,dk,dv,cY,du]at h;obtain⟨h,nex,nno⟩:=AH h;cases q:evI w iit τ with
 |ex z=>rw[q]at nex;exact absurd rfl (nex z)
 |no=>rw[q]at nno;exact absurd rfl nno
 |ok ds=>
  rw[q]at h nex nno;simp only[R.out_ok]at h nex nno;refine⟨τ,S,ss.se,?_⟩;rw[q];intro J H1 s1 kW kS;generalize hr:cV itg (λσ=>qf w ib σ) ds τ=r at h nex nno;refine⟨λi m σ' H'=>m=ds.length-i/\i<=ds.length/\∃τ' S',SS g (frozen c (owned iit)) H0 (eV B (owned iit) σ H1) τ' σ' H' S'/\qh (hid H1 S) (hid H' S')/\cV itg (λσ=>qf w ib σ) (ds.drop i) τ'=r,⟨ds.length,rfl,bu _,τ,S,(ss.up s1).froze _,qh.refl _,hr⟩,?_⟩;rintro i m σ' H' ⟨rfl,hi',τ',S',ss',e',hl⟩;have gg:Goes g J ds H' S':=by
   cases hw:owned iit with
   |false=>exact kS hw H' S' e' ss'.se.sub
   |true=>exact kW H' S' (ss'.iced hw) e' ss'.se.sub
  obtain⟨g1,g2⟩:=gg;have eH:qh (hid H S) (hid H' S'):=(zq s1).trans e';by_cases hlt:i<ds.length
  ·have hd:ds[i]? = some ds[i]:=List.getElem?_eq_getElem hlt;obtain⟨go1,go2⟩:=g2 i ds[i] hd;refine .inr ⟨go1,λσ2 H2=>∃τ' S',SS g (frozen c (owned iit)) H0 (eV B (owned iit) σ H1) τ' σ2 H2 S'/\qh (hid H1 S) (hid H2 S')/\cV itg (λσ=>qf w ib σ) (ds.drop (i+1)) τ'=r,λσ2 H2 z=>⟨ds.length-(i+1),by lia,rfl,hlt,z⟩,λx H2 hy=>?_⟩;obtain⟨s2,rx⟩:=go2 x H2 hy;rw[List.drop_eq_getElem_cons hlt]at hl;simp only[cV]at hl;cases q1:store itg ds[i] τ' with
   |ex z=>rw[q1]at hl;exact absurd hl.symm (nex z)
   |no=>rw[q1]at hl;exact absurd hl.symm nno
   |ok τ1=>
    rw[q1]at hl;simp only[R.out_ok]at hl;refine(ss'.up s2).store O.K hf rx q1 λσ1 ss1=>⟨H0,_,τ1,S',ss1,?_⟩
    cases q2:qf w ib τ1 with
    |nx τ2=>rw[q2]at hl;exact λσ2 H3 S3 s3 e3=>⟨τ2,S3,s3,(e'.trans (zq s2)).trans e3,hl⟩
    |ct τ2=>rw[q2]at hl;exact λσ2 H3 S3 s3 e3=>⟨τ2,S3,s3,(e'.trans (zq s2)).trans e3,hl⟩
    |bk τ2=>
     rw[q2]at hl;simp only at hl;rw[<-hl]at h;exact λσ2 H3 S3 s3 e3=>h σ2 H3 S3 ((ss.up s1).thaw s3) ((eH.trans (zq s2)).trans e3)
    |rt d=>
     rw[q2]at hl;simp only at hl;rw[<-hl]at h;refine λv H3 s3 r3 f3=>h v H3 s3 (by rw[D0]at r3;exact r3) λz=>?_
     have f3:=f3 z;unfold eV at f3;split at f3
     ·exact f3
     ·exact f3
    |ex z=>rw[q2]at hl;exact absurd hl.symm (nex z)
    |no=>rw[q2]at hl;exact absurd hl.symm nno
  ·have e:i=ds.length:=by lia
   subst e;rw[List.drop_length]at hl;simp only[cV]at hl;rw[<-hl]at h;exact .inl ⟨g1 ds.length (aE _),h σ' H' S' ((ss.up s1).thaw ss') eH⟩
theorem AK{t:Expr}{b:List Stmt}{it:T}{ib:Ss}{pos:Pos}(ht:PT X.nox t (tT w g c E0 it))(hb:PSs X.nox b (tSs w g c E0 fr ib)):PS X (.While t b [] pos) (tS w g c E fr (.while it ib)):=λpins s σ H D I ⟨H0,B,τ,S,ss,h⟩=>by
 simp only[zN,cD,dq,cQ,zJ,cJ,cC,cA,de,cK,zV,dr,dh,cX,dk,dv,cY,du]at h;exact a9 h
theorem x9(O:XS w g c E X)(hc:X.calm=true)(ht:c.thr=true){x:Str}{a:Expr}{as:List Expr}{ies:Es}{np cp pos:Pos}{n:Nat}(h:glob c x=some .exc)(ha:PA X (a::as) (tA w g c E ies))(hes:cEs n c (a::as)=some ies)(hn:(a::as).length<=100000) :
  PS X (.Raise (some (.Call (.Name x np) (a::as) [] cp)) none pos) (tS w g c E fr (.raise x ies)):=by
 obtain⟨C,h1,h2⟩:=O.gm h;have hs:=fK hes;refine PS.imp (wc hc (O.thr ht) (by rw[O.K];exact O.exc x C (zr h).2.1 h2) (O.gl h) h1 ha (zr h).2.2.1 (qu (hs a aO)) (jT λz hz=>hs z (aK _ hz))) λD σ H ⟨H0,B,τ,S,ss,k⟩=>?_
 simp only[zN,cD,dq,cQ,zJ,cJ,cC,cA,de,cK,zV,dr,dh,cX,dk,dv,cY,du]at k;refine s_a ss k λds vs H1 e1 s1 r k1=>⟨?_,k1 H1 C (ss.same.trans s1) h2⟩
 have:vs.length=ds.length:=(Paired.length r).symm;rw[this,ka hes e1];exact lK hn
end
section
variable{w:W}{g:Gc}{c:Cc}{E:XK}{fr:Bool}{X:Cx}{H0:Hp}{B:Sh}{τ:Env}{σ:L2.St}{H H':Hp}{S:Sh}{Ed:Ends}
theorem A8{s:Stmt}:PS X s (tS w g c E fr .unk):=λpins s σ H D I ⟨H0,B,τ,S,ss,h⟩=>by
 simp only[zN,cD,dq,cQ,zJ,cJ,cC,cA,de,cK,zV,dr,dh,cX,dk,dv,cY,du]at h;exact h.elim
theorem Ff(O:XO w g c E X)(hfz:c.frz=false){x:Str}{i:Nat}{k a:Expr}{ik ia:EV.E}{p ap cp pos:Pos}(h:loc c x=some i)(ho:c.own.contains x=true)(hk:PE X k (tE w g c E ik))(ha:PE X a (tE w g c E ia))(hes:esc ia=true)(hsk:isStar k=false)(hs:isStar a=false)(hl:(ap.endLine==cp.line)=true) :
  PS X (.Expr (.Call (.Attribute (.Name x p) "insert" ap) [k,a] [] cp) pos) (tS w g c E fr (.ins i ik ia)):=λpins s σ H D I ⟨H0,B,τ,S,ss,h⟩=>by
 simp only[zN,cD,dq,cQ,zJ,cJ,cC,cA,de,cK,zV,dr,dh,cX,dk,dv,cY,du]at h;exact a9 h
theorem SS.cong{c':Cc}(hN:c'.N=c.N)(ho:c'.own=c.own)(hz:c'.frz=c.frz)(s:SS g c H0 B τ σ H S):SS g c' H0 B τ σ H S:=by
 cases c;cases c';simp only at hN ho hz;subst hN ho hz;exact⟨⟨s.se.len,s.se.val,s.se.sub⟩,s.lenN,s.same,s.sub0,s.hd,s.new,s.own,s.inj,s.frz⟩
theorem pN{i:Option Nat}{k:Str}:(cL τ i k).length=τ.length:=by
 cases i<;>simp[cL]
theorem SS.hand{σ':L2.St}{k:Str}{i:Option Nat}(ss:SS g c H0 B τ σ H S)(hz:c.frz=false)(he:c.own=[])(hs:qh H0 H')(hl:σ'.length=c.N.length)(hv:∀(j:Nat) (d:EV.D),(cL τ i k)[j]? = some (some d)->∃v,σ'[j]? = some (some v)/\Rep g (hid H' B) d v) :
  SS g (gF c) H0 B (cL τ i k) σ' H' ⟨λ_=>false,B.h,B.z,B.y⟩:=by
 have hh:hid H' ⟨λ_=>false,B.h,B.z,B.y⟩=hid H' B:=rfl;have no:∀j,¬ zI (gF c) j:=λj ⟨x,_,h2⟩=>by
  have h2:c.own.contains x=true:=h2;rw[he]at h2;cases h2
 refine⟨⟨by rw[pN,ss.lenN,hl],λj d h=>?_,λa ha=>?_⟩,by rw[pN];exact ss.lenN,hs,ss.sub0,(λa=>by simp),(λa ha=>by cases ha),λj d hj=>(no j hj).elim,λj _ d _ a hj=>(no j hj).elim,(λz=>by have z:c.frz=true:=z;rw[hz]at z;cases z)⟩
 ·obtain⟨v,h1,h2⟩:=hv j d h;exact⟨v,h1,.inl h2,λ_ _ _=>h2⟩
 ·refine(ss.sub0.same hs) a ?_;rcases ha with ha|ha
  ·exact .inl ha
  ·cases ha
noncomputable def EhT(w:W)(g:Gc)(b:Ss)(τ:Env)(H0:Hp):XK:=λcls o H'=>∃k C,cls=.ref C/\o=none/\g.clA k=some C/\qf w b τ=.ex k/\qh H0 H'
theorem nT{ib:Ss}{x:Str}{i:Option Nat}{ih:Ss}{c':Cc}(hN:c'.N=c.N)(ho:c'.own=c.own)(hz:c'.frz=c.frz)(h:b9 g c E fr H0 B H S Ed (evS w (.try ib x i ih) τ)):b9 g c' (EhT w g ib τ H0) fr H0 B H S Ed (qf w ib τ):=by
 simp only[zN,cD,dq,cQ,zJ,cJ,cC,cA,de,cK,zV,dr,dh,cX,dk,dv,cY,du]at h;have c1:∀{τ':Env}{σ':L2.St}{H':Hp}{S':Sh},SS g c' H0 B τ' σ' H' S'->SS g c H0 B τ' σ' H' S':=λs=>s.cong hN.symm ho.symm hz.symm
 cases q:qf w ib τ with
 |nx τ'=>rw[q]at h;exact λσ' H' S' s e=>h σ' H' S' (c1 s) e
 |bk τ'=>rw[q]at h;exact λσ' H' S' s e=>h σ' H' S' (c1 s) e
 |ct τ'=>rw[q]at h;exact λσ' H' S' s e=>h σ' H' S' (c1 s) e
 |rt d=>rw[q]at h;exact h
 |ex k=>exact λH' C s hc=>⟨k,C,rfl,rfl,hc,q,s⟩
 |no=>rw[q]at h;exact h
theorem r_{ib ih:Ss}{x:Str}{i:Option Nat}{k:Str}(h:b9 g c E false H0 B H S Ed (evS w (.try ib x i ih) τ))(q:qf w ib τ=.ex k):w.cat k x=true/\∃d,qf w ih (cL τ i k)=.rt d/\∀v H',qh H0 H'->Rep g (hid H' B) d v->Ed.rt v H':=by
 simp only[zN,cD,dq,cQ,zJ,cJ,cC,cA,de,cK,zV,dr,dh,cX,dk,dv,cY,du]at h;rw[q]at h;simp only at h;split at h
 ·rename_i hc
  refine⟨hc,?_⟩;cases z:qf w ih (cL τ i k)with
  |rt d=>rw[z]at h;exact⟨d,rfl,λv H' s r=>h v H' s r (by intro y;cases y)⟩
  |nx _=>rw[z]at h;exact h.elim
  |bk _=>rw[z]at h;exact h.elim
  |ct _=>rw[z]at h;exact h.elim
  |ex _=>rw[z]at h;exact h.elim
  |no=>rw[z]at h;exact h.elim
 ·exact h.elim
theorem XS.inTry(O:XS w g c E X){Eh:XK}{pn:List (Addr×Obj)}{Et:ae->af->Prop}(hp:Passes (CX1 X.prog X.w) (X.inTry pn Et) Eh):XS w g {c with thr:=false} Eh (X.inTry pn Et):=
 ⟨⟨O.K,O.nm,O.N,O.nd,O.calm,O.units,O.fn,O.kind,hp,O.gok,O.fns,O.sub⟩,(λz=>by cases z),O.exc,O.cat,O.frm,O.gh⟩
theorem XS.held(O:XS w g c E X)(x:Addr):XS w g (gF c) E0 (X.held x):=
 ⟨⟨O.K,O.nm,O.N,O.nd,(λz=>by cases z),O.units,O.fn,O.kind,kA rfl rfl,(λy k z=>(O.gh y k z).2 _),(λz=>by cases z),O.sub⟩,(λz=>by cases z),(λy C z _=>absurd rfl (O.gh y .exc z).1),O.cat,O.frm,(λy k z=>by cases z)⟩
theorem uw(O:XS w g c E X){x:Str}{b:List Stmt}{b₀:Stmt}{suite:List Stmt}{ib ih:Ss}{np hpos pos:Pos}(hfz:c.frz=false)(he:c.own=[])(hg:glob c x=some .exc\/glob c x=some .exk)
  (hb:∀(Eh:XK) pn Et,XS w g {c with thr:=false} Eh (X.inTry pn Et)->PSs (X.inTry pn Et) b (tSs w g {c with thr:=false} Eh false ib)) (hs:∀y,PSs (X.held y) (b₀::suite) (tSs w g (gF c) E0 false ih)) :
  PS X (.Try b [.ExceptHandler (some (.Name x np)) none (b₀::suite) hpos] [] [] pos) (tS w g c E false (.try ib x none ih)):=by
 have hG:∃C,X.mg x=some (.ref C)/\g.clA x=some C/\Gl X x/\(x==("__debug__" : Str))=false:=by
  rcases hg with h|h
  ·obtain⟨C,h1,h2⟩:=O.gm h;exact⟨C,h1,h2,O.gl h,(zr h).2.2.1⟩
  ·obtain⟨C,h1,h2⟩:=O.gm h;exact⟨C,h1,h2,O.gl h,(zr h).2.2.1⟩
 obtain⟨C,hm,hc,hgl,hd⟩:=hG;intro pins s σ H D I ⟨H0,B,τ,S,ss,h⟩;refine vI (Eh:=EhT w g ib τ H0) O.frm.1 O.frm.2.1 O.frm.2.2 hgl hm (λpn Et hp=>hb _ pn Et (O.inTry hp)) hs hd pins s σ H D I ⟨⟨H0,B,τ,S,SS.cong (c:=c) rfl rfl rfl ss,nT (c:=c) rfl rfl rfl h⟩,λσ' cls H' hl hE=>?_⟩;obtain⟨k,C',rfl,_,hk,q,sm⟩:=hE;obtain⟨z1,d,z2,z3⟩:=r_ h q;refine⟨by rw[O.K];exact O.cat k x z1 C' C hk hc,H0,B,cL τ none k,⟨λ_=>false,B.h,B.z,B.y⟩,ss.hand hfz he sm (by rw[hl,O.N]) (λj d hj=>?_),?_⟩
 ·simp only[cL,List.getElem?_map]at hj;cases z:τ[j]? with
  |none=>rw[z]at hj;cases hj
  |some o=>rw[z]at hj;cases hj
 ·rw[z2];exact λv H'' s' r _=>z3 v H'' s' r
theorem ux(O:XS w g c E X){x n:Str}{i:Nat}{b:List Stmt}{b₀:Stmt}{suite:List Stmt}{ib ih:Ss}{np hpos pos:Pos}(hfz:c.frz=false)(he:c.own=[])(hg:glob c x=some .exc\/glob c x=some .exk)(hi:c.N[i]? = some n)(hn:c.nm.lookup n=some .local)
  (hb:∀(Eh:XK) pn Et,XS w g {c with thr:=false} Eh (X.inTry pn Et)->PSs (X.inTry pn Et) b (tSs w g {c with thr:=false} Eh false ib)) (hs:∀y,PSs (X.held y) (b₀::suite) (tSs w g (gF c) E0 false ih)) :
  PS X (.Try b [.ExceptHandler (some (.Name x np)) (some n) (b₀::suite) hpos] [] [] pos) (tS w g c E false (.try ib x (some i) ih)):=by
 have hG:∃C,X.mg x=some (.ref C)/\g.clA x=some C/\Gl X x/\(x==("__debug__" : Str))=false:=by
  rcases hg with h|h
  ·obtain⟨C,h1,h2⟩:=O.gm h;exact⟨C,h1,h2,O.gl h,(zr h).2.2.1⟩
  ·obtain⟨C,h1,h2⟩:=O.gm h;exact⟨C,h1,h2,O.gl h,(zr h).2.2.1⟩
 obtain⟨C,hm,hc,hgl,hd⟩:=hG;intro pins s σ H D I ⟨H0,B,τ,S,ss,h⟩;have hlt:i<c.N.length:=(List.getElem?_eq_some_iff.mp hi).1;refine Ew (Eh:=EhT w g ib τ H0) (i:=i) O.frm.1 O.frm.2.1 O.frm.2.2 (by rw[O.N];exact O.nd) (by rw[O.N];exact hi) (by rw[O.nm];exact hn) hgl hm (λpn Et hp=>hb _ pn Et (O.inTry hp)) hs hd pins s σ H D I ⟨⟨H0,B,τ,S,SS.cong (c:=c) rfl rfl rfl ss,nT (c:=c) rfl rfl rfl h⟩,λσ' cls H' x' hl hE hx=>?_⟩;obtain⟨k,C',rfl,_,hk,q,sm⟩:=hE;obtain⟨z1,d,z2,z3⟩:=r_ h q;have s2:qh H' (upd H' x' (gM x' (.ref C'))):=zx hx;refine⟨by rw[O.K];exact O.cat k x z1 C' C hk hc,H0,B,cL τ (some i) k,⟨λ_=>false,B.h,B.z,B.y⟩,ss.hand hfz he (sm.trans s2) (by rw[List.length_set,hl,O.N]) (λj d hj=>?_),?_⟩
 ·simp only[cL]at hj;have hi':i<σ'.length:=by rw[hl,O.N];exact hlt
  by_cases hij:i=j
  ·subst hij;have hlt':i<(τ.map λ_=>(none:Option EV.D)).length:=by rw[aQ,ss.lenN];exact hlt
   rw[List.getElem?_set_self hlt']at hj;cases hj;refine⟨.ref x',by rw[List.getElem?_set_self hi'],.exn hk (b8.mpr ⟨ss.sub0.free (sm.free hx),zC⟩)⟩
  ·rw[List.getElem?_set_ne hij,List.getElem?_map]at hj;cases z:τ[j]? with
   |none=>rw[z]at hj;cases hj
   |some o=>rw[z]at hj;cases hj
 ·rw[z2];exact λv H'' s' r _=>z3 v H'' s' r
end
theorem E6{e:Expr}{x:Str}{ap cp:Pos}{k a:Expr}(h:pk e=some (x,ap,k,a,cp)):∃p,e=.Call (.Attribute (.Name x p) "insert" ap) [k,a] [] cp:=by cases h
theorem xR{ts:List Expr}{k:Nat}{p:Pos}{e:Expr}{env:PySem.Env}(h:isTup e=true->lW e=true):swappedStores [.Tuple ts k p] e env=pure none:=by
 cases e<;>first|rfl|skip
 rename_i vs k2 p2
 have h:vs.all (foldedForSure 8)=true:=h rfl;unfold swappedStores;simp only[h,if_true];split
 ·rfl
 ·split
  ·rfl
  ·split
   ·rfl
   ·rfl
section
variable{w:W}{g:Gc}{c:Cc}{E:XK}{fr:Bool}{X:Cx}
theorem y_(O:XO w g c E X){n:Nat}(hn:n<=100000){x:Str}{i:Nat}{elt:Expr}{gs:List cy}{sc:aY}{p p' pos:Pos}{ie:EV.E}(hl:dM c x=some i)(h:cE n c (.ListComp elt gs sc p)=some ie)(htw:lB (.ListComp elt gs sc p)=false)(hk:(zI c i/\fresh c ie=true/\c.frz=false)\/(¬ zI c i/\esc ie=true)) :
  PS X (.Assign [.Name x p'] (.ListComp elt gs sc p) pos) (tS w g c E fr (.set (.nm i) ie)):=by
 obtain⟨l1,l2⟩:=fI hl;obtain⟨l3,_⟩:=fA l1;have hlt:i<c.N.length:=(List.getElem?_eq_some_iff.mp l3).1;have hN:X.N.Nodup:=by rw[O.N];exact O.nd
 have hix:X.N[i]? = some x:=by rw[O.N];exact l3
 have hx:L2.Loc X.env.scope x:=by unfold L2.Loc;rw[O.nm];rcases l2 with z|z;exact .inl z;exact .inr z.1
 have hf:X.fn x=true\/X.env.scope.names.lookup x=some .local:=by
  rcases l2 with z|z
  ·exact .inr (by rw[O.nm];exact z)
  ·exact .inl (O.fn x z.2)
 cases hb:(X.env.blockKind==.function&&X.env.kindOf x==some .local&&p'.line==p.line && !(sc.names.any λ(n,k)=>n==x&&(k==.local||k==.cell)))with
 |false=>
  have hs:swapsWith (.ListComp elt gs sc p) (some (.Name x p')) pos.line X.env=pure false:=by rw[<-hb];rfl
  exact kU (e:=.ListComp elt gs sc p) (pJ hN hix hx ((snd n hn).e O h) hs hf) (λ_ _ _ z=>z) hlt hk
 |true=>
  have hs:swapsWith (.ListComp elt gs sc p) (some (.Name x p')) pos.line X.env=pure true:=by rw[<-hb];rfl
  match n,h with
  | 0,h=>cases h
  |m+1,h=>
   have ih:=snd (w:=w) (g:=g) m (Nat.le_of_succ_le hn);obtain⟨tgt,it,ifs,iit,itg,it',ie',rfl,hs1,hk1,h1,h2,h3,h4,he,rfl⟩:=pB h;have hS:eB X (cb sc.names) (gD c sc.names) sc:=eB.of (by
    have e1:(λx=>c.nm.lookup x)=X.env.kindOf:=by funext x;show _=X.env.scope.names.lookup x;rw[O.nm]
    rw[<-e1,O.N];exact hk1.1)
   refine kU (e:=.ListComp elt [⟨tgt,it,ifs,0⟩] sc p) (x_ (tb:=λacc=>jN acc (tE w g (dQ c sc) E0 ie')) hN hix hx (O.calm hs1.1) hS (ih.i O h1 he.2) (λcl C s₀ H₀ fp=>?_) (by simp) hs hf (λx=>by
    have q:=hs1.2;cases it<;>first|rfl|cases q)) (λσ H Q q=>tJ O hS he.1 q) hlt hk
   have OY:=O.comp hS.kind hk1.2 cl C s₀ H₀ fp;exact⟨jm OY h2,ih.ifs OY h3,λacc=>nk rfl (ih.e OY h4)⟩
end
structure iL(w:W)(g:Gc)(n:Nat):Prop where
 s:∀{c:Cc}{E:XK}{X:Cx} (O:XS w g c E X) {fr:Bool}{x:Stmt}{ir:EV.S},cS n c fr x=some ir->PS X x (tS w g c E fr ir)
 ss:∀{c:Cc}{E:XK}{X:Cx} (O:XS w g c E X) {fr:Bool}{x:List Stmt}{ir:Ss},cSs n c fr x=some ir->PSs X x (tSs w g c E fr ir)
section
variable{w:W}{g:Gc}{n:Nat}
theorem iL.ss_succ(ih:iL w g n){c:Cc}{E:XK}{X:Cx}(O:XS w g c E X){fr:Bool}{x:List Stmt}{ir:Ss}(h:cSs (n+1) c fr x=some ir):PSs X x (tSs w g c E fr ir):=by
 match x with
 | []=>simp only[cSs,bY]at h;subst h;exact E2
 |s::r=>
  simp only[cSs,aH,aF]at h;obtain⟨ir',h2,h⟩:=h;cases h;cases h1:cS n c fr s with
  |none=>exact mT A8 (ih.ss O h2)
  |some is=>exact mT (ih.s O h1) (ih.ss O h2)
theorem yn{c:Cc}{x:Str}{i:Nat}(h:c.N[i]? = some x):zI c i↔c.own.contains x=true:=⟨λ⟨y,h1,h2⟩=>by rw[h]at h1;cases h1;exact h2,λh2=>⟨x,h,h2⟩⟩
theorem CM{e:Expr}{x m:Str}{ap cp:Pos}{a:Expr}(h:lz e=some (x,m,ap,a,cp)):∃p,e=.Call (.Attribute (.Name x p) m ap) [a] [] cp:=by
 unfold lz at h;split at h
 ·split at h
  ·split at h
   ·split at h
    ·split at h
     ·rename_i hk;cases h;rw[List.isEmpty_iff]at hk;subst hk;exact⟨_,rfl⟩
     ·cases h
    ·cases h
   ·cases h
  ·cases h
 ·cases h
theorem w8{e:Expr}{x:Str}{a:Expr}{as:List Expr}(h:raiseOf e=some (x,a,as)):∃p q,e=.Call (.Name x p) (a::as) [] q:=by
 unfold raiseOf at h;split at h
 ·split at h
  ·split at h
   ·split at h
    ·rename_i hk;cases h;rw[List.isEmpty_iff]at hk;subst hk;exact⟨_,_,rfl⟩
    ·cases h
   ·cases h
  ·cases h
 ·cases h
theorem iL.s_succ(ih:iL w g n)(hn:n<=100000){c:Cc}{E:XK}{X:Cx}(O:XS w g c E X){fr:Bool}{x:Stmt}{ir:EV.S}(h:cS (n+1) c fr x=some ir):PS X x (tS w g c E fr ir):=by
 have K:=snd (w:=w) (g:=g) n hn;unfold cS at h;split at h
 ·rename_i ts0 e pos
  split at h
  ·rename_i t0
   split at h
   ·-- x = e
    rename_i y p
    split at h
    ·cases h
    rename_i htw
    have htw:lB e=false:=by simpa using htw
    simp only[aH,aF]at h;obtain⟨i,hl,ie,h1,h⟩:=h;obtain⟨l1,l2⟩:=fI hl;obtain⟨l3,_⟩:=fA l1;have ho:=yn l3;have hk:((zI c i/\fresh c ie=true/\c.frz=false)\/(¬ zI c i/\esc ie=true))/\ir=.set (.nm i) ie:=by
     split at h
     ·rename_i hy
      split at h
      ·rename_i hf;cases h;exact⟨.inl ⟨ho.mpr hy,by simpa using hf⟩,rfl⟩
      ·cases h
     ·rename_i hy
      split at h
      ·rename_i hf;cases h;exact⟨.inr ⟨λz=>hy (ho.mp z),hf⟩,rfl⟩
      ·cases h
    obtain⟨hk,rfl⟩:=hk;cases hc:fC e with
    |false=>
     refine kU (e:=e) (pJ (i:=i) (by rw[O.N];exact O.nd) (by rw[O.N];exact l3) (by unfold L2.Loc;rw[O.nm];rcases l2 with z|z;exact .inl z;exact .inr z.1) (K.e O.toXO h1) (kg hc) ?_) (λ_ _ _ z=>z) (List.getElem?_eq_some_iff.mp l3).1 hk;rcases l2 with z|z
     ·exact .inr (by rw[O.nm];exact z)
     ·exact .inl (O.fn y z.2)
    |true=>
     cases e with
     |ListComp elt gs sc p=>exact y_ O.toXO hn hl h1 htw hk
     |SetComp elt gs sc p=>match n,h1 with
      | 0,h1=>cases h1
      |m+1,h1=>cases h1
     |DictComp a b gs sc p=>match n,h1 with
      | 0,h1=>cases h1
      |m+1,h1=>cases h1
     |_=>cases hc
   ·-- (a, b) = e
    rename_i ts k p
    simp only[aH,aF]at h;obtain⟨tg,h1,ie,h2,h⟩:=h;split at h
    ·cases h
    ·rename_i hc
     have hc:((isTup e=true->lW e=true)/\fC e=false)/\esc ie=true:=by simpa using hc
     cases h;refine xZ O.toXO (K.e O.toXO h2) (jm O.toXO h1) (o4 h1) hc.2 (by simp only[swapsWithSole];exact kg hc.1.2) ?_ rfl;exact xR hc.1.1
   ·-- x[k] = e
    split at h
    ·simp only[aH,aF]at h;obtain⟨i,hl,ie,h1,ik,h2,h⟩:=h;split at h
     ·rename_i hc
      simp only[aJ,bG]at hc;cases h;exact Er O.toXO hc.2 (fI hl).1 hc.1.1.1.1 (K.e O.toXO h2) (K.e O.toXO h1) hc.1.1.1.2 hc.1.1.2 hc.1.2
     ·cases h
    ·cases h
   ·cases h
  ·cases h
 ·split at h
  ·-- x.insert(k, a)
   rename_i he
   obtain⟨p,rfl⟩:=E6 he;simp only[aH,aF]at h;obtain⟨i,hl,ik,h0,ia,h1,h⟩:=h;split at h
   ·rename_i hc
    simp only[aJ,bG,beq_iff_eq]at hc;cases h;obtain⟨⟨⟨⟨⟨c2,c3⟩,c4⟩,c5⟩,c6⟩,c7⟩:=hc;exact Ff O.toXO c7 (fI hl).1 c2 (K.e O.toXO h0) (K.e O.toXO h1) c3 c4 c5 (by simpa using c6)
   ·cases h
  split at h
  ·-- x.append(a)
   rename_i he
   obtain⟨p,rfl⟩:=CM he;simp only[aH,aF]at h;obtain⟨i,hl,ia,h1,h⟩:=h;split at h
   ·rename_i hc
    simp only[aJ,bG,beq_iff_eq]at hc;cases h;obtain⟨⟨⟨⟨⟨rfl,c2⟩,c3⟩,c4⟩,c5⟩,c6⟩:=hc;exact yV O.toXO c6 (fI hl).1 c2 (K.e O.toXO h1) c3 c4 (by simpa using c5)
   ·cases h
  ·split at h
   ·cases h
   ·rename_i hc
    simp only[aH,aF]at h;obtain⟨ie,h1,h⟩:=h;cases h;exact vS (K.e O.toXO h1) (by simpa using hc)
 ·split at h
  ·-- return e
   rename_i e
   simp only[aH,aF]at h;obtain⟨ie,h1,h⟩:=h;split at h
   ·rename_i hf
    split at h
    ·rename_i y p
     split at h
     ·rename_i ho
      simp only[br]at h;obtain⟨i,hl,rfl⟩:=h;exact D8 O.toXO hl ho
     ·cases h
    ·split at h
     ·rename_i hfr
      cases h;exact sE (K.e O.toXO h1) λ_=>hfr
     ·cases h
   ·rename_i hf
    cases h;exact sE (K.e O.toXO h1) λz=>absurd z hf
  ·split at h
   ·cases h
   ·rename_i hf
    cases h;exact wF (by simpa using hf)
 ·simp only[aH,aF]at h;obtain⟨it,h1,ia,h2,ib,h3,h⟩:=h;cases h;exact vi (K.t O.toXO h1) (ih.ss O h2) (ih.ss O h3)
 ·split at h
  ·cases h
  ·rename_i tg0 it0 b0 els0 pos0 hc
   have hc:(els0=[]/\c.calm=true)/\zz it0=true:=by simpa using hc
   obtain⟨⟨rfl,hc1⟩,hc2⟩:=hc;simp only[aH,aF]at h;obtain⟨tg,h1,it,h2,h⟩:=h;split at h
   ·cases h
   ·rename_i ho
    have ho:h9 it tg0=true:=by simpa using ho
    simp only[aF]at h;obtain⟨ib,h3,h⟩:=h;cases h;exact yK O.toXO (O.calm hc1) (K.i O.toXO.nox h2 ho) (jm O.toXO.nox h1) (o4 h1) (ih.ss O.nox.froze h3) hc2
 ·split at h
  ·cases h
  ·rename_i els0 _ hc
   have hc:els0=[]/\c.calm=true:=by simpa using hc
   obtain⟨rfl,hc⟩:=hc;simp only[aH,aF]at h;obtain⟨it,h1,ib,h2,h⟩:=h;cases h;exact AK (K.t O.toXO.nox h1) (ih.ss O.nox h2)
 ·split at h
  ·split at h
   ·rename_i hr
    obtain⟨p0,q0,rfl⟩:=w8 hr;split at h
    ·cases h
    ·rename_i hc
     simp only[bV,bG,not_or,Bool.not_eq_false,Option.isNone_iff_eq_none]at hc;obtain⟨⟨rfl,hc1⟩,hc2⟩:=hc;split at h
     ·rename_i hg
      simp only[aH,aF]at h;obtain⟨ies,h1,h⟩:=h;cases h;exact x9 O (O.calm hc1) hc2 hg (K.es O.toXO h1) h1 (bf (jQ h1) hn)
     ·cases h
   ·cases h
  ·cases h
 ·-- try
  split at h
  ·split at h
   ·rename_i b0 els0 fin0 pos0 hs0 y0 h0 hp0 ty0 x0 np0
    split at h
    ·cases h
    ·rename_i hc
     have hc:(((((((els0=[]/\fin0=[])/\c.calm=true)/\c.fnc=true)/\fr=false)/\h0≠[])/\c.own=[])/\c.frz=false):=by simpa using hc
     obtain⟨⟨⟨⟨⟨⟨⟨rfl,rfl⟩,hc1⟩,hc2⟩,rfl⟩,hc3⟩,hc4⟩,hc5⟩:=hc;simp only[aH,aF]at h;obtain⟨ib,h1,ihd,h2,h⟩:=h;split at h
     ·cases h
     ·rename_i hg
      have hg:glob c x0=some .exc\/glob c x0=some .exk:=by
       by_cases z:glob c x0=some .exc
       ·exact .inl z
       ·exact .inr (by simpa[z]using hg)
      match h0,hc3,h2 with
      | [],hc3,_=>exact absurd rfl hc3
      |b₀::suite,_,h2=>
       split at h
       ·cases h;exact uw O hc5 hc4 hg (λEh pn Et O'=>ih.ss O' h1) (λy=>ih.ss (O.held y) h2)
       ·simp only[aF]at h;obtain⟨i,hl,h⟩:=h;split at h
        ·rename_i hn
         cases h;exact ux O hc5 hc4 hg (fA (fI hl).1).1 (by simpa using hn) (λEh pn Et O'=>ih.ss O' h1) (λy=>ih.ss (O.held y) h2)
        ·cases h
   ·cases h
  ·cases h
 ·cases h;exact DZ
 ·cases h;exact yH
 ·cases h;exact Aq
 ·cases h
theorem mY:∀n,n<=100000->iL w g n
 | 0,_=>⟨λ_ _ _ _ h=>(by cases h),λ_ _ _ _ h=>by simp[cSs]at h⟩
 |n+1,h=>
  have ih:=mY n (Nat.le_of_succ_le h)
  ⟨λO _ _ _ q=>ih.s_succ (Nat.le_of_succ_le h) O q,λO _ _ _ q=>ih.ss_succ O q⟩
end
section
variable{w:W}{g:Gc}{c:Cc}{E:XK}{fr:Bool}{X:Cx}{H0:Hp}{B:Sh}{τ:Env}{σ:L2.St}{H H':Hp}{S:Sh}{n:Nat}
noncomputable def lI(g:Gc)(E:XK)(fr:Bool)(H0:Hp)(B:Sh)(D:Ends):O->Prop
 | .nx _=>∀σ' H',qh H0 H'->D.nx σ' H'
 | .rt d=>∀v H',qh H0 H'->Rep g (hid H' B) d v->(fr=true->Fr g H0 B H' d v)->D.rt v H'
 | .ex k=>∀H' C,qh H0 H'->g.clA k=some C->E (.ref C) none H'
 |_=>False
theorem lI.out{D:Ends}{o:O}(h:lI g E fr H0 B D o):b9 g c E fr H0 B H S D o:=by
 cases o with
 |nx t=>exact λσ' H' S' ss _=>h σ' H' ss.same
 |rt d=>exact h
 |ex k=>exact h
 |bk t=>exact h.elim
 |ct t=>exact h.elim
 |no=>exact h.elim
noncomputable def CH(w:W)(g:Gc)(c:Cc)(E:XK)(fr:Bool)(s:Ss):TS:=λD σ H=>∃H0 B τ S,SS g c H0 B τ σ H S/\lI g E fr H0 B D (qf w s τ)
theorem Cm(hn:n<=100000)(O:XS w g c E X){x:List Stmt}{ir:Ss}(h:gY n c fr x=some ir):PSs X x (CH w g c E fr ir):=
 PSs.imp ((mY n hn).ss O h) λD σ H ⟨H0,B,τ,S,ss,z⟩=>⟨H0,B,τ,S,ss,z.out⟩
end
noncomputable def GM0(p:Pr)(g:Gc)(mg:Str->Option ae)(x:Str):GK->Prop
 | .fn _=>∃f,g.fnA x=some f
 | .val=>∃u v d,mg x=some u/\RelV v u/\p.glb x=some d/\∀H,Rep g H d v
 | .bi b=>mg x=none/\x=b1N b/\∃id,b1V b=.builtin id
 | .rng=>mg x=none/\x = "range"
 | .enum=>mg x=none/\x = "enumerate"
 | .zip=>mg x=none/\x = "zip"
 | .isi=>mg x=none/\x = "isinstance"
 | .ty n b=>mg x=none/\bO x=some (.type n)/\(n∈["int","bool","str","list","tuple"]\/n = "ValueError")/\∀b',b=some b'->x=b1N b'/\b1V b'=.type n
 | .exc=>∃C,mg x=some (.ref C)/\g.clA x=some C/\kT g.K C
 | .exk=>∃C,mg x=some (.ref C)/\g.clA x=some C
 | .set=>mg x=none/\bO x=some (.type "set")
structure Ground(p:Pr)(g:Gc)(G GH GU:List (Str×GK))(mg:Str->Option ae):Prop where
 fn:∀x f,g.fnA x=some f->∃st own fr fd fnn,p.fns x=some fnn/\cFn G GH own fr st=some fnn/\Fun g.K x x st f fd/\Binds g.K fd (argNames (zd st)) []/\cx g.K (.ref f)=true/\mg x=some (.ref f)/\G.lookup x=some (.fn fr)
 gl:∀x k,G.lookup x=some k->GM0 p g mg x k
 gu:∀x k,GU.lookup x=some k->(∀fr,k≠.fn fr)/\k≠.exc/\GM0 p g mg x k
 gh:∀x k,GH.lookup x=some k->GU.lookup x=some k\/∃fr f st own fd fnn,k=.fn fr/\g.fnA x=some f/\p.fns x=some fnn/\hZ GU own fr st=some fnn/\Fun g.K x x st f fd/\Binds g.K fd (argNames (zd st)) []/\cx g.K (.ref f)=true/\mg x=some (.ref f)
 sub:∀k cl b,p.sub k cl=some b->∃C cv,g.clA k=some C/\dI g.K C/\bz g.K (.ref C) cv=some b/\match cl with
  | .ty n=>n = "ValueError"/\cv=.type n
  | .ex x=>∃D,g.clA x=some D/\cv=.ref D
 cat:∀k x,p.cat k x=true->∀C D,g.clA k=some C->g.clA x=some D->cg g.K (.ref C) (.ref D)=some true
abbrev wAt(p:Pr)(k:Nat):W:=⟨qa p k,p.glb,p.sub,p.cat⟩
theorem nV{N ps:List Str}{sc:aY}(h:gU N ps sc=true):fX N ps sc:=by
 unfold gU at h;simp only[aJ,beq_iff_eq,bG,decide_eq_true_eq,bL,bV,bne_iff_ne,ne_eq]at h;obtain⟨⟨⟨⟨⟨⟨h1,h2⟩,h3⟩,h4⟩,h5⟩,h6⟩,h7⟩:=h;exact⟨h1,h2,h3,h4,h5,h6,h7⟩
theorem By{G GH:List (Str×GK)}{own:List Str}{fr:Bool}{st:Stmt}{fnn:Fn}(h:cFn G GH own fr st=some fnn):gU (eO (zd st) (zc st)) (argNames (zd st)) (zc st)=true/\(argNames (zd st)).any own.contains=false /\
  ∃b,gY iE ⟨(zc st).names,eO (zd st) (zc st),own,G,true,true,true,GH,[],false⟩ fr (dR st)=some b/\fnn=⟨(argNames (zd st)).length,(eO (zd st) (zc st)).length,fr,b⟩:=by
 unfold cFn at h;dsimp only at h;split at h
 ·cases h
 ·rename_i hc
  simp only[bV,bG,not_or,Bool.not_eq_false,Bool.not_eq_true]at hc;simp only[aH,aF,bY]at h;obtain⟨b,h1,h2⟩:=h;exact⟨hc.1,hc.2,b,h1,h2.symm⟩
theorem Fg{GU:List (Str×GK)}{own:List Str}{fr:Bool}{st:Stmt}{fnn:Fn}(h:hZ GU own fr st=some fnn):gU (eO (zd st) (zc st)) (argNames (zd st)) (zc st)=true/\(argNames (zd st)).any own.contains=false /\
  ∃b,gY iE ⟨(zc st).names,eO (zd st) (zc st),own,GU,false,true,false,[],[],false⟩ fr (dR st)=some b/\fnn=⟨(argNames (zd st)).length,(eO (zd st) (zc st)).length,fr,b⟩:=by
 unfold hZ at h;dsimp only at h;split at h
 ·cases h
 ·rename_i hc
  simp only[bV,bG,not_or,Bool.not_eq_false,Bool.not_eq_true]at hc;simp only[aH,aF,bY]at h;obtain⟨b,h1,h2⟩:=h;exact⟨hc.1,hc.2,b,h1,h2.symm⟩
section
variable{P:aB}{w:aw}{K:ax}{mg:Str->Option ae}{base:Heap}{N:List Str}{qual:Str}{scope:aY}{f:Addr}{cd:ae}{A:aC}{outer:List PySem.Env}{s₀:af}{H₀:Hp}{E:XK}
theorem wG:Passes (CX1 P w) (fQ (CX1 P w) P w K mg base N qual scope f cd A outer s₀ H₀ E) E:=by
 intro pins σ H s e s' I h;obtain⟨x,cls,H',rfl,I',F,q⟩:=jC rfl rfl I rfl h;exact b_.leaves (env:=(fQ (CX1 P w) P w K mg base N qual scope f cd A outer s₀ H₀ E).env) (outer:=outer) I' rfl rfl rfl F q
end
theorem GM0.gm{p:Pr}{g:Gc}{mg:Str->Option ae}{x:Str}{k:GK}{P:aB}{wl:aw}{base:Heap}{A:aC}{calm:Bool}{n:Nat}(h:GM0 p g mg x k)(hf:∀fr,k≠.fn fr):GM (wAt p n) g P wl mg base A calm x k:=by
 cases k with
 |fn fr'=>exact absurd rfl (hf fr')
 |exc=>obtain⟨C,h1,h2,_⟩:=h;exact⟨C,h1,h2⟩
 |val=>exact h
 |bi b=>exact h
 |rng=>exact h
 |enum=>exact h
 |zip=>exact h
 |isi=>exact h
 |ty n b=>exact h
 |exk=>exact h
 |set=>exact h
theorem mS{w:W}{g:Gc}{c:Cc}{E:XK}{X:Cx}{N ps own:List Str}{sc:aY}{fr:Bool}{body:List Stmt}{b:Ss}(hcN:c.N=N)(hco:c.own=own)(hcz:c.frz=false)(FS:fX N ps sc)(c2:ps.any own.contains=false)(c3:gY iE c fr body=some b)
  (O:XS w g c E X) {vs:List V}{ds:List D}{B:Sh}{H:Hp}{Q:VK} (hB:Sub B H) (rv:qZ g (hid H B) ds vs) (hl:ds.length=ps.length)
  (h:tR g E H (match qf w b (ds.map some++bW (N.length-ps.length) none)with
   | .nx _=>if fr then .no else .ok .non
   | .rt d=>.ok d
   | .ex c=>.ex c
   |_=>.no) (λd=>∀v H',qh H H'->Rep g (hid H' B) d v->(fr=true->Fr g H B H' d v)->Q v H')) :
  ∃t,PSs X body t/\t {nx:=λ_ H'=>Q .non H',rt:=Q} (start N vs) H:=by
 have hNl:ps.length<=N.length:=by have:=congrArg List.length FS.pre;rw[dZ]at this;lia
 refine⟨_,Cm (by decide) O c3,H,B,ds.map some++bW (N.length-ps.length) none,⟨λ_=>false,B.h,B.z,B.y⟩,?_,?_⟩
 ·-- at the start
  have hh:hid H ⟨λ_=>false,B.h,B.z,B.y⟩=hid H B:=rfl;have hvl:=rv.length;have par:∀i d,(ds.map some++bW (N.length-ps.length) none)[i]? = some (some d)->i<ps.length/\ds[i]? = some d:=λi d hi=>by
   by_cases hlt:i<ds.length
   ·rw[List.getElem?_append_left (by simpa using hlt),List.getElem?_map]at hi;refine⟨by lia,?_⟩;cases q:ds[i]? with
    |none=>rw[q]at hi;cases hi
    |some e=>rw[q]at hi;simpa using hi
   ·rw[List.getElem?_append_right (by simpa using hlt)]at hi;rw[List.getElem?_replicate]at hi;split at hi<;>cases hi
  have noOwn:∀i d,zI c i->(ds.map some++bW (N.length-ps.length) none)[i]? = some (some d)->False:=λi d ⟨y,h1,h2⟩ hi=>by
   obtain⟨hlt,_⟩:=par i d hi;rw[hcN]at h1;rw[hco]at h2;have:N.take ps.length=ps:=FS.pre;have hy:ps[i]? = some y:=by
    rw[<-this,List.getElem?_take,if_pos hlt];exact h1
   have:=List.any_eq_false.mp c2 y (List.mem_of_getElem? hy);exact this h2
  refine⟨⟨by simp[L2.start];lia,λi d hi=>?_,λa ha=>?_⟩,by simp[hcN];lia,qh.refl _,hB,(λa=>by simp),(λa ha=>by cases ha),(λi d ho hi=>(noOwn i d ho hi).elim),λi j d e a ho _ hi _ _ _=>(noOwn i d ho hi).elim,λz=>by rw[hcz]at z;cases z⟩
  ·obtain⟨hlt,hd⟩:=par i d hi;obtain⟨v,h1,h2⟩:=rv.get hd;have hlt':i<vs.length:=by lia
   refine⟨v,?_,.inl h2,λ_ _ _=>h2⟩;unfold L2.start;rw[List.getElem?_append_left (by simpa using hlt'),List.getElem?_map,h1]
   rfl
  ·refine hB a ?_;rcases ha with ha|ha
   ·exact .inl ha
   ·cases ha
 ·-- at the end
  cases q:qf w b (ds.map some++bW (N.length-ps.length) none)with
  |nx τ'=>
   rw[q]at h;simp only at h;cases fr with
   |true=>exact h.elim
   |false=>exact λσ' H' hs=>h .non H' hs .non (by intro z;cases z)
  |rt d=>rw[q]at h;exact h
  |ex z=>rw[q]at h;exact h
  |bk z=>rw[q]at h;exact h.elim
  |ct z=>rw[q]at h;exact h.elim
  |no=>rw[q]at h;exact h.elim
section
variable{p:Pr}{g:Gc}{G GH GU:List (Str×GK)}{mg:Str->Option ae}{P:aB}{wl:aw}{base:Heap}
theorem Ground.okU(T:Ground p g G GH GU mg):∀(k:Nat) (x:Str) (f:Addr) (st:Stmt) (own:List Str) (fr:Bool) (fd:bI) (fnn:Fn),p.fns x=some fnn->hZ GU own fr st=some fnn->Fun g.K x x st f fd ->
  iG P wl g.K mg base (CX1 P wl) k f fd (argNames (zd st)) (spF (wAt p k) g x fr)
 | 0,x,f,st,own,fr,fd,fnn,_,_,_=>⟨λvs H Q E ⟨S,ds,_,_,h⟩=>h.elim,λA outer s H args us vs Q E _ _ _ _ ⟨S,ds,_,_,h⟩=>h.elim⟩
 |k+1,x,f,st,own,fr,fd,fnn,hf,hc,F=>by
  obtain⟨c1,c2,b,c3,rfl⟩:=Fg hc;have FS:=nV c1;generalize hN:eO (zd st) (zc st)=N at *;generalize hps:argNames (zd st)=ps at *;have call:∀ds,qa p (k+1) x ds=cz (wAt p k) ⟨ps.length,N.length,fr,b⟩ ds:=λds=>by simp only[qa,hf]
  have lenOf:∀vs H Q E,spF (wAt p (k+1)) g x fr vs H Q E->vs.length=ps.length:=λvs H Q E ⟨S,ds,_,r,h⟩=>by
   have h:tR g E H (qa p (k+1) x ds) _:=h;rw[call]at h;unfold cz at h;by_cases hl:ds.length=ps.length
   ·rw[<-r.length];exact hl
   ·rw[if_neg hl]at h;exact h.elim
  obtain⟨oc,od,kV,doc,pm,an,cdv,ct,osl,rfl,lk,hcd⟩:=F.ex;refine xo lk hcd FS lenOf λA outer s H vs Q E hr hsp=>?_
  obtain⟨B,ds,hB,rv,h⟩:=hsp;have h:tR g E H (qa p (k+1) x ds) (λd=>∀v H',qh H H'->Rep g (hid H' B) d v->(fr=true->Fr g H B H' d v)->Q v H'):=h;rw[call]at h;unfold cz at h;by_cases hl:ds.length=ps.length
  ·rw[if_pos hl]at h;have O:XS (wAt p k) g ⟨(zc st).names,N,own,GU,false,true,false,[],[],false⟩ E (fQ (CX1 P wl) P wl g.K mg base N x (zc st) f cdv A outer s H E):=
    ⟨⟨rfl,rfl,rfl,FS.nd,(λz=>by cases z),by have:=hr.un;show (A.deeper _).units+64<_;lia,λ_ _=>rfl,FS.kind,wG,λy ky hy=>(T.gu y ky hy).2.2.gm (T.gu y ky hy).1,(λz=>by cases z),T.sub⟩,(λz=>by cases z),λy C hy _=>absurd rfl (T.gu y .exc hy).2.1,T.cat,⟨rfl,rfl,rfl⟩,λy k z=>by cases z⟩
   exact mS rfl rfl rfl FS c2 c3 O hB rv hl h
  ·rw[if_neg hl]at h;exact h.elim
theorem Ground.ok(T:Ground p g G GH GU mg):∀(k:Nat) (x:Str) (f:Addr) (st:Stmt) (own:List Str) (fr:Bool) (fd:bI) (fnn:Fn),p.fns x=some fnn->cFn G GH own fr st=some fnn->Fun g.K x x st f fd ->
  fN P wl g.K mg base (CX1 P wl) k f fd (argNames (zd st)) (spF (wAt p k) g x fr)
 | 0,x,f,st,own,fr,fd,fnn,_,_,_=>⟨λvs H Q E ⟨S,ds,_,_,h⟩=>h.elim,λA outer s H args us vs Q E _ _ _ _ ⟨S,ds,_,_,h⟩=>h.elim⟩
 |k+1,x,f,st,own,fr,fd,fnn,hf,hc,F=>by
  obtain⟨c1,c2,b,c3,rfl⟩:=By hc;have FS:=nV c1;generalize hN:eO (zd st) (zc st)=N at *;generalize hps:argNames (zd st)=ps at *;have call:∀ds,qa p (k+1) x ds=cz (wAt p k) ⟨ps.length,N.length,fr,b⟩ ds:=λds=>by simp only[qa,hf]
  have lenOf:∀vs H Q E,spF (wAt p (k+1)) g x fr vs H Q E->vs.length=ps.length:=λvs H Q E ⟨S,ds,_,r,h⟩=>by
   have h:tR g E H (qa p (k+1) x ds) _:=h;rw[call]at h;unfold cz at h;by_cases hl:ds.length=ps.length
   ·rw[<-r.length];exact hl
   ·rw[if_neg hl]at h;exact h.elim
  refine F.ok1 FS lenOf λcdv A outer s H vs Q E hr hsp=>?_
  obtain⟨B,ds,hB,rv,h⟩:=hsp;have h:tR g E H (qa p (k+1) x ds) (λd=>∀v H',qh H H'->Rep g (hid H' B) d v->(fr=true->Fr g H B H' d v)->Q v H'):=h;rw[call]at h;unfold cz at h;by_cases hl:ds.length=ps.length
  ·rw[if_pos hl]at h
   -- the ground of the body
   have calls:∀y fy,g.fnA y=some fy->∃fry,G.lookup y=some (.fn fry)/\j_ (wAt p k) g P wl mg base (A.deeper (envOfC x (zc st) s.heap.objs.size f cdv)) true y fy fry:=λy fy hy=>by
    obtain⟨sty,owny,fry,fdy,fny,z1,z2,z3,z4,z5,z6,z7⟩:=T.fn y fy hy;exact⟨fry,z7,z6,z5,k,fdy,_,z4,.inl ⟨rfl,Ground.ok T k y fy sty owny fry fdy fny z1 z2 z3,hr⟩⟩
   have O:XS (wAt p k) g ⟨(zc st).names,N,own,G,true,true,true,GH,[],false⟩ E (eu (CX1 P wl) P wl g.K mg base N x (zc st) f cdv A outer s H E):=by
    refine⟨⟨rfl,rfl,rfl,FS.nd,λ_=>rfl,hr.units,λ_ _=>rfl,FS.kind,yL,λy ky hy=>?_,λ_ y fy hy=>?_,T.sub⟩,λ_=>BR,λy C hy hC=>?_,T.cat,⟨rfl,rfl,rfl⟩,λy ky hy=>?_⟩
    ·have:=T.gl y ky hy;by_cases hf:∃fr,ky=.fn fr
     ·obtain⟨fr',rfl⟩:=hf;obtain⟨fy,h1⟩:=this;obtain⟨fry,h2,h3⟩:=calls y fy h1;have hy:G.lookup y=some (.fn fr'):=hy;rw[hy]at h2;cases h2;exact⟨fy,h1,h3⟩
     ·exact this.gm λfr z=>hf ⟨fr,z⟩
    ·obtain⟨fry,_,h3⟩:=calls y fy hy;exact⟨fry,h3⟩
    ·obtain⟨C',_,h2,h3⟩:=T.gl y .exc hy;rw[h2]at hC;cases hC;exact h3
    ·rcases T.gh y ky hy with z|⟨fr',fy,sty,owny,fdy,fny,rfl,z1,z2,z3,z4,z5,z6,z7⟩
     ·obtain⟨u1,u2,u3⟩:=T.gu y ky z;exact⟨u2,λv=>u3.gm u1⟩
     ·exact⟨by simp,λv=>⟨fy,z1,z7,z6,k,fdy,_,z5,.inr ⟨rfl,Ground.okU T k y fy sty owny fr' fdy fny z2 z3 z4,hr.mark v⟩⟩⟩
   exact mS rfl rfl rfl FS c2 c3 O hB rv hl h
  ·rw[if_neg hl]at h;exact h.elim
end
end EV
namespace WB
open PySem PySem.Spec PyProof.Rows L2
structure Dd(K:ax)(n:Str)(st:Stmt)(f:Addr):Prop where
 a:av K ar n=some (some (.ref f))
 l:∃oc od an sl kV dc pm cd ct,K.lookup f=some ⟨oc,od,.func (b7 n n (zd st) (dR st) (zc st) .none kV dc pm an cd ct),sl⟩/\PySem.W.codeIn K cd n=true
 k:cx K (.ref f)=true
theorem zO{K:ax}{n:Str}{st:Stmt}{f:Addr}{od an:Option Addr}{sl:Array (Option ae)}{oc kV dc pm cd ct:ae}(a:av K ar n=some (some (.ref f)))
  (l:K.lookup f=some ⟨oc,od,.func (b7 n n (zd st) (dR st) (zc st) .none kV dc pm an cd ct),sl⟩) (c:PySem.W.codeIn K cd n=true) (k:cx K (.ref f)=true):Dd K n st f:=
 ⟨a,⟨oc,od,an,sl,kV,dc,pm,cd,ct,l,c⟩,k⟩
theorem Dd.fn{K:ax}{n:Str}{st:Stmt}{f:Addr}(d:Dd K n st f):∃fd,Fun K n n st f fd:=by
 obtain⟨oc,od,an,sl,kV,dc,pm,cd,ct,l,c⟩:=d.l;exact⟨_,pC (st:=st) l c d.k⟩
theorem uV{K:ax}{C:Addr}{c:ae}{dd:Option Addr}{cd:PySem.ClassData}{sl:Array (Option ae)}(s1:PySem.W.findIn K (.ref C) "__getattribute__" = some (some (.builtin "BaseException.__getattribute__")))
  (s2:PySem.W.findIn K (.ref C) "__getattr__" = some none) (s3:PySem.W.findIn K (.ref C) "__class__" = some (some (.builtin "object.__class__"))) (s4:PySem.W.mroIn K C (.type "BaseException")=some true) (s5:PySem.W.mroIn K C (.type "object")=some true)
  (s6:K.lookup C=some ⟨c,dd,.cls cd,sl⟩):dI K C:=⟨s1,s2,s3,s4,s5,⟨c,dd,cd,sl,s6⟩⟩
theorem vA{K:ax}{C:Addr}:bz K (.ref C) (.ref C)=some true:=by
 unfold bz;rw[if_pos (beq_self_eq_true _)]
theorem xT{K:ax}{C:Addr}(s:aV K (.ref C) (.type "ValueError")=some true):bz K (.ref C) (.type "ValueError")=some true:=by
 unfold bz;rw[if_neg (λz=>by have:=eq_of_beq z;cases this)];show (if PySem.W.kitMeta "ValueError" = true then aV K (.ref C) (.type "ValueError")else none)=_;rw[if_pos (by decide +kernel)];exact s
theorem A0{K:ax}{C D:Addr}{x:PySem.ClassData}(u:aV K (.ref D) (.type "BaseException")=some true)(c:PySem.W.clsIn K D=some x)(t:PySem.W.typeIn K (.ref D)=some (.type "type"))(s:aV K (.ref C) (.ref D)=some true) :
  cg K (.ref C) (.ref D)=some true:=by
 unfold cg;rw[u,if_pos (by decide)];show (if ((PySem.W.clsIn K D).isSome&&PySem.W.typeIn K (.ref D)==some (.type "type"))=true then aV K (.ref C) (.ref D)else none)=_;rw[c,t,if_pos (by rw[beq_self_eq_true];rfl)];exact s
theorem mm{us:List ae}(h:us.length=1):∃a,us=[a]:=List.length_eq_one_iff.mp h
theorem pE{n:Nat}{us:List ae}(h:us.length=n+1):∃a r,us=a::r/\r.length=n:=by
 cases us with
 |nil=>cases h
 |cons a r=>exact⟨a,r,rfl,Nat.succ.inj h⟩
theorem lS{us:List ae}(h:us.length=2):∃a b,us=[a,b]:=by
 obtain⟨a,r,e,h⟩:=pE h;obtain⟨b,q⟩:=mm h;subst q;exact⟨a,b,e⟩
theorem tZ{us:List ae}(h:us.length=3):∃a b c,us=[a,b,c]:=by
 obtain⟨a,r,e,h⟩:=pE h;obtain⟨b,c,q⟩:=lS h;subst q;exact⟨a,b,c,e⟩
structure Dk(K:ax)(n:Str)(D:Addr):Prop where
 a:av K ar n=some (some (.ref D))
 c:∃x,PySem.W.clsIn K D=some x
 t:PySem.W.typeIn K (.ref D)=some (.type "type")
theorem dG{K:ax}{n:Str}{D:Addr}{x:PySem.ClassData}(a:av K ar n=some (some (.ref D)))(c:PySem.W.clsIn K D=some x)(t:PySem.W.typeIn K (.ref D)=some (.type "type")):Dk K n D:=⟨a,⟨x,c⟩,t⟩
theorem Dk.kit{K:ax}{n:Str}{C D:Addr}{b:Bool}(d:Dk K n D)(s:aV K (.ref C) (.ref D)=some b)(ne:C≠D):bz K (.ref C) (.ref D)=some b:=by
 obtain⟨x,c⟩:=d.c;unfold bz;rw[if_neg (λz=>ne (by have:=eq_of_beq z;injection this))];show (if ((PySem.W.clsIn K D).isSome&&PySem.W.typeIn K (.ref D)==some (.type "type"))=true then aV K (.ref C) (.ref D)else none)=_;rw[c,d.t,if_pos (by rw[beq_self_eq_true];rfl)];exact s
end WB
namespace EV
open PySem PySem.Spec PySem.P PyProof.Rows L2
structure Ent where
 x:Str
 st:Stmt
 own:List Str
 fr:Bool
 fn:Fn
noncomputable def prT(tab:List Ent)(vals:List (Str×D))(cN:List (Str×Str))(subs:List ((Str×Cl)×Bool):=[]):Pr:=⟨λx=>(tab.find? (·.x==x)).map (·.fn),λx=>vals.lookup x,λk c=>subs.lookup (k,c),λk x=>cN.contains (k,x)⟩
noncomputable def unx:GK->GK
 | .exc=>.exk
 |k=>k
noncomputable def fB(oth:List (Str×GK)):List (Str×GK):=oth.map λy=>(y.1,unx y.2)
noncomputable def fT(us:List Ent)(oth:List (Str×GK)):List (Str×GK):=us.map (λe=>(e.x,GK.fn e.fr))++fB oth
theorem oF{x:Str}{k:GK}:∀{oth:List (Str×GK)},(fB oth).lookup x=some k->∃k0,oth.lookup x=some k0/\k=unx k0
 | [],h=>by cases h
 | (y,k1)::r,h=>by
  have h:List.lookup x ((y,unx k1)::fB r)=some k:=h;rw[bw]at h;split at h
  ·rename_i q;cases h;exact⟨k1,by rw[bw,q],rfl⟩
  ·rename_i q
   obtain⟨k0,h1,h2⟩:=oF h;exact⟨k0,by rw[bw,q];exact h1,h2⟩
theorem mQ{x:Str}{k:GK}{oth:List (Str×GK)}:∀{us:List Ent},(fT us oth).lookup x=some k->(∃e∈us,e.x=x/\k=.fn e.fr)\/(fB oth).lookup x=some k
 | [],h=>.inr h
 |a::r,h=>by
  have h:List.lookup x ((a.x,GK.fn a.fr)::fT r oth)=some k:=h;rw[bw]at h;split at h
  ·rename_i q;cases h;exact .inl ⟨a,aO,(eq_of_beq q).symm,rfl⟩
  ·rcases mQ h with ⟨e,h1,h2⟩|h1
   ·exact .inl ⟨e,aK _ h1,h2⟩
   ·exact .inr h1
noncomputable def eR(K:ax)(ns:List Str)(x:Str):Option Addr:=if ns.contains x then (match av K ar x with
 |some (some (.ref f))=>some f
 |_=>none)else none
noncomputable def gOf(K:ax)(fns cls:List Str):Gc:=⟨K,eR K fns,eR K cls⟩
theorem ja{K:ax}{ns:List Str}{x:Str}{f:Addr}(h:av K ar x=some (some (.ref f)))(hx:ns.contains x=true):eR K ns x=some f:=by
 unfold eR;rw[if_pos hx,h]
theorem kZ{K:ax}{ns:List Str}{x:Str}{f:Addr}(h:eR K ns x=some f):ns.contains x=true/\av K ar x=some (some (.ref f)):=by
 unfold eR at h;split at h
 ·rename_i hx
  split at h
  ·rename_i q;cases h;exact⟨hx,q⟩
  ·cases h
 ·cases h
noncomputable def Bnd(e:Ent):Prop:=∀(kV doc pm:ae) (an:Option Addr) (cdv ct:ae) (us:List ae),us.length=(argNames (zd e.st)).length->bindArgs (b7 e.x e.x (zd e.st) (dR e.st) (zc e.st) .none kV doc pm an cdv ct) ⟨us,[]⟩=pure ((argNames (zd e.st)).zip us)
structure iO(K:ax)(G:List (Str×GK))(e:Ent):Prop where
 dd:∃f,WB.Dd K e.x e.st f
 bnd:Bnd e
noncomputable def tO(K:ax)(vals:List (Str×D))(x:Str):GK->Prop
 | .fn _=>True
 | .val=>∃u v d,av K ar x=some (some u)/\RelV v u/\vals.lookup x=some d/\∀g H,g.K=K->Rep g H d v
 | .bi b=>av K ar x=some none/\x=b1N b/\∃id,b1V b=.builtin id
 | .rng=>av K ar x=some none/\x = "range"
 | .enum=>av K ar x=some none/\x = "enumerate"
 | .zip=>av K ar x=some none/\x = "zip"
 | .isi=>av K ar x=some none/\x = "isinstance"
 | .ty n b=>av K ar x=some none/\bO x=some (.type n)/\(n∈["int","bool","str","list","tuple"]\/n = "ValueError")/\∀b',b=some b'->x=b1N b'/\b1V b'=.type n
 | .exc=>∃C,av K ar x=some (some (.ref C))/\PySem.W.excIn K C jk "ValueError.__new__" = true
 | .exk=>∃C,av K ar x=some (some (.ref C))
 | .set=>av K ar x=some none/\bO x=some (.type "set")
noncomputable def oH(K:ax)(cls:List Str)(y:(Str×Cl)×Bool):Prop:=∃C cv,cls.contains y.1.1=true/\av K ar y.1.1=some (some (.ref C))/\dI K C/\bz K (.ref C) cv=some y.2/\match y.1.2 with
 | .ty n=>n = "ValueError"/\cv=.type n
 | .ex x=>∃D,cls.contains x=true/\av K ar x=some (some (.ref D))/\cv=.ref D
theorem pO{α β:Type} [BEq α] [LawfulBEq α]{a:α}{b:β}:∀{l:List (α×β)},l.lookup a=some b->(a,b)∈l
 | (c,d)::r,h=>by
  rw[bw]at h;split at h
  ·rename_i q;cases h;rw[eq_of_beq q];exact aO
  ·exact aK _ (pO h)
theorem rf{tab:List Ent}{e:Ent}(hn:(tab.map (·.x)).Nodup)(he:e∈tab):tab.find? (·.x==e.x)=some e:=by
 induction tab with
 |nil=>simp at he
 |cons a r ih=>
  simp only[aM,List.nodup_cons]at hn;rw[List.find?_cons];rcases aG.mp he with rfl|h
  ·simp
  ·have:(a.x==e.x)=false:=by
    cases q:a.x==e.x with
    |false=>rfl
    |true=>
     have:=eq_of_beq q;exact absurd (this▸a8.mpr ⟨e,h,rfl⟩) hn.1
   rw[this];exact ih hn.2 h
theorem Ah{K:ax}{h:Heap}{mg:Str->Option ae}(X:K.In h)(N:h.Ns ar mg){tab:List Ent}{oth G:List (Str×GK)}{vals:List (Str×D)}(hG:G=tab.map (λe=>(e.x,GK.fn e.fr))++oth)
  (hnd:(tab.map (·.x)).Nodup) (ho:∀x k,oth.lookup x=some k->tO K vals x k) (hof:∀x fr,oth.lookup x≠some (.fn fr)) {us:List Ent} (hus:∀e∈us,e∈tab) (hcu:∀e∈us,hZ (fB oth) e.own e.fr e.st=some e.fn) (hc:∀e∈tab,cFn G (fT us oth) e.own e.fr e.st=some e.fn) (he:∀e∈tab,iO K G e) (cls:List Str) {cN:List (Str×Str)} (hcat:∀y∈cN,∃C D,av K ar y.1=some (some (.ref C))/\av K ar y.2=some (some (.ref D))/\cg K (.ref C) (.ref D)=some true) (hcl:∀x,(oth.lookup x=some .exc\/oth.lookup x=some .exk)->cls.contains x=true)
  {subs:List ((Str×Cl)×Bool)} (hsub:∀y∈subs,oH K cls y) :
  Ground (prT tab vals cN subs) (gOf K (tab.map (·.x)) cls) G (fT us oth) (fB oth) mg:=by
 have lk:∀x k,G.lookup x=some k->(∃e∈tab,e.x=x/\k=.fn e.fr)\/oth.lookup x=some k:=by
  subst hG;clear hnd hc he hus
  induction tab with
  |nil=>intro x k hx;exact .inr hx
  |cons a r ih=>
   intro x k hx;simp only[aM,List.cons_append,bw]at hx;split at hx
   ·rename_i q;cases hx;exact .inl ⟨a,aO,(eq_of_beq q).symm,rfl⟩
   ·rcases ih x k hx with ⟨e,h1,h2⟩|h1
    ·exact .inl ⟨e,aK _ h1,h2⟩
    ·exact .inr h1
 have lkE:∀e∈tab,G.lookup e.x=some (.fn e.fr):=by
  subst hG;clear hc he lk hus
  induction tab with
  |nil=>intro e h;simp at h
  |cons a r ih=>
   intro e hm;simp only[aM,List.nodup_cons]at hnd;simp only[aM,List.cons_append,bw];rcases aG.mp hm with rfl|hm
   ·rw[beq_self_eq_true]
   ·have:(e.x==a.x)=false:=by
     cases q:e.x==a.x with
     |false=>rfl
     |true=>exact absurd ((eq_of_beq q)▸a8.mpr ⟨e,hm,rfl⟩) hnd.1
    rw[this];exact ih hnd.2 e hm
 have hca:∀k x,cN.contains (k,x)=true->∀C D,eR K cls k=some C->eR K cls x=some D->cg K (.ref C) (.ref D)=some true:=λk x z C D h1 h2=>by
  obtain⟨C',D',e1,e2,e3⟩:=hcat (k,x) (by simpa using z);have a1:=(kZ h1).2;have a2:=(kZ h2).2;rw[e1]at a1;rw[e2]at a2;cases a1;cases a2;exact e3
 have fnd:∀e∈tab,∃f fd,eR K (tab.map (·.x)) e.x=some f/\Fun K e.x e.x e.st f fd/\Binds K fd (argNames (zd e.st)) []/\cx K (.ref f)=true/\mg e.x=some (.ref f):=λe hm=>by
  obtain⟨⟨f',d⟩,hb⟩:=he e hm;obtain⟨fd,F⟩:=d.fn;exact⟨f',fd,ja d.a (by simpa using a8.mpr ⟨e,hm,rfl⟩),F,F.binds hb,d.k,PySem.W.mg_of X N d.a⟩
 have fne:∀e∈tab,(prT tab vals cN subs).fns e.x=some e.fn:=λe hm=>by show (tab.find? (·.x==e.x)).map (·.fn)=_;rw[rf hnd hm];rfl
 have gl:∀x k,oth.lookup x=some k->GM0 (prT tab vals cN subs) (gOf K (tab.map (·.x)) cls) mg x k:=λx k hk=>by
  have:=ho x k hk;cases k with
  |fn fr=>exact absurd hk (hof x fr)
  |val=>obtain⟨u,v,d,h1,h2,h3,h4⟩:=this;exact⟨u,v,d,PySem.W.mg_of X N h1,h2,h3,λH=>h4 _ H rfl⟩
  |bi b=>exact⟨dW X N this.1,this.2⟩
  |rng=>exact⟨dW X N this.1,this.2⟩
  |enum=>exact⟨dW X N this.1,this.2⟩
  |zip=>exact⟨dW X N this.1,this.2⟩
  |isi=>exact⟨dW X N this.1,this.2⟩
  |ty n b=>exact⟨dW X N this.1,this.2⟩
  |exc=>obtain⟨C,h1,h2⟩:=this;exact⟨C,PySem.W.mg_of X N h1,ja h1 (hcl x (.inl hk)),h2⟩
  |exk=>obtain⟨C,h1⟩:=this;exact⟨C,PySem.W.mg_of X N h1,ja h1 (hcl x (.inr hk))⟩
  |set=>exact⟨dW X N this.1,this.2⟩
 refine⟨λx f hf=>?_,λx k hx=>?_,λx k hx=>?_,λx k hx=>?_,λk cl b z=>?_,hca⟩
 ·obtain⟨h1,h2⟩:=kZ hf;obtain⟨e,hm,rfl⟩:=a8.mp (by simpa using h1:x∈tab.map (·.x));obtain⟨f',fd,z1,z2,z3,z4,z5⟩:=fnd e hm;have hf:eR K (tab.map (·.x)) e.x=some f:=hf;rw[hf]at z1;cases z1;exact⟨e.st,e.own,e.fr,fd,e.fn,fne e hm,hc e hm,z2,z3,z4,z5,lkE e hm⟩
 ·rcases lk x k hx with ⟨e,hm,rfl,rfl⟩|hk
  ·obtain⟨f',fd,z1,_⟩:=fnd e hm;exact⟨f',z1⟩
  ·exact gl x k hk
 ·obtain⟨k0,h1,rfl⟩:=oF hx;have:=gl x k0 h1;cases k0 with
  |fn fr=>exact absurd h1 (hof x fr)
  |exc=>obtain⟨C,z1,z2,_⟩:=this;exact⟨by simp[unx],by simp[unx],⟨C,z1,z2⟩⟩
  |_=>exact⟨by simp[unx],by simp[unx],this⟩
 ·rcases mQ hx with ⟨e,hm,rfl,rfl⟩|hk
  ·obtain⟨f',fd,z1,z2,z3,z4,z5⟩:=fnd e (hus e hm);exact .inr ⟨e.fr,f',e.st,e.own,fd,e.fn,rfl,z1,fne e (hus e hm),hcu e hm,z2,z3,z4,z5⟩
  ·exact .inl hk
 ·have z:subs.lookup (k,cl)=some b:=z;obtain⟨C,cv,h0,h1,h2,h3,h4⟩:=hsub _ (pO z);refine⟨C,cv,ja h1 h0,h2,h3,?_⟩;cases cl with
  |ty n=>exact h4
  |ex x=>obtain⟨D,d0,d1,d2⟩:=h4;exact⟨D,ja d1 d0,d2⟩
theorem vD{l:PySem.W.OpenLaw}{q:aB}{loose:List Str}{XP:(Str->Option ae)->Heap->Prop}{YP:aw->Heap->Prop}{d:DefRec}{K:Params->ax}{tab:List Ent}{G:List (Str×GK)}{vals:List (Str×D)}{cls:List Str}{cN:List (Str×Str)}{subs:List ((Str×Cl)×Bool)}{GH GU:List (Str×GK)}{e:Ent}{k:Nat}
  (hn:l.most=some 63) (hdf:d.params.defaults=[]) (hd:d.name=e.x) (hr:ck k callerA) (hY:∀(w:aw) (h:Heap),YP w h->(K w.params).In h) (hm:e∈tab) (hnd:(tab.map (·.x)).Nodup) (hx:e.x = "law") (hfr:e.fr=false) (hp:argNames (zd e.st)=[("_law_script" : Str)])
  (hG:∀(w:aw) (mg:Str->Option ae) (h:Heap),(K w.params).In h->h.Ns ar mg->Ground (prT tab vals cN subs) (gOf (K w.params) (tab.map (·.x)) cls) G GH GU mg/\iO (K w.params) G e) (hc:cFn G GH e.own e.fr e.st=some e.fn)
  (hlaw:∀ns:List Int,ns.length<=63->qa (prT tab vals cN subs) k "law" [.lst (ns.map D.int)]=.ok (.bl true)) :
  PySem.W.WalkO q loose XP YP l.row.toRowW d [] (λf vs=>PySem.call f vs):=by
 refine L2.xU (n:=63) (k:=k) (x:="_law_script") (CX:=λw=>CX1 l.prog w) (sp:=λw=>spF (wAt (prT tab vals cN subs) k) (gOf (K w.params) (tab.map (·.x)) cls) "law" false) hn (by decide) hdf hr hY (λw mg fa h KX N hfa=>?_) (λw H a ns hl _ hS=>?_) λw H s e s' z=>?_
 ·obtain⟨T,⟨f,dd⟩,hb⟩:=hG w mg h KX N;have e1:=hfa.symm.trans (hd▸PySem.W.mg_of KX N dd.a);cases e1;obtain⟨oc,od,an,sl,kV,dc,pm,cd,ct,lk,hcd⟩:=dd.l;refine⟨b7 e.x e.x (zd e.st) (dR e.st) (zc e.st) .none kV dc pm an cd ct,λs u=>.of_eq ?_,λbase _ _=>?_⟩
  ·have:=hb kV dc pm an cd ct [u] (by rw[hp];rfl);rw[hp]at this;exact this
  ·have:=T.ok (P:=l.prog) (wl:=w) (base:=base) k e.x fa e.st e.own e.fr _ e.fn (by show (tab.find? (·.x==e.x)).map (·.fn)=_;rw[rf hnd hm];rfl) hc (pC (st:=e.st) lk hcd dd.k);rw[hp,hx,hfr]at this;rw[hx];exact this
 ·refine⟨⟨λ_=>false,λ_=>false,[],λ_=>none⟩,[.lst (ns.map D.int)],(λa z=>by rcases z with z|z<;>cases z),.cons (.lst (xs:=ns.map V.int) ?_ (qZ.ofInts _)) .nil,?_⟩
  ·have:hid H ⟨λ_=>false,λ_=>false,[],λ_=>none⟩=H:=by funext b;unfold hid;rw[if_neg (by simp)]
   rw[this];exact hS
  ·show tR _ _ _ (qa (prT tab vals cN subs) k "law" [.lst (ns.map D.int)]) _;rw[hlaw ns hl];intro v H' _ r _;cases r;rfl
 ·obtain⟨_,_,_,_,_,_,_,_,_,z⟩:=z;exact z
end EV
namespace KT
open PySem PySem.Builtin PySem.Builtin.Str
open L2 (zu zH zP qe zy pickL)
structure Tx(n:Nat)(x:Str):Prop where
 len:x.length<=n
 ok:PyData.strOk x=true
theorem Tx.mono{n m:Nat}{x:Str}(h:Tx n x)(q:n<=m):Tx m x:=⟨bf h.len q,h.ok⟩
theorem eJ(x:Str):PyData.strOk x=true↔∀c∈x.cps.toList,c<0x110000:=by
 unfold PyData.strOk;rw[Array.all_eq_true_iff_forall_mem];simp
theorem jS{x y:Str}(h:∀c∈y.cps.toList,c∈x.cps.toList)(q:PyData.strOk x=true):PyData.strOk y=true:=by
 rw[eJ]at q ⊢;exact λc hc=>q c (h c hc)
theorem len_list(x:Str):x.length=x.cps.toList.length:=by simp[Str.length]
theorem rY{x:Str}{l:List Nat}{c:Nat}(h:c∈l.filterMap (x.cps[·]?)):c∈x.cps.toList:=by
 obtain⟨i,_,hi⟩:=List.mem_filterMap.mp h;exact Array.mem_toList_iff.mpr (Array.mem_of_getElem? hi)
theorem Dr(lo hi:Option Int)(n:Nat):(strSliceIndices lo hi 1 n).length<=n:=by
 unfold strSliceIndices sliceRange;simp only[aQ,List.length_range];cases lo with
 |none=>
  cases hi with
  |none=>simp;split<;>lia
  |some j=>simp;split<;>split<;>lia
 |some i=>
  cases hi with
  |none=>simp;split<;>split<;>lia
  |some j=>simp;split<;>split<;>split<;>lia
theorem oy(n:Nat):(strSliceIndices none none (-1) n).length<=n:=by
 unfold strSliceIndices sliceRange;simp only[aQ,List.length_range];simp;split<;>lia
theorem rP{n:Nat}{x:Str}(h:Tx n x)(lo hi:Option Int):Tx n (zu x lo hi):=by
 unfold zu;split
 ·exact h
 ·refine⟨?_,jS (λc hc=>rY (by simpa using hc)) h.ok⟩;have:=List.length_filterMap_le (x.cps[·]?) (strSliceIndices lo hi 1 x.length);have:=Dr lo hi x.length;have:=h.len;simp only[Str.length,aP]at *;lia
theorem Eb{n:Nat}{x:Str}(h:Tx n x):Tx n (zH x):=by
 unfold zH;refine⟨?_,jS (λc hc=>rY (by simpa using hc)) h.ok⟩;have:=List.length_filterMap_le (x.cps[·]?) (strSliceIndices none none (-1) x.length);have:=oy x.length;have:=h.len;simp only[Str.length,aP]at *;lia
theorem xl(x:Str):(zH x).length<=x.length:=by
 unfold zH;have:=List.length_filterMap_le (x.cps[·]?) (strSliceIndices none none (-1) x.length);have:=oy x.length;simp only[Str.length,aP]at *;lia
theorem hJ{n m:Nat}{x y:Str}(h:Tx n x)(q:Tx m y):Tx (n+m) (x++y):=by
 refine⟨?_,?_⟩
 ·rw[PySem.Str.length_append];exact Nat.add_le_add h.len q.len
 ·rw[eJ];intro c hc;rw[PySem.Str.cps_append,Array.toList_append,List.mem_append]at hc;rcases hc with hc|hc
  ·exact(eJ x).mp h.ok c hc
  ·exact(eJ y).mp q.ok c hc
theorem o7(x y:Str):qe x y=Txt.split x y:=by
 unfold qe Txt.split
 rfl
theorem kR(x y:Str):glued y (qe x y)=x:=by rw[o7,StrLaws.glued_eq_join];exact StrLaws.join_split x y
theorem gv(x y:Str):qe x y≠[]:=by
 unfold qe;split
 ·simp
 ·split
  ·simp
  ·intro h;have:=length_partsBetween x (occurrences x y 0 x.length (x.length+1)) y.length;rw[h]at this;cases this
theorem gB(x y:Str)(hy:y.length=1):((qe x y).map (·.length)).sum+(qe x y).length=x.length+1:=by
 have e:=size_glued y (qe x y);rw[kR,hy]at e;have:=List.length_pos_iff.mpr (gv x y);lia
theorem pZ{sep:Str}:∀{l:List Str}{a:Array Nat}{p:Str}{c:Nat},p∈l->c∈p.cps.toList->c∈(l.foldl (λacc p=>acc++sep.cps++p.cps) a).toList
 | [],_,_,_,h,_=>by cases h
 |q::l,a,p,c,h,hc=>by
  rw[List.foldl_cons];rcases aG.mp h with rfl|h
  ·have:∀(l:List Str) (b:Array Nat),c∈b.toList->c∈(l.foldl (λacc p=>acc++sep.cps++p.cps) b).toList:=by
    intro l
    induction l with
    |nil=>intro b hb;exact hb
    |cons q l ih=>intro b hb;exact ih _ (by simp at hb ⊢;simp[hb])
   exact this l _ (by simp at hc ⊢;simp[hc])
  ·exact pZ h hc
theorem Bc{sep:Str}{l:List Str}{p:Str}{c:Nat}(h:p∈l)(hc:c∈p.cps.toList):c∈(glued sep l).cps.toList:=by
 cases l with
 |nil=>cases h
 |cons q l=>
  show c∈(l.foldl (λacc p=>acc++sep.cps++p.cps) q.cps).toList;rcases aG.mp h with rfl|h
  ·have:∀(l:List Str) (b:Array Nat),c∈b.toList->c∈(l.foldl (λacc p=>acc++sep.cps++p.cps) b).toList:=by
    intro l
    induction l with
    |nil=>intro b hb;exact hb
    |cons q l ih=>intro b hb;exact ih _ (by simp at hb ⊢;simp[hb])
   exact this l _ hc
  ·exact pZ h hc
theorem rM{sep:Str}:∀{l:List Str}{a:Array Nat}{c:Nat},c∈(l.foldl (λacc p=>acc++sep.cps++p.cps) a).toList->c∈a.toList\/c∈sep.cps.toList\/∃p∈l,c∈p.cps.toList
 | [],_,_,h=>.inl h
 |q::l,a,c,h=>by
  rw[List.foldl_cons]at h;rcases rM h with h|h|⟨p,hp,h⟩
  ·simp only[Array.toList_append,List.mem_append]at h;rcases h with (h|h)|h
   ·exact .inl h
   ·exact .inr (.inl h)
   ·exact .inr (.inr ⟨q,aO,h⟩)
  ·exact .inr (.inl h)
  ·exact .inr (.inr ⟨p,aK _ hp,h⟩)
theorem uy{x y p:Str}{c:Nat}(hp:p∈qe x y)(hc:c∈p.cps.toList):c∈x.cps.toList:=by
 have:=Bc (sep:=y) hp hc
 rwa[kR]at this
theorem tQ:∀{l:List Nat}{a:Nat},a∈l->a<=l.sum
 | [],_,h=>by cases h
 |b::l,a,h=>by
  rw[List.sum_cons];rcases aG.mp h with rfl|h
  ·lia
  ·have:=tQ h;lia
theorem jb{n:Nat}{x y p:Str}(h:Tx n x)(hp:p∈qe x y)(hy:y.length=1):Tx n p:=by
 refine⟨?_,jS (λc hc=>uy hp hc) h.ok⟩;have:=gB x y hy;have:=tQ (List.mem_map_of_mem (f:=(·.length)) hp);have:=List.length_pos_iff.mpr (gv x y);have:=h.len;lia
theorem nN(sep:Str)(l:List Str):zy sep l=glued sep l:=by
 match l with
 | []=>rfl
 | [p]=>simp[zy,glued]
 |p::q::r=>rfl
theorem iz{n:Nat}{sep:Str}{l:List Str}(hs:sep.length=1)(ok:PyData.strOk sep=true)(hl:∀p∈l,PyData.strOk p=true)(hn:(l.map (·.length)).sum+l.length<=n+1):Tx n (zy sep l):=by
 rw[nN];refine⟨?_,?_⟩
 ·rw[size_glued,hs];cases l with
  |nil=>simp
  |cons p r=>simp only[bZ]at *;lia
 ·rw[eJ];intro c hc;cases l with
  |nil=>simp[glued,Str.empty]at hc
  |cons p r=>
   rcases rM (l:=r) (a:=p.cps) hc with h|h|⟨q,hq,h⟩
   ·exact(eJ p).mp (hl p aO) c h
   ·exact(eJ sep).mp ok c h
   ·exact(eJ q).mp (hl q (aK _ hq)) c h
theorem l_(c:Nat):∀(l:List Str) (a:Array Nat),(l.foldl (λacc p=>acc++(⟨#[c]⟩:Str).cps++p.cps) a).toList=a.toList++(l.flatMap λp=>c::p.cps.toList)
 | [],a=>by simp
 |q::l,a=>by rw[List.foldl_cons,l_ c l];simp
theorem nz(c:Nat):∀{a b r t:List Nat},c∉a->c∉b->a++c::r=b++c::t->a=b/\r=t
 | [],[],r,t,_,_,h=>by simp at h;exact⟨rfl,h⟩
 | [],y::b,r,t,_,hb,h=>by simp at h;exact absurd (by simp[h.1]) hb
 |x::a,[],r,t,ha,_,h=>by simp at h;exact absurd (by simp[h.1]) ha
 |x::a,y::b,r,t,ha,hb,h=>by
  simp only[List.cons_append,List.cons.injEq]at h;have:=nz c (λm=>ha (aK _ m)) (λm=>hb (aK _ m)) h.2;exact⟨by rw[h.1,this.1],this.2⟩
theorem free_eq(c:Nat):∀{l m:List Str}{a b:List Nat},c∉a->c∉b->(∀p∈l,c∉p.cps.toList)->(∀p∈m,c∉p.cps.toList)->a++(l.flatMap λp=>c::p.cps.toList)=b++(m.flatMap λp=>c::p.cps.toList)->a=b/\l=m
 | [],[],a,b,_,_,_,_,h=>by simp at h;exact⟨h,rfl⟩
 | [],q::m,a,b,ha,_,_,_,h=>by
  simp only[List.flatMap_nil,dD,dX,List.cons_append]at h;exact absurd (by rw[h];simp) ha
 |p::l,[],a,b,_,hb,_,_,h=>by
  simp only[List.flatMap_nil,dD,dX,List.cons_append]at h;exact absurd (by rw[<-h];simp) hb
 |p::l,q::m,a,b,ha,hb,hl,hm,h=>by
  simp only[dX,List.cons_append]at h;obtain⟨e1,e2⟩:=nz c ha hb h;obtain⟨e3,e4⟩:=free_eq c (hl p aO) (hm q aO) (λx hx=>hl x (aK _ hx)) (λx hx=>hm x (aK _ hx)) e2;refine⟨e1,?_⟩;rw[e4,PySem.Str.ext' (Array.toList_inj.mp e3)]
theorem yA{c:Nat}{l:List Str}(hl:∀p∈l,c∉p.cps.toList)(hne:l≠[]):qe (zy ⟨#[c]⟩ l) ⟨#[c]⟩=l:=by
 have hf:∀p∈qe (zy ⟨#[c]⟩ l) ⟨#[c]⟩,c∉p.cps.toList:=by rw[o7];exact StrLaws.split_free _ c
 have hg:=kR (zy ⟨#[c]⟩ l) ⟨#[c]⟩;have hn:=gv (zy ⟨#[c]⟩ l) ⟨#[c]⟩;generalize qe (zy ⟨#[c]⟩ l) ⟨#[c]⟩=m at *;rw[nN]at hg
 match l,m,hne,hn with
 |p::l,q::m,_,_=>
  have e:(glued ⟨#[c]⟩ (q::m)).cps.toList=(glued ⟨#[c]⟩ (p::l)).cps.toList:=by rw[hg]
  have e1:(glued ⟨#[c]⟩ (q::m)).cps.toList=q.cps.toList++(m.flatMap λp=>c::p.cps.toList):=l_ c m q.cps;have e2:(glued ⟨#[c]⟩ (p::l)).cps.toList=p.cps.toList++(l.flatMap λp=>c::p.cps.toList):=l_ c l p.cps;rw[e1,e2]at e;obtain⟨a,b⟩:=free_eq c (hf q aO) (hl p aO) (λx hx=>hf x (aK _ hx)) (λx hx=>hl x (aK _ hx)) e;rw[b,PySem.Str.ext' (Array.toList_inj.mp a)]
theorem sY{α β:Type}{f:α->Option β}{g:α->β}:∀{l:List α},(∀x∈l,f x=some (g x))->l.filterMap f=l.map g
 | [],_=>rfl
 |x::l,h=>by
  rw[List.filterMap_cons_some (h x aO),aM,sY λy hy=>h y (aK _ hy)]
theorem l7{α:Type}(xs:List α):pickL xs none (some 0) (some (-1))=(xs.drop 1).reverse:=by
 unfold pickL;cases xs with
 |nil=>simp[sliceBounds,sliceRange]
 |cons x r=>
  have e:sliceRange (sliceBounds none (some 0) (some (-1)) (x::r).length).1 (sliceBounds none (some 0) (some (-1)) (x::r).length).2.1 (sliceBounds none (some 0) (some (-1)) (x::r).length).2.2=(a_ r.length).map λk=>r.length-k:=by
   have a1:(sliceBounds none (some 0) (some (-1)) (x::r).length).1=(r.length:Int):=by simp[sliceBounds]
   have a2:(sliceBounds none (some 0) (some (-1)) (x::r).length).2.1=0:=by simp[sliceBounds];lia
   have a3:(sliceBounds none (some 0) (some (-1)) (x::r).length).2.2 = -1:=by simp[sliceBounds]
   rw[a1,a2,a3,sliceRange];have a4:(if (-1:Int)>0 then (if (r.length:Int)<0 then (0-(r.length:Int) + -1-1) / -1 else 0)else (if (r.length:Int)>0 then ((r.length:Int)-0 - -1-1)/(- -1)else 0)).toNat=r.length:=by
    rw[if_neg (by decide)];simp only[Int.neg_neg,Int.ediv_one];split<;>lia
   simp only[a4];refine List.map_congr_left λk hk=>?_
   rw[List.mem_range]at hk;lia
  rw[e,List.filterMap_map];have e':∀k∈a_ r.length,((λi=>(x::r)[i]?)∘λk=>r.length-k) k=some (r.reverse[k]?.getD x):=by
   intro k hk;rw[List.mem_range]at hk;show (x::r)[r.length-k]? = _;obtain⟨j,hj⟩:∃j,r.length-k=j+1:=⟨r.length-k-1,by lia⟩
   rw[hj,List.getElem?_cons_succ,List.getElem?_reverse (by simpa using hk),show r.length-1-k=j by lia,List.getElem?_eq_getElem (by lia)]
   rfl
  rw[sY e'];simp only[List.drop_one,List.tail_cons];apply List.ext_getElem
  ·simp
  ·intro i h1 h2;simp at h1 h2 ⊢;simp[h2]
abbrev FIG:Str:="0123456789"
noncomputable def dg(c:Nat):Bool:=decide (48<=c)&&decide (c<=57)
theorem DX:∀c∈[48,49,50,51,52,53,54,55,56,57],c<58:=by decide
theorem D1:∀c:Fin 58,c.val∈[48,49,50,51,52,53,54,55,56,57]↔dg c.val=true:=by decide +kernel
theorem nY(c:Nat):c∈FIG.cps.toList↔dg c=true:=by
 have e:FIG.cps.toList=[48,49,50,51,52,53,54,55,56,57]:=by decide +kernel
 rw[e];by_cases h:c<58
 ·exact D1 ⟨c,h⟩
 ·refine⟨λq=>absurd (DX c q) h,λq=>?_⟩;unfold dg at q;rw[aJ,decide_eq_true_eq,decide_eq_true_eq]at q;exact absurd (show c<58 by lia) h
theorem A9(c:Nat):FIG.cps.contains c=dg c:=by
 rw[Bool.eq_iff_iff,<-nY];simp
noncomputable def nm(x:Str):Option Int:=if x.cps.toList≠[]/\x.cps.toList.all dg=true/\¬ (x.cps.toList.head? = some 48/\1<x.cps.toList.length)then some ((NumText.digitsVal x.cps.toList:Nat):Int)else none
theorem uO(x:Str):zP x FIG=ao ""↔x.cps.toList.all dg=true:=by
 have hg:(FIG.cps.contains:Nat->Bool)=dg:=funext A9;have e:zP x FIG=strSub x (stripLo dg true x) (stripHi dg true x (stripLo dg true x)):=by
  have:=PyProof.Rows.stripBy_eq FIG.cps.contains true true x;rw[hg]at this;rw[<-this];unfold zP Txt.stripBy;rw[hg]
 obtain⟨a1,a2,a3⟩:=PyProof.Rows.lo_facts dg x;obtain⟨b1,b2,b3,b4⟩:=PyProof.Rows.hi_facts dg x _ a1;have hl:=len_list x;have hd:∀k,k<x.length->x.cps.getD k 0=x.cps.toList.getD k 0:=λk _=>(PyProof.Rows.getD_list x k).symm
 rw[e];constructor
 ·intro h;have h':=congrArg Str.length h;have h0:(ao "").length=0:=by decide +kernel
  rw[h0]at h';have hs:(strSub x (stripLo dg true x) (stripHi dg true x (stripLo dg true x))).length=min (stripHi dg true x (stripLo dg true x)) x.length-stripLo dg true x:=by simp[strSub,Str.length]
  rw[hs]at h';rw[bL];intro c hc;obtain⟨k,hk⟩:=List.getElem?_of_mem hc;have hk':k<x.length:=by rw[hl];exact(List.getElem?_eq_some_iff.mp hk).1
  have hc':x.cps.getD k 0=c:=by rw[hd k hk',List.getD,hk];rfl
  by_cases q:k<stripLo dg true x
  ·rw[<-hc'];exact a2 k q
  ·rw[<-hc'];exact b3 k (by lia) hk'
 ·intro h;have hlo:stripLo dg true x=x.length:=by
   rcases a3 with q|q
   ·exact q
   ·by_cases z:stripLo dg true x<x.length
    ·rw[hd _ z,List.getD,List.getElem?_eq_getElem (by lia)]at q;have:=bL.mp h _ (dC (show stripLo dg true x<x.cps.toList.length by lia));rw[Option.getD_some,this]at q;cases q
    ·lia
  have hz:(strSub x (stripLo dg true x) (stripHi dg true x (stripLo dg true x))).cps.toList=[]:=by
   rw[StrLaws.strSub_toList,hlo];simp[hl]
  have h0:(ao "").cps.toList=[]:=by decide +kernel
  exact PySem.Str.ext' (Array.toList_inj.mp (by rw[hz,h0]))
theorem tL{x:Str}(h:x.cps.toList.all dg=true)(h1:x.cps.toList≠[])(h2:x.length<=640):intText? x=some ((NumText.digitsVal x.cps.toList:Nat):Int):=
 intText_digits (λc hc=>by have:=bL.mp h c hc;simpa[dg]using this) h1 (by lia)
theorem o6:∀(l:List Nat) (a:Nat),a<=l.foldl (λacc c=>acc * 10+(c-48)) a
 | [],a=>aE _
 |c::l,a=>bf (show a<=a * 10+(c-48)by lia) (o6 l _)
theorem wM{x:Str}{i:Int}(h:nm x=some i)(h2:1<x.length):10<=i:=by
 unfold nm at h;split at h
 ·rename_i q
  cases h;obtain⟨q1,q2,q3⟩:=q;rw[len_list]at h2;generalize x.cps.toList=l at *
  match l,q1,q2,q3,h2 with
  |a::b::r,_,q2,q3,_=>
   have ha:dg a=true:=bL.mp q2 a aO;have hne:a≠48:=λe=>q3 ⟨by rw[e];rfl,by simp⟩
   simp only[dg,aJ,decide_eq_true_eq]at ha;unfold NumText.digitsVal;rw[List.foldl_cons,List.foldl_cons];have:=o6 r ((0 * 10+(a-48)) * 10+(b-48));lia
 ·cases h
theorem oI{x:Str}{i:Int}(h:nm x=some i):0<=i:=by
 unfold nm at h;split at h
 ·cases h;lia
 ·cases h
end KT
namespace KG
open EV
open PySem (Str)
open L2 (atI ixN ltP)
abbrev prD:Int×Int->D:=EV.pairD
theorem zo{w:W}{f:Fn}{ds:List D}{d:D}{τ:Env}(hl:ds.length=f.ps)(hτ:ds.map some++bW (f.N-f.ps) none=τ)(h:qf w f.body τ=.rt d):cz w f ds=.ok d:=by
 rw[cz,if_pos hl,hτ,h]
theorem cW{w:W}{s:S}{r:Ss}{τ σ:Env}{o:O}(h:evS w s τ=.nx σ)(h':qf w r σ=o):qf w (.cons s r) τ=o:=by rw[qf,h];exact h'
theorem yi{w:W}{tg:Tg}{it:It}{b r:Ss}{τ:Env}{o:O}{ds:List D}(I:List D->Env->Prop)(h:evI w it τ=.ok ds)(h0:I ds τ)
  (hs:∀x t σ,I (x::t) σ->∃σ1 σ2,store tg x σ=.ok σ1/\qf w b σ1=.nx σ2/\I t σ2) (hn:∀σ,I [] σ->qf w r σ=o):qf w (.cons (.for tg it b) r) τ=o:=by
 have key:∀(l:List D) (σ:Env),I l σ->∃σ',cV tg (λσ=>qf w b σ) l σ=.nx σ'/\I [] σ':=by
  intro l
  induction l with
  |nil=>intro σ q;exact⟨σ,rfl,q⟩
  |cons x t ih=>
   intro σ q;obtain⟨σ1,σ2,a,b',c⟩:=hs x t σ q;obtain⟨σ',d,e⟩:=ih σ2 c;exact⟨σ',by rw[cV,a];simp only[R.out_ok];rw[b'];exact d,e⟩
 obtain⟨σ',a,b'⟩:=key ds τ h0;rw[qf,cA,h];simp only[R.out_ok];rw[a];exact hn σ' b'
theorem jW{w:W}{it:It}{cap:List (Option Nat)}{t:T}{elt:E}{τ c:Env}{ds:List D}{g:D->List D}(h:evI w it τ=.ok ds)(hz:ds.length<=SZ)(hc:ef cap τ=none::none::c)
  (hb:∀x∈ds,((evT w t (none::some x::c)).bind λr=>if r then (evE w elt (none::some x::c)).bind λd=>.ok [d]else .ok [])=.ok (g x)):evE w (.comp it cap (.nm 1) t elt) τ=.ok (.lst (ds.flatMap g)):=by
 have key:∀(l:List D) (v:Option D) (acc:List D),(∀x∈l,x∈ds)->zZ (λx σ=>noEx ((store (.nm 1) x σ).bind λσ'=>(evT w t σ').bind λr=>if r then (evE w elt σ').bind λd=>.ok (σ',[d])else .ok (σ',[]))) l (none::v::c) acc=.ok (acc++l.flatMap g):=by
  intro l
  induction l with
  |nil=>intro v acc _;simp[zZ]
  |cons x r ih=>
   intro v acc hm;have q:=hb x (hm x aO);rw[zZ];have e:noEx ((store (.nm 1) x (none::v::c)).bind λσ'=>(evT w t σ').bind λr=>if r then (evE w elt σ').bind λd=>.ok (σ',[d])else .ok (σ',[]))=.ok (none::some x::c,g x):=by
    simp only[store,R.bind_ok,List.set_cons_succ,List.set_cons_zero];cases ht:evT w t (none::some x::c)with
    |ok b=>
     rw[ht]at q;simp only[R.bind_ok]at q ⊢;cases b
     ·simp at q ⊢;rw[<-q];rfl
     ·simp only[if_true]at q ⊢;cases he:evE w elt (none::some x::c)with
      |ok d=>rw[he]at q;simp only[R.bind_ok,R.ok.injEq]at q ⊢;rw[<-q];rfl
      |ex=>rw[he]at q;cases q
      |no=>rw[he]at q;cases q
    |ex=>rw[ht]at q;cases q
    |no=>rw[ht]at q;cases q
   rw[e];simp only[R.bind_ok];rw[ih (some x) _ λy hy=>hm y (aK _ hy),dX,List.append_assoc]
 rw[qw,h];simp only[R.bind_ok];rw[if_neg (by lia),hc,key ds none [] λ_ h=>h]
 rfl
theorem comp2{w:W}{it:It}{cap:List (Option Nat)}{t:T}{elt:E}{τ c:Env}{ds:List D}{g:D->List D}(h:evI w it τ=.ok ds)(hz:ds.length<=SZ)(hc:ef cap τ=none::none::none::c)
  (hb:∀x∈ds,∃a b,x=.tup [a,b]/\((evT w t (none::some a::some b::c)).bind λr=>if r then (evE w elt (none::some a::some b::c)).bind λd=>.ok [d]else .ok [])=.ok (g x)):evE w (.comp it cap (.tp [1,2]) t elt) τ=.ok (.lst (ds.flatMap g)):=by
 have key:∀(l:List D) (v u:Option D) (acc:List D),(∀x∈l,x∈ds)->zZ (λx σ=>noEx ((store (.tp [1,2]) x σ).bind λσ'=>(evT w t σ').bind λr=>if r then (evE w elt σ').bind λd=>.ok (σ',[d])else .ok (σ',[]))) l (none::v::u::c) acc=.ok (acc++l.flatMap g):=by
  intro l
  induction l with
  |nil=>intro v u acc _;simp[zZ]
  |cons x r ih=>
   intro v u acc hm;obtain⟨a,b,rfl,q⟩:=hb x (hm x aO);rw[zZ];have e:noEx ((store (.tp [1,2]) (.tup [a,b]) (none::v::u::c)).bind λσ'=>(evT w t σ').bind λr=>if r then (evE w elt σ').bind λd=>.ok (σ',[d])else .ok (σ',[]))=.ok (none::some a::some b::c,g (.tup [a,b])):=by
    simp only[store,setAll,bZ,List.length_nil,if_true,R.bind_ok,List.set_cons_succ,List.set_cons_zero];cases ht:evT w t (none::some a::some b::c)with
    |ok b'=>
     rw[ht]at q;simp only[R.bind_ok]at q ⊢;cases b'
     ·simp at q ⊢;rw[q];rfl
     ·simp only[if_true]at q ⊢;cases he:evE w elt (none::some a::some b::c)with
      |ok d=>rw[he]at q;simp only[R.bind_ok,R.ok.injEq]at q ⊢;rw[<-q];rfl
      |ex=>rw[he]at q;cases q
      |no=>rw[he]at q;cases q
    |ex=>rw[ht]at q;cases q
    |no=>rw[ht]at q;cases q
   rw[e];simp only[R.bind_ok];rw[ih (some a) (some b) _ λy hy=>hm y (aK _ hy),dX,List.append_assoc]
 rw[qw,h];simp only[R.bind_ok];rw[if_neg (by lia),hc,key ds none none [] λ_ h=>h]
 rfl
theorem uB{w:W}{i:Int}:zU w (.int i) (.ty "int")=.ok (.bl true):=rfl
theorem Ag{w:W}{i:Int}:zU w (.int i) (.ty "bool")=.ok (.bl false):=rfl
theorem AM{w:W}{i:List D}:zU w (.tup i) (.ty "tuple")=.ok (.bl true):=rfl
theorem yU{w:W}{i:List D}:zU w (.tup i) (.ty "bool")=.ok (.bl false)/\zU w (.tup i) (.ty "int")=.ok (.bl false)/\zU w (.tup i) (.ty "str")=.ok (.bl false)/\zU w (.tup i) (.ty "list")=.ok (.bl false):=⟨rfl,rfl,rfl,rfl⟩
theorem B6{w:W}{i:Bool}:zU w (.bl i) (.ty "bool")=.ok (.bl true):=rfl
theorem Fs(t:Int×Int):(prD t).asks=true:=rfl
noncomputable def mn(a b:Int):Int:=if b<a then b else a
noncomputable def mx(a b:Int):Int:=if a<b then b else a
noncomputable def iP(ts:List (Int×Int))(a b:Int):Bool:=ts.any λt=>t.1==mn a b&&t.2==mx a b
theorem AL(ts:List (Int×Int))(u v:Int):qg .isin (.tup [.int u,.int v]) (.tup (ts.map prD))=.ok (ts.any λt=>t.1==u&&t.2==v):=by
 rw[qg];simp only[seq?];rw[if_pos (by simp only[aJ,bL,a8];exact⟨rfl,λx ⟨t,_,e⟩=>e▸Fs t⟩),inD,List.any_map]
 congr 2;funext t;show ((t.1==u)&&((t.2==v)&&true))=_;rw[Bool.and_true]
structure GW(m:Int)(ts:List (Int×Int)):Prop where
 lo:1<=m
 hi:m<=8
 lt:ts.Pairwise λs t=>ltP s t=true
 ok:∀t∈ts,0<=t.1/\t.1<t.2/\t.2<m
 len:ts.length<=28
structure GS(m:Int)(s:List Int):Prop where
 lt:s.Pairwise (· < ·)
 ok:∀i∈s,0<=i/\i<m
 len:s.length<=8
abbrev wb(m:Int)(ts:List (Int×Int)):D:=.tup [.int m,.tup (ts.map prD)]
abbrev tu(s:List Int):D:=.tup (s.map D.int)
theorem fk{xs:List D}{i:Nat}(h:i<xs.length):atI xs (i:Int)=some xs[i]:=by
 rw[atI,ixN,if_pos (by lia),if_pos (by lia)];simp[h]
theorem all_true(xs:List D):bools? (xs.flatMap λ_=>[.bl true])=some (bW xs.length true):=by
 induction xs with
 |nil=>rfl
 |cons x r ih=>show (bools? (r.flatMap λ_=>[.bl true])).map (true :: ·)=_;rw[ih];rfl
theorem CI(n:Nat):(bW n true).all id=true:=by simp
theorem uF{s t:Int×Int}(h:ltP s t=true):qg .lt (prD s) (prD t)=.ok true:=by
 show R.ok (cF [s.1,s.2] [t.1,t.2])=_;rw[ltP]at h;simp only[cF];by_cases e:s.1=t.1
 ·rw[if_pos e]at h ⊢;by_cases e2:s.2=t.2
  ·rw[e2]at h;simp at h
  ·rw[if_neg e2,h]
 ·rw[if_neg e]at h ⊢;rw[h]
noncomputable def rng(m:Int):List Int:=(a_ m.toNat).map λ(i:Nat)=>(i:Int)
theorem oJ(m:Int):zT 0 m.toNat=(rng m).map D.int:=by
 rw[zT,rng,List.map_map];simp
theorem x8(c:Int->Bool)(ns:List Int):(ns.map D.int).flatMap (λx=>match x with | .int i=>if c i then [D.int i]else []|_=>[])=(ns.filter c).map D.int:=by
 induction ns with
 |nil=>rfl
 |cons a r ih=>
  rw[aM,dX,ih,List.filter_cons];show (if c a=true then [D.int a]else [])++_=_;cases c a<;>rfl
theorem yD(x y:Int)(h:0<y)(h':y<=2^64):small (x%y)=true:=by
 have a:=Int.emod_nonneg x (show y≠0 by lia);have b:=Int.emod_lt_of_pos x h;simp only[small,aJ,decide_eq_true_eq];lia
noncomputable def st(c j:Int):Int:=
 ((((c%2147483647+977 * j+1) * 48271%2147483647) * ((c%2147483647+977 * j+1) * 48271%2147483647)%2147483629+40692 * (j+3)) * 69621%2147483647)/8
theorem GW.sub{m:Int}{ts ps:List (Int×Int)}(h:GW m ps)(s:ts.Sublist ps):GW m ts:=
 ⟨h.lo,h.hi,h.lt.sublist s,λt ht=>h.ok t (s.subset ht),bf s.length_le h.len⟩
theorem eq_int(a b:Int):qg .eq (.int a) (.int b)=.ok (decide (a=b)):=by
 show R.ok (a==b)=_;congr 1
theorem lt_int(a b:Int):qg .lt (.int a) (.int b)=.ok (decide (a<b)):=rfl
theorem wO{w:W}{tg:Tg}{it:It}{b r:Ss}{τ:Env}{ds:List D}(I:List D->Env->Prop)(h:evI w it τ=.ok ds)(h0:I ds τ)
  (hs:∀x t σ,I (x::t) σ->∃σ1 σ2,store tg x σ=.ok σ1/\qf w b σ1=.nx σ2/\I t σ2):∃σ,I [] σ/\qf w (.cons (.for tg it b) r) τ=qf w r σ:=by
 have key:∀(l:List D) (σ:Env),I l σ->∃σ',cV tg (λσ=>qf w b σ) l σ=.nx σ'/\I [] σ':=by
  intro l
  induction l with
  |nil=>intro σ q;exact⟨σ,rfl,q⟩
  |cons x t ih=>
   intro σ q;obtain⟨σ1,σ2,a,b',c⟩:=hs x t σ q;obtain⟨σ',d,e⟩:=ih σ2 c;exact⟨σ',by rw[cV,a];simp only[R.out_ok];rw[b'];exact d,e⟩
 obtain⟨σ',a,b'⟩:=key ds τ h0;refine⟨σ',b',?_⟩;rw[qf,cA,h];simp only[R.out_ok];rw[a]
 rfl
noncomputable instance (m:Int) (ts:List (Int×Int)):Decidable (GW m ts):=
 decidable_of_iff (1<=m/\m<=8/\ts.Pairwise (λs t=>ltP s t=true)/\(∀t∈ts,0<=t.1/\t.1<t.2/\t.2<m)/\ts.length<=28) ⟨λ⟨a,b,c,d,e⟩=>⟨a,b,c,d,e⟩,λ⟨a,b,c,d,e⟩=>⟨a,b,c,d,e⟩⟩
noncomputable def Ends(J:Env->Prop)(Q:D->Prop):O->Prop
 | .nx σ=>J σ
 | .rt d=>Q d
 |_=>False
section
variable{w:W}{J K:Env->Prop}{Q:D->Prop}{s:S}{r:Ss}{τ σ:Env}
theorem eP(h:J τ):Ends J Q (qf w .nil τ):=by rw[qf];exact h
theorem cP(h:evS w s τ=.nx σ)(h':Ends J Q (qf w r σ)):Ends J Q (qf w (.cons s r) τ):=by rw[qf,h];exact h'
theorem zM(h:Ends K Q (evS w s τ))(h':∀σ,K σ->Ends J Q (qf w r σ)):Ends J Q (qf w (.cons s r) τ):=by
 rw[qf];cases q:evS w s τ with
 |nx σ=>rw[q]at h;exact h' σ h
 |rt d=>rw[q]at h;exact h
 |_=>rw[q]at h;exact h.elim
theorem dt{e:E}{d:D}(h:evE w e τ=.ok d)(hq:Q d):Ends J Q (qf w (.cons (.ret e) r) τ):=by
 rw[qf,zJ,h];exact hq
theorem cZ{t:T}{a b:Ss}{v:Bool}(h:evT w t τ=.ok v)(h1:v=true->Ends J Q (qf w a τ))(h2:v=false->Ends J Q (qf w b τ)):Ends J Q (evS w (.ite t a b) τ):=by
 rw[cC,h];cases v
 ·exact h2 rfl
 ·exact h1 rfl
theorem jK{tg:Tg}{it:It}{b:Ss}{ds:List D}(I:List D->Env->Prop)(h:evI w it τ=.ok ds)(h0:I ds τ)(hs:∀x t σ,I (x::t) σ->∃σ1,store tg x σ=.ok σ1/\Ends (I t) Q (qf w b σ1))(hn:∀σ,I [] σ->Ends J Q (qf w r σ)):Ends J Q (qf w (.cons (.for tg it b) r) τ):=by
 have key:∀(l:List D) (σ:Env),I l σ->Ends (I []) Q (cV tg (λσ=>qf w b σ) l σ):=by
  intro l
  induction l with
  |nil=>intro σ q;exact q
  |cons x t ih=>
   intro σ q;obtain⟨σ1,a,b'⟩:=hs x t σ q;rw[cV,a];simp only[R.out_ok];cases z:qf w b σ1 with
   |nx σ2=>rw[z]at b';exact ih σ2 b'
   |rt d=>rw[z]at b';exact b'
   |_=>rw[z]at b';exact b'.elim
 have hk:=key ds τ h0;refine zM (K:=I []) ?_ hn;rw[cA,h];simp only[R.out_ok];cases z:cV tg (λσ=>qf w b σ) ds τ with
 |nx σ2=>rw[z]at hk;exact hk
 |rt d=>rw[z]at hk;exact hk
 |_=>rw[z]at hk;exact hk.elim
end
theorem rn:∀ts:List (Int×Int),pairs? (ts.map prD)=some ts
 | []=>rfl
 |t::r=>by show (pairs? (r.map prD)).map (t :: ·)=_;rw[rn r];rfl
noncomputable def hd(m:Int)(ts:List (Int×Int))(a:Int):List Int:=(rng m).filter λb=>b==a||iP ts a b
end KG
noncomputable def KG.Z:=ay @EV.qf.eq_1 (ay @EV.qf.eq_2 (ay @EV.zN (ay @EV.cD (ay @EV.cQ (ay @EV.zJ (ay @EV.cJ (ay @EV.cC (ay @EV.cK (ay @EV.za (ay @EV.ze (ay @EV.itr?.eq_1 (ay @EV.itr?.eq_2 (ay @EV.qY (ay @EV.zj (ay @EV.zf (ay @EV.zb (ay @EV.zg (ay @EV.qE (ay @EV.qC (ay @EV.qy (ay @EV.qI (ay @EV.qG (ay @EV.qt (ay @EV.qD (ay @EV.qk (ay @EV.qx (ay @EV.qp (ay @EV.qi (ay @EV.qK (ay @EV.qH (ay @EV.zw.eq_1 (ay @EV.zw.eq_2 (ay @EV.fM (ay @EV.fj (ay @EV.dj (ay @EV.fh (ay @EV.fg (ay @EV.zX (ay @EV.d_ (ay @EV.evI.eq_1 (ay @EV.evI.eq_2 (ay @EV.evI.eq_3 (ay @EV.evI.eq_4 (ay @EV.evI.eq_5 (ay @EV.evI.eq_6 (ay @EV.evO.eq_1 (ay @EV.evO.eq_2 (ay @EV.opI.eq_1 (ay @EV.opI.eq_2 (ay @EV.opI.eq_3 (ay @EV.opI.eq_4 (ay @EV.opI.eq_5 (ay @EV.opI.eq_6 (ay @EV.opI.eq_7 (ay @EV.opI.eq_8 (ay @EV.opI.eq_9 (ay @EV.opI.eq_10 (ay @EV.opI.eq_11 (ay @EV.b11.eq_1 (ay @EV.b11.eq_2 (ay @EV.b11.eq_3 (ay @EV.b11.eq_4 (ay @EV.b11.eq_5 (ay @EV.b11.eq_6 (ay @EV.b11.eq_7 (ay @EV.b11.eq_8 (ay @EV.b11.eq_9 (ay @EV.b11.eq_10 (ay @EV.b11.eq_11 (ay @EV.b11.eq_12 (ay @EV.b11.eq_13 (ay @EV.b11.eq_14 (ay @EV.b12.eq_1 (ay @EV.b12.eq_2 (ay @EV.b12.eq_3 (ay @EV.zW.eq_1 (ay @EV.zW.eq_2 (ay @EV.dH.eq_1 (ay @EV.dH.eq_2 (ay @EV.iiR.eq_1 (ay @EV.iiR.eq_2 (ay @EV.bX.eq_1 (ay @EV.store.eq_1 (ay @EV.store.eq_2 (ay @EV.store.eq_3 (ay @EV.setAll.eq_1 (ay @EV.setAll.eq_2 (ay @EV.setAll.eq_3 (ay @EV.truth.eq_1 (ay @EV.truth.eq_2 (ay @EV.truth.eq_3 (ay @EV.truth.eq_4 (ay @EV.truth.eq_5 (ay @EV.truth.eq_6 (ay @KG.uB (ay @KG.Ag (ay @KG.AM (ay @KG.yU (@KG.B6)))))))))))))))))))))))))))))))))))))))))))))))))))))))))))))))))))))))))))))))))))))))))))))))))))
namespace KG
open EV
open PySem (Str)
open L2 (atI ixN ltP)
noncomputable def iU:Fn:=⟨1,1,false,(.cons (.ret (.and (.isi (.var 0) (.ty "int")) (.not (.isi (.var 0) (.ty "bool"))))) .nil)⟩
noncomputable def zD:Fn:=⟨3,3,false,(.cons (.ret (.and (.call "is_whole" (.cons (.var 0) .nil)) (.cmp2 .le .le (.var 1) (.var 0) (.var 2)))) .nil)⟩
noncomputable def fG:Fn:=⟨1,1,false,(.cons (.ret (.and (.isi (.var 0) (.ty "tuple")) (.cmp .eq (.bi .len (.cons (.var 0) .nil)) (.con (.int 2))))) .nil)⟩
noncomputable def gC:Fn:=⟨1,1,false,(.cons (.ret (.bi .all (.cons (.comp (.rng (.op .sub (.bi .len (.cons (.var 0) .nil)) (.con (.int 1)))) [none,none,some 0] (.nm 1) .yes (.cmp .lt (.ix (.var 2) (.var 1)) (.ix (.var 2) (.op .add (.var 1) (.con (.int 1)))))) .nil))) .nil)⟩
noncomputable def gw:Fn:=⟨1,3,false,(.cons (.ite (.not (.val (.call "is_pair" (.cons (.var 0) .nil)))) (.cons (.ret (.con (.bl false))) .nil) .nil) (.cons (.set (.tp [1,2]) (.var 0)) (.cons (.ite (.or (.not (.val (.call "is_between" (.cons (.var 1) (.cons (.con (.int 1)) (.cons (.glb "MOST") .nil)))))) (.not (.val (.isi (.var 2) (.ty "tuple"))))) (.cons (.ret (.con (.bl false))) .nil) .nil) (.cons (.ret (.and (.bi .all (.cons (.comp (.seq (.var 2)) [none,none,some 1] (.nm 1) .yes (.call "is_tie" (.cons (.var 1) (.cons (.var 2) .nil)))) .nil)) (.call "rises" (.cons (.var 2) .nil)))) .nil))))⟩
noncomputable def zQ:Fn:=⟨2,4,false,(.cons (.ite (.not (.val (.call "is_pair" (.cons (.var 0) .nil)))) (.cons (.ret (.con (.bl false))) .nil) .nil) (.cons (.set (.tp [2,3]) (.var 0)) (.cons (.ret (.and (.call "is_whole" (.cons (.var 2) .nil)) (.and (.call "is_whole" (.cons (.var 3) .nil)) (.cmp3 .le .lt .lt (.con (.int 0)) (.var 2) (.var 3) (.var 1))))) .nil)))⟩
noncomputable def pv:Fn:=⟨1,1,false,(.cons (.ite (.not (.val (.call "is_web" (.cons (.var 0) .nil)))) (.cons (.raise "NoWeb" (.cons (.con (.str "a web is due")) .nil)) .nil) .nil) .nil)⟩
noncomputable def tH:Fn:=⟨1,1,false,(.cons (.exp (.call "need_web" (.cons (.var 0) .nil))) (.cons (.ret (.bi .tuple (.cons (.comp (.rng (.ix (.var 0) (.con (.int 0)))) [none,none,some 0] (.nm 1) .yes (.call "hood_of" (.cons (.var 2) (.cons (.var 1) .nil)))) .nil))) .nil))⟩
noncomputable def jn:Fn:=⟨2,4,false,(.cons (.set (.tp [2,3]) (.var 0)) (.cons (.ret (.bi .tuple (.cons (.comp (.rng (.var 2)) [none,none,some 1,some 3] (.nm 1) (.or (.cmp .eq (.var 1) (.var 2)) (.val (.call "are_tied" (.cons (.var 3) (.cons (.var 2) (.cons (.var 1) .nil)))))) (.var 1)) .nil))) .nil))⟩
noncomputable def iW:Fn:=⟨3,3,false,(.cons (.ret (.cmp .isin (.tup (.cons (.bi .min (.cons (.var 1) (.cons (.var 2) .nil))) (.cons (.bi .max (.cons (.var 1) (.cons (.var 2) .nil))) .nil))) (.var 0))) .nil)⟩
noncomputable def yW:Fn:=⟨2,2,false,(.cons (.ret (.bi .tuple (.cons (.comp (.seq (.var 1)) [none,none,some 0] (.nm 1) (.cmp .isin (.var 1) (.var 2)) (.var 1)) .nil))) .nil)⟩
noncomputable def EZ:Fn:=⟨2,2,false,(.cons (.ret (.comp (.seq (.var 0)) [none,none,some 1] (.nm 1) .yes (.call "mark_of" (.cons (.var 1) (.cons (.var 2) .nil))))) .nil)⟩
noncomputable def Bl:Fn:=⟨1,3,false,(.cons (.set (.nm 1) (.lst (.cons (.tup .nil) .nil))) (.cons (.for (.nm 2) (.rng (.ix (.var 0) (.con (.int 0)))) (.cons (.set (.nm 1) (.op .add (.var 1) (.comp (.seq (.var 1)) [none,none,some 2] (.nm 1) .yes (.op .add (.var 1) (.tup (.cons (.var 2) .nil)))))) .nil)) (.cons (.ret (.bi .sorted (.cons (.var 1) .nil))) .nil)))⟩
noncomputable def rJ:Fn:=⟨2,2,false,(.cons (.ite (.cmp .lt (.var 1) (.bi .len (.cons (.var 0) .nil))) (.cons (.ret (.ix (.var 0) (.var 1))) .nil) .nil) (.cons (.ret (.con (.int 0))) .nil))⟩
noncomputable def zG:Fn:=⟨2,3,false,(.cons (.set (.nm 2) (.op .mod (.op .mul (.op .add (.op .add (.op .mod (.var 0) (.con (.int 2147483647))) (.op .mul (.con (.int 977)) (.var 1))) (.con (.int 1))) (.con (.int 48271))) (.con (.int 2147483647)))) (.cons (.set (.nm 2) (.op .mod (.op .mul (.var 2) (.var 2)) (.con (.int 2147483629)))) (.cons (.set (.nm 2) (.op .mod (.op .mul (.op .add (.var 2) (.op .mul (.con (.int 40692)) (.op .add (.var 1) (.con (.int 3))))) (.con (.int 69621))) (.con (.int 2147483647)))) (.cons (.ret (.op .fdiv (.var 2) (.con (.int 8)))) .nil))))⟩
noncomputable def rS:Fn:=⟨2,10,false,(.cons (.set (.nm 2) (.op .add (.con (.int 1)) (.op .mod (.var 0) (.var 1)))) (.cons (.set (.nm 3) (.op .fdiv (.var 0) (.var 1))) (.cons (.set (.nm 4) (.op .mod (.var 3) (.con (.int 6)))) (.cons (.set (.nm 5) (.lst .nil)) (.cons (.for (.nm 6) (.rng2 (.con (.int 1)) (.var 2)) (.cons (.for (.nm 7) (.rng (.var 6)) (.cons (.set (.nm 8) (.op .band (.op .shr (.op .fdiv (.var 3) (.con (.int 6))) (.op .add (.op .fdiv (.op .mul (.var 6) (.op .sub (.var 6) (.con (.int 1)))) (.con (.int 2))) (.var 7))) (.con (.int 1)))) (.cons (.ite (.cmp .eq (.var 4) (.con (.int 3))) (.cons (.set (.nm 8) (.op .fdiv (.op .mod (.call "_law_stir" (.cons (.var 0) (.cons (.op .add (.op .mul (.con (.int 8)) (.var 7)) (.var 6)) .nil))) (.con (.int 3))) (.con (.int 2)))) .nil) .nil) (.cons (.ite (.cmp .eq (.var 4) (.con (.int 4))) (.cons (.set (.nm 8) (.op .fdiv (.op .add (.op .mod (.call "_law_stir" (.cons (.var 0) (.cons (.op .add (.op .mul (.con (.int 8)) (.var 7)) (.var 6)) .nil))) (.con (.int 4))) (.con (.int 2))) (.con (.int 3)))) .nil) .nil) (.cons (.ite (.cmp .eq (.var 4) (.con (.int 5))) (.cons (.set (.nm 9) (.lst (.cons (.cmp .eq (.var 6) (.op .add (.var 7) (.con (.int 1)))) (.cons (.or (.cmp .eq (.var 6) (.op .add (.var 7) (.con (.int 1)))) (.cmp .eq (.op .sub (.var 6) (.var 7)) (.op .sub (.var 2) (.con (.int 1))))) (.cons (.cmp .eq (.var 7) (.con (.int 0))) (.cons (.con (.bl true)) (.cons (.and (.cmp .eq (.var 6) (.op .add (.var 7) (.con (.int 1)))) (.cmp .lt (.op .mod (.var 7) (.con (.int 3))) (.con (.int 2)))) .nil))))))) (.cons (.set (.nm 8) (.bi .int (.cons (.ix (.var 9) (.op .mod (.op .fdiv (.var 3) (.con (.int 6))) (.con (.int 5)))) .nil))) .nil)) .nil) (.cons (.ite (.cmp .eq (.var 8) (.con (.int 1))) (.cons (.app 5 (.tup (.cons (.var 7) (.cons (.var 6) .nil)))) .nil) .nil) .nil)))))) .nil)) (.cons (.ret (.tup (.cons (.var 2) (.cons (.bi .tuple (.cons (.bi .sorted (.cons (.own 5) .nil)) .nil)) .nil)))) .nil))))))⟩
noncomputable def v8:Fn:=⟨1,4,false,(.cons (.set (.nm 1) (.comp (.rng (.ix (.var 0) (.con (.int 0)))) [none,none] (.nm 1) .yes (.op .shl (.con (.int 1)) (.var 1)))) (.cons (.for (.tp [2,3]) (.seq (.ix (.var 0) (.con (.int 1)))) (.cons (.seti 1 (.var 2) (.op .bor (.ix (.own 1) (.var 2)) (.op .shl (.con (.int 1)) (.var 3)))) (.cons (.seti 1 (.var 3) (.op .bor (.ix (.own 1) (.var 3)) (.op .shl (.con (.int 1)) (.var 2)))) .nil))) (.cons (.ret (.own 1)) .nil)))⟩
noncomputable def v_:Fn:=⟨2,2,false,(.cons (.ret (.bi .tuple (.cons (.comp (.rng (.var 0)) [none,none,some 1] (.nm 1) (.cmp .eq (.op .band (.op .shr (.var 2) (.var 1)) (.con (.int 1))) (.con (.int 1))) (.var 1)) .nil))) .nil)⟩
noncomputable def lA:Fn:=⟨2,2,false,(.cons (.ret (.call "is_between" (.cons (.var 1) (.cons (.con (.int 0)) (.cons (.op .sub (.ix (.var 0) (.con (.int 0))) (.con (.int 1))) .nil))))) .nil)⟩
noncomputable def mz:Fn:=⟨2,2,false,(.cons (.ite (.not (.val (.isi (.var 1) (.ty "tuple")))) (.cons (.ret (.con (.bl false))) .nil) .nil) (.cons (.ret (.and (.bi .all (.cons (.comp (.seq (.var 1)) [none,none,some 0] (.nm 1) .yes (.call "is_place" (.cons (.var 2) (.cons (.var 1) .nil)))) .nil)) (.call "rises" (.cons (.var 1) .nil)))) .nil))⟩
noncomputable def sV:Fn:=⟨2,2,false,(.cons (.ite (.not (.val (.call "is_some" (.cons (.var 0) (.cons (.var 1) .nil))))) (.cons (.raise "NoPlaces" (.cons (.con (.str "a rising tuple of places of the web is due")) .nil)) .nil) .nil) .nil)⟩
structure Web(p:Pr):Prop where
 is_whole:p.fns "is_whole" = some iU
 is_between:p.fns "is_between" = some zD
 is_pair:p.fns "is_pair" = some fG
 rises:p.fns "rises" = some gC
 is_web:p.fns "is_web" = some gw
 is_tie:p.fns "is_tie" = some zQ
 need_web:p.fns "need_web" = some pv
 MOST:p.glb "MOST" = some (.int 8)
structure Base(p:Pr):Prop extends Web p where
 all_some:p.fns "all_some" = some Bl
 _law_cell_at:p.fns "_law_cell_at" = some rJ
 _law_stir:p.fns "_law_stir" = some zG
 _law_web:p.fns "_law_web" = some rS
 _law_some:p.fns "_law_some" = some v_
structure oO(p:Pr):Prop where
 _law_cell_at:p.fns "_law_cell_at" = some rJ
 _law_stir:p.fns "_law_stir" = some zG
 _law_web:p.fns "_law_web" = some rS
theorem Base.draw{p:Pr}(B:Base p):oO p:=⟨B._law_cell_at,B._law_stir,B._law_web⟩
structure Hds(p:Pr):Prop where
 hoods:p.fns "hoods" = some tH
 hood_of:p.fns "hood_of" = some jn
 are_tied:p.fns "are_tied" = some iW
structure Nbr(p:Pr):Prop where
 hoods:p.fns "hoods" = some tH
 hood_of:p.fns "hood_of" = some jn
 are_tied:p.fns "are_tied" = some iW
 mark_of:p.fns "mark_of" = some yW
 marks_of:p.fns "marks_of" = some EZ
structure E4(p:Pr):Prop extends Nbr p where
 _law_masks:p.fns "_law_masks" = some v8
noncomputable instance {p:Pr}:CoeOut (Base p) (Web p):=⟨λb=>b.toWeb⟩
theorem Nbr.hds{p:Pr}(O:Nbr p):Hds p:=⟨O.hoods,O.hood_of,O.are_tied⟩
noncomputable instance {p:Pr}:CoeOut (Base p) (oO p):=⟨λb=>b.draw⟩
noncomputable instance {p:Pr}:CoeOut (Nbr p) (Hds p):=⟨λb=>b.hds⟩
noncomputable instance {p:Pr}:CoeOut (E4 p) (Nbr p):=⟨λb=>b.toNbr⟩
structure lR(p:Pr):Prop where
 is_place:p.fns "is_place" = some lA
 is_some:p.fns "is_some" = some mz
structure jG(p:Pr):Prop where
 is_place:p.fns "is_place" = some lA
 is_some:p.fns "is_some" = some mz
 need_some:p.fns "need_some" = some sV
theorem jG.a{p:Pr}(b:jG p):lR p:=⟨b.is_place,b.is_some⟩
noncomputable instance {p:Pr}:CoeOut (jG p) (lR p):=⟨λb=>b.a⟩
section
variable{p:Pr}
theorem qc{k:Nat}{x:Str}{f:Fn}{ds:List D}(h:p.fns x=some f):qa p (k+1) x ds=cz ⟨qa p k,p.glb,p.sub,p.cat⟩ f ds:=by
 rw[qa,h]
theorem jH{k:Nat}{x:Str}{f:Fn}{ds:List D}{τ:Env}{Q:D->Prop}(hf:p.fns x=some f)(hl:ds.length=f.ps)(hτ:ds.map some++bW (f.N-f.ps) none=τ)(h:Ends (λ_=>False) Q (qf (wAt p k) f.body τ)):∃d,qa p (k+1) x ds=.ok d/\Q d:=by
 rw[qc hf,cz,if_pos hl,hτ];cases z:qf ⟨qa p k,p.glb,p.sub,p.cat⟩ f.body τ with
 |rt d=>rw[z]at h;exact⟨d,rfl,h⟩
 |nx _=>rw[z]at h;exact h.elim
 |_=>rw[z]at h;exact h.elim
section
variable(B:Web p)
include B
theorem is_whole{k:Nat}(i:Int):qa p (k+1) "is_whole" [.int i]=.ok (.bl true):=by rw[qc B.is_whole];rfl
theorem is_between{k:Nat}(i a b:Int)(h:a<=i/\i<=b):qa p (k+2) "is_between" [.int i,.int a,.int b]=.ok (.bl true):=by
 rw[qc B.is_between];refine zo rfl rfl ?_;simp[KG.Z,zD,is_whole B,qg,jr,h.1,h.2]
theorem is_pair{k:Nat}(a b:D):qa p (k+1) "is_pair" [.tup [a,b]]=.ok (.bl true):=by
 rw[qc B.is_pair];refine zo rfl rfl ?_;simp[KG.Z,fG,b1,seq?,qg,D.asks,D.plain,D.deep,D.eqv]
theorem is_tie{k:Nat}(a b m:Int)(h:0<=a/\a<b/\b<m):qa p (k+2) "is_tie" [.tup [.int a,.int b],.int m]=.ok (.bl true):=by
 rw[qc B.is_tie];refine zo rfl rfl ?_;simp[KG.Z,zQ,is_pair B,is_whole B,qg,jr,h.1,h.2.1,h.2.2]
theorem rises{k:Nat}(xs:List D)(hz:xs.length<=28)(h:∀(i:Nat) (q:i+1<xs.length),qg .lt xs[i] xs[i+1]=.ok true):qa p (k+1) "rises" [.tup xs]=.ok (.bl true):=by
 rw[qc B.rises];refine zo rfl rfl ?_;have hr:zt ((xs.length:Int)-1)=true:=by simp[zt];lia
 have hc:evE ⟨qa p k,p.glb,p.sub,p.cat⟩ (.comp (.rng (.op .sub (.bi .len (.cons (.var 0) .nil)) (.con (.int 1)))) [none,none,some 0] (.nm 1) .yes (.cmp .lt (.ix (.var 2) (.var 1)) (.ix (.var 2) (.op .add (.var 1) (.con (.int 1)))))) [some (.tup xs)]=.ok (.lst ((zT 0 ((xs.length:Int)-1).toNat).flatMap λ_=>[.bl true])):=by
  refine jW (c:=[some (.tup xs)]) ?_ ?_ rfl ?_
  ·simp[KG.Z,b1,seq?,op2,hr]
  ·simp[zT,SZ];lia
  ·intro x hx;simp only[zT,a8,List.mem_range]at hx;obtain⟨i,hi,rfl⟩:=hx;have e1:atI xs ((0:Int)+(i:Int))=some xs[i]:=by rw[Int.zero_add];exact fk (by lia)
   have e2:atI xs ((0:Int)+(i:Int)+1)=some xs[i+1]:=by rw[Int.zero_add];exact fk (i:=i+1) (by lia)
   have e3:=h i (by lia);simp only[Int.zero_add]at e1 e2;simp[KG.Z,ixD,op2,e1,e2,e3]
 simp[KG.Z,gC,hc,b1,all_true,CI]
theorem is_web{k:Nat}{m:Int}{ts:List (Int×Int)}(h:GW m ts):qa p (k+3) "is_web" [wb m ts]=.ok (.bl true):=by
 rw[qc B.is_web];refine zo rfl rfl ?_;have hr:=rises B (k:=k+1) (ts.map prD) (by simpa using h.len) (λi q=>by
  rw[dY,dY];exact uF (List.pairwise_iff_getElem.mp h.lt i (i+1) (by simp at q;lia) (by simpa using q) (by lia)))
 have hc:evE ⟨qa p (k+2),p.glb,p.sub,p.cat⟩ (.comp (.seq (.var 2)) [none,none,some 1] (.nm 1) .yes (.call "is_tie" (.cons (.var 1) (.cons (.var 2) .nil)))) [some (wb m ts),some (.int m),some (.tup (ts.map prD))]=.ok (.lst ((ts.map prD).flatMap λ_=>[.bl true])):=by
  refine jW (c:=[some (.int m)]) ?_ ?_ rfl ?_
  ·simp[KG.Z,seq?]
  ·simp[SZ];have:=h.len;lia
  ·intro x hx;rw[a8]at hx;obtain⟨t,ht,rfl⟩:=hx;have e:=is_tie B (k:=k) t.1 t.2 m (h.ok t ht);have e':qa p (k+2) "is_tie" [prD t,.int m]=.ok (.bl true):=e;simp[KG.Z,e']
 simp[KG.Z,gw,is_pair B,is_between B m 1 8 ⟨h.lo,h.hi⟩,B.MOST,hc,b1,all_true,hr]
theorem need_web{k:Nat}{m:Int}{ts:List (Int×Int)}(h:GW m ts):qa p (k+4) "need_web" [wb m ts]=.ok .non:=by
 rw[qc B.need_web];simp only[cz];simp[KG.Z,pv,is_web B h]
end
theorem gE(hf:p.fns "_law_stir" = some zG){k:Nat}(c j:Int):qa p (k+1) "_law_stir" [.int c,.int j]=.ok (.int (st c j)):=by
 have s1:small 977=true:=by decide
 have s2:small 48271=true:=by decide
 have s3:small 40692=true:=by decide
 have s4:small 69621=true:=by decide
 have s5:=yD ((c%2147483647+977 * j+1) * 48271) 2147483647 (by decide) (by decide);rw[qc hf];refine zo rfl rfl ?_;simp[KG.Z,zG,op2,s1,s2,s3,s4,s5,st]
section
variable(B:Base p)
include B
end
section
variable(B:Web p)(S:lR p)
include B S
theorem is_place{k:Nat}(i m:Int)(t:D)(h:0<=i/\i<m):qa p (k+3) "is_place" [.tup [.int m,t],.int i]=.ok (.bl true):=by
 rw[qc S.is_place];refine zo rfl rfl ?_;simp[KG.Z,lA,ixD,atI,ixN,op2,is_between B i 0 (m-1) (by lia)]
theorem is_some{k:Nat}{m:Int}{t:D}{s:List Int}(h:GS m s):qa p (k+4) "is_some" [.tup [.int m,t],tu s]=.ok (.bl true):=by
 rw[qc S.is_some];refine zo rfl rfl ?_;have hr:=rises B (k:=k+2) (s.map D.int) (by simp;have:=h.len;lia) (λi q=>by
  rw[dY,dY];have:=List.pairwise_iff_getElem.mp h.lt i (i+1) (by simp at q;lia) (by simpa using q) (by lia);simp[qg,jr,this])
 have hc:evE ⟨qa p (k+3),p.glb,p.sub,p.cat⟩ (.comp (.seq (.var 1)) [none,none,some 0] (.nm 1) .yes (.call "is_place" (.cons (.var 2) (.cons (.var 1) .nil)))) [some (.tup [.int m,t]),some (tu s)]=.ok (.lst ((s.map D.int).flatMap λ_=>[.bl true])):=by
  refine jW (c:=[some (.tup [.int m,t])]) ?_ ?_ rfl ?_
  ·simp[KG.Z,seq?]
  ·simp[SZ];have:=h.len;lia
  ·intro x hx;rw[a8]at hx;obtain⟨i,hi,rfl⟩:=hx;simp[KG.Z,is_place B S i m t (h.ok i hi)]
 simp[KG.Z,mz,hc,b1,all_true,hr]
omit S in
theorem need_some(S:jG p){k:Nat}{m:Int}{t:D}{s:List Int}(h:GS m s):qa p (k+5) "need_some" [.tup [.int m,t],tu s]=.ok .non:=by
 rw[qc S.need_some];simp only[cz];simp[KG.Z,sV,is_some B S h]
end
theorem mX(hA:p.fns "are_tied" = some iW){k:Nat}(ts:List (Int×Int))(a b:Int):qa p (k+1) "are_tied" [.tup (ts.map prD),.int a,.int b]=.ok (.bl (iP ts a b)):=by
 rw[qc hA];refine zo rfl rfl ?_;simp[KG.Z,iW,b1,AL,iP,mn,mx]
theorem Cy(hH:p.fns "hood_of" = some jn)(hA:p.fns "are_tied" = some iW){k:Nat}{m:Int}{ts:List (Int×Int)}(h:GW m ts)(a:Int):qa p (k+2) "hood_of" [wb m ts,.int a]=.ok (tu (hd m ts a)):=by
 rw[qc hH];refine zo rfl rfl ?_;have h1:=h.lo;have h2:=h.hi;have hc:evE ⟨qa p (k+1),p.glb,p.sub,p.cat⟩ (.comp (.rng (.var 2)) [none,none,some 1,some 3] (.nm 1) (.or (.cmp .eq (.var 1) (.var 2)) (.val (.call "are_tied" (.cons (.var 3) (.cons (.var 2) (.cons (.var 1) .nil)))))) (.var 1)) [some (wb m ts),some (.int a),some (.int m),some (.tup (ts.map prD))]=.ok (.lst ((hd m ts a).map D.int)):=by
  rw[hd,<-x8,<-oJ];refine jW (c:=[some (.int a),some (.tup (ts.map prD))]) ?_ ?_ rfl ?_
  ·have:zt m=true:=by simp[zt];lia
   simp[KG.Z,this]
  ·simp[zT,SZ];lia
  ·intro x hx;rw[oJ,a8]at hx;obtain⟨b,hb,rfl⟩:=hx;have e:qg .eq (.int b) (.int a)=.ok (b==a):=rfl;simp[KG.Z,e,mX hA];by_cases q:b=a
   ·simp[q]
   ·simp[q];cases iP ts a b<;>simp
 simp[KG.Z,jn,hc,b1,seq?]
section
variable(B:Web p)(O:Hds p)
include O
theorem are_tied{k:Nat}(ts:List (Int×Int))(a b:Int):qa p (k+1) "are_tied" [.tup (ts.map prD),.int a,.int b]=.ok (.bl (iP ts a b)):=mX O.are_tied ts a b
theorem hood_of{k:Nat}{m:Int}{ts:List (Int×Int)}(h:GW m ts)(a:Int):qa p (k+2) "hood_of" [wb m ts,.int a]=.ok (tu (hd m ts a)):=Cy O.hood_of O.are_tied h a
include B
end
section
variable(O:Nbr p)
include O
end
end
theorem Af{α:Type}{w:W}{it:It}{cap:List (Option Nat)}{t:T}{elt:E}{τ c:Env}{l:List α}{f:α->D}(q:α->Bool)(g:α->D)(h:evI w it τ=.ok (l.map f))(hz:l.length<=SZ)(hc:ef cap τ=none::none::c)
  (hb:∀a∈l,evT w t (none::some (f a)::c)=.ok (q a)/\(q a=true->evE w elt (none::some (f a)::c)=.ok (g a))):evE w (.comp it cap (.nm 1) t elt) τ=.ok (.lst ((l.filter q).map g)):=by
 have key:∀(r:List α) (v:Option D) (acc:List D),(∀x∈r,x∈l)->zZ (λx σ=>noEx ((store (.nm 1) x σ).bind λσ'=>(evT w t σ').bind λr=>if r then (evE w elt σ').bind λd=>.ok (σ',[d])else .ok (σ',[]))) (r.map f) (none::v::c) acc=.ok (acc++(r.filter q).map g):=by
  intro r
  induction r with
  |nil=>intro v acc _;simp[zZ]
  |cons x r ih=>
   intro v acc hm;obtain⟨h1,h2⟩:=hb x (hm x aO);rw[aM,zZ];have e:noEx ((store (.nm 1) (f x) (none::v::c)).bind λσ'=>(evT w t σ').bind λr=>if r then (evE w elt σ').bind λd=>.ok (σ',[d])else .ok (σ',[]))=.ok (none::some (f x)::c,if q x then [g x]else []):=by
    simp only[store,R.bind_ok,List.set_cons_succ,List.set_cons_zero,h1];cases hq:q x with
    |false=>rfl
    |true=>simp only[if_true,h2 hq,R.bind_ok];rfl
   rw[e];simp only[R.bind_ok];rw[ih (some (f x)) _ λy hy=>hm y (aK _ hy),List.filter_cons,List.append_assoc];cases q x<;>simp
 rw[qw,h];simp only[R.bind_ok];rw[if_neg (by simp;lia),hc,key l none [] λ_ h=>h]
 rfl
theorem gn{α:Type}{w:W}{it:It}{cap:List (Option Nat)}{elt:E}{τ c:Env}{l:List α}{f:α->D}(g:α->D)(h:evI w it τ=.ok (l.map f))(hz:l.length<=SZ)(hc:ef cap τ=none::none::c)
  (hb:∀a∈l,evE w elt (none::some (f a)::c)=.ok (g a)):evE w (.comp it cap (.nm 1) .yes elt) τ=.ok (.lst (l.map g)):=by
 have:=Af (t:=.yes) (elt:=elt) (f:=f) (λ_=>true) g h hz hc λa ha=>⟨rfl,λ_=>hb a ha⟩
 rwa[List.filter_eq_self.mpr (λ_ _=>rfl)]at this
theorem sI{w:W}{e:E}{τ:Env}{xs:List D}(h:evE w e τ=.ok (.tup xs)):evI w (.seq e) τ=.ok xs:=by rw[evI.eq_1,h];rfl
theorem jw{α:Type}(l:List α)(f:α->Bool):bools? (l.map λa=>D.bl (f a))=some (l.map f):=by
 induction l with
 |nil=>rfl
 |cons a r ih=>rw[aM,bools?,ih];rfl
theorem t_{α:Type}(l:List α)(f:α->Bool):b1 .all [.lst (l.map λa=>D.bl (f a))]=.ok (.bl (l.all f)):=by
 rw[b1,b11];simp only[dH];rw[jw];simp only[zW];rw[List.all_map];rfl
theorem Ck(xs:List D):b1 .len [.tup xs]=.ok (.int xs.length):=rfl
theorem ne_int(a b:Int):qg .ne (.int a) (.int b)=.ok (!decide (a=b)):=by
 show R.ok (!(a==b))=_
 congr 1
theorem vh(a b:Bool):qg .ne (.bl a) (.bl b)=.ok (!decide (a=b)):=by
 cases a<;>cases b<;>rfl
theorem ix0{α:Type}(f:α->D)(a:α)(r:List α):ixD (.lst ((a::r).map f)) (.int 0)=.ok (f a):=by
 have:=fk (xs:=(a::r).map f) (i:=0) (by simp);simp only[ixD];rw[show (0:Int)=((0:Nat):Int)from rfl,this];rfl
theorem uf(ns:List Int)(lo hi:Option Int):∃cs:List Int,cutD (ns.map D.int) lo hi=cs.map D.int/\cs.length<=ns.length:=by
 refine⟨(ns.drop _).take _,by rw[cutD,<-List.map_drop,<-List.map_take],by simp;lia⟩
theorem fx{α:Type}{f:α->D}{r:List D}{x:D}{l:List α}(e:x::r=l.map f):∃a l',l=a::l'/\x=f a/\r=l'.map f:=by
 cases l with
 |nil=>cases e
 |cons a l'=>rw[aM]at e;injection e with e1 e2;exact⟨a,l',rfl,e1,e2⟩
theorem Ct{w:W}{f:Fn}{ds:List D}{τ:Env}{Q:D->Prop}(hl:ds.length=f.ps)(hτ:ds.map some++bW (f.N-f.ps) none=τ)(h:Ends (λ_=>False) Q (qf w f.body τ)):∃d,cz w f ds=.ok d/\Q d:=by
 rw[cz,if_pos hl,hτ];cases z:qf w f.body τ with
 |rt d=>rw[z]at h;exact⟨d,rfl,h⟩
 |nx _=>rw[z]at h;exact h.elim
 |_=>rw[z]at h;exact h.elim
noncomputable def gp:Fn:=⟨2,4,false,(.cons (.ite (.cmp .is (.var 1) (.con .non)) (.cons (.ret (.cmp .is (.var 0) (.con .non))) .nil) .nil) (.cons (.ite (.val (.isi (.var 1) (.ty "bool"))) (.cons (.ret (.and (.isi (.var 0) (.ty "bool")) (.cmp .eq (.var 0) (.var 1)))) .nil) .nil) (.cons (.ite (.val (.isi (.var 1) (.ty "int"))) (.cons (.ret (.and (.isi (.var 0) (.ty "int")) (.and (.not (.isi (.var 0) (.ty "bool"))) (.cmp .eq (.var 0) (.var 1))))) .nil) .nil) (.cons (.ite (.val (.isi (.var 1) (.ty "str"))) (.cons (.ret (.and (.isi (.var 0) (.ty "str")) (.cmp .eq (.var 0) (.var 1)))) .nil) .nil) (.cons (.ite (.or (.cmp .ne (.isi (.var 1) (.ty "list")) (.isi (.var 0) (.ty "list"))) (.cmp .ne (.isi (.var 1) (.ty "tuple")) (.isi (.var 0) (.ty "tuple")))) (.cons (.ret (.con (.bl false))) .nil) .nil) (.cons (.ite (.cmp .ne (.bi .len (.cons (.var 0) .nil)) (.bi .len (.cons (.var 1) .nil))) (.cons (.ret (.con (.bl false))) .nil) .nil) (.cons (.for (.tp [2,3]) (.zip (.var 0) (.var 1)) (.cons (.ite (.not (.val (.call "_law_same" (.cons (.var 2) (.cons (.var 3) .nil))))) (.cons (.ret (.con (.bl false))) .nil) .nil) .nil)) (.cons (.ret (.con (.bl true))) .nil))))))))⟩
noncomputable def fU:Fn:=⟨1,3,false,(.cons (.set (.nm 1) (.lst .nil)) (.cons (.for (.nm 2) (.rng (.var 0)) (.cons (.set (.nm 1) (.op .add (.var 1) (.comp (.rng2 (.op .add (.var 2) (.con (.int 1))) (.var 0)) [none,none,some 2] (.nm 1) .yes (.tup (.cons (.var 2) (.cons (.var 1) .nil)))))) .nil)) (.cons (.ret (.var 1)) .nil)))⟩
noncomputable def g_:Fn:=⟨2,5,false,(.cons (.set (.nm 2) (.lst .nil)) (.cons (.for (.tp [3,4]) (.enum (.call "_law_pairs" (.cons (.var 0) .nil))) (.cons (.ite (.and (.cmp .eq (.op .mod (.var 1) (.con (.int 2))) (.con (.int 0))) (.cmp .eq (.op .mod (.op .shr (.op .fdiv (.var 1) (.con (.int 2))) (.var 3)) (.con (.int 2))) (.con (.int 1)))) (.cons (.app 2 (.var 4)) .nil) .nil) (.cons (.ite (.and (.cmp .eq (.op .mod (.var 1) (.con (.int 2))) (.con (.int 1))) (.cmp .lt (.op .mod (.call "_law_stir" (.cons (.var 1) (.cons (.var 3) .nil))) (.con (.int 5))) (.op .add (.con (.int 1)) (.op .mod (.op .fdiv (.var 1) (.con (.int 2))) (.con (.int 3)))))) (.cons (.app 2 (.var 4)) .nil) .nil) .nil))) (.cons (.ret (.tup (.cons (.var 0) (.cons (.bi .tuple (.cons (.own 2) .nil)) .nil)))) .nil)))⟩
noncomputable def Dj:Fn:=⟨2,2,false,(.cons (.ite (.cmp .eq (.op .mod (.var 1) (.con (.int 2))) (.con (.int 0))) (.cons (.ret (.bi .tuple (.cons (.comp (.rng (.var 0)) [none,none,some 1] (.nm 1) (.cmp .eq (.op .mod (.op .shr (.op .fdiv (.var 2) (.con (.int 2))) (.var 1)) (.con (.int 2))) (.con (.int 1))) (.var 1)) .nil))) .nil) .nil) (.cons (.ret (.bi .tuple (.cons (.comp (.rng (.var 0)) [none,none,some 1] (.nm 1) (.cmp .lt (.op .mod (.call "_law_stir" (.cons (.var 2) (.cons (.op .add (.var 1) (.con (.int 60))) .nil))) (.con (.int 4))) (.op .add (.con (.int 1)) (.op .mod (.op .fdiv (.var 2) (.con (.int 2))) (.con (.int 3))))) (.var 1)) .nil))) .nil))⟩
structure Lw(p:Pr):Prop where
 _law_stir:p.fns "_law_stir" = some zG
 _law_pairs:p.fns "_law_pairs" = some fU
 _law_web_by:p.fns "_law_web_by" = some g_
 _law_some_by:p.fns "_law_some_by" = some Dj
section
variable{p:Pr}
noncomputable def prs(n:Nat):List (Int×Int):=(a_ n).flatMap λa=>((a_ n).filter λb=>decide (a<b)).map λ(b:Nat)=>((a:Int),(b:Int))
theorem Bp(hf:p.fns "_law_pairs" = some fU)(m:Int)(h1:1<=m)(h2:m<=8):∃P,(∀k,qa p (k+1) "_law_pairs" [.int m]=.ok (.lst (P.map prD)))/\GW m P:=by
 have:m=1\/m=2\/m=3\/m=4\/m=5\/m=6\/m=7\/m=8:=by lia
 rcases this with rfl|rfl|rfl|rfl|rfl|rfl|rfl|rfl
 ·exact⟨prs 1,λk=>by rw[qc hf];kernel_rfl,by decide +kernel⟩
 ·exact⟨prs 2,λk=>by rw[qc hf];kernel_rfl,by decide +kernel⟩
 ·exact⟨prs 3,λk=>by rw[qc hf];kernel_rfl,by decide +kernel⟩
 ·exact⟨prs 4,λk=>by rw[qc hf];kernel_rfl,by decide +kernel⟩
 ·exact⟨prs 5,λk=>by rw[qc hf];kernel_rfl,by decide +kernel⟩
 ·exact⟨prs 6,λk=>by rw[qc hf];kernel_rfl,by decide +kernel⟩
 ·exact⟨prs 7,λk=>by rw[qc hf];kernel_rfl,by decide +kernel⟩
 ·exact⟨prs 8,λk=>by rw[qc hf];kernel_rfl,by decide +kernel⟩
noncomputable def WI(m c:Int)(P:List (Int×Int))(r:List D)(σ:Env):Prop:=
 ∃(j:Nat) (ts ps:List (Int×Int)) (v u:Option D),r=eD j (ps.map prD)/\(ts++ps).Sublist P/\σ=[some (.int m),some (.int c),some (.lst (ts.map prD)),v,u]
theorem wI(hS:p.fns "_law_stir" = some zG)(hP0:p.fns "_law_pairs" = some fU)(hW:p.fns "_law_web_by" = some g_){k:Nat}(m c:Int)(h1:1<=m)(h2:m<=8):∃ts,GW m ts/\qa p (k+2) "_law_web_by" [.int m,.int c]=.ok (wb m ts):=by
 obtain⟨P,hP,g⟩:=Bp hP0 m h1 h2;have hl:=g.len;obtain⟨σ,⟨j,ts,ps,v,u,e,s,rfl⟩,ev⟩:=wO (w:=⟨qa p (k+1),p.glb,p.sub,p.cat⟩) (tg:=.tp [3,4]) (it:=.enum (.call "_law_pairs" (.cons (.var 0) .nil)))
  (b:=.cons (.ite (.and (.cmp .eq (.op .mod (.var 1) (.con (.int 2))) (.con (.int 0))) (.cmp .eq (.op .mod (.op .shr (.op .fdiv (.var 1) (.con (.int 2))) (.var 3)) (.con (.int 2))) (.con (.int 1)))) (.cons (.app 2 (.var 4)) .nil) .nil) (.cons (.ite (.and (.cmp .eq (.op .mod (.var 1) (.con (.int 2))) (.con (.int 1))) (.cmp .lt (.op .mod (.call "_law_stir" (.cons (.var 1) (.cons (.var 3) .nil))) (.con (.int 5))) (.op .add (.con (.int 1)) (.op .mod (.op .fdiv (.var 1) (.con (.int 2))) (.con (.int 3)))))) (.cons (.app 2 (.var 4)) .nil) .nil) .nil))
  (r:=.cons (.ret (.tup (.cons (.var 0) (.cons (.bi .tuple (.cons (.own 2) .nil)) .nil)))) .nil) (τ:=[some (.int m),some (.int c),some (.lst []),none,none]) (ds:=eD 0 (P.map prD)) (WI m c P)
  (by simp[KG.Z,hP k]) ⟨0,[],P,none,none,rfl,by simp,rfl⟩ (by
   rintro x t σ ⟨j,ts,ps,v,u,e,s,rfl⟩;cases ps with
   |nil=>cases e
   |cons y ps=>
    rw[aM,eD]at e;injection e with e1 e2
    subst e1 e2;have hlen:ts.length<SZ:=by have:=s.length_le;simp at this;simp[SZ];lia
    have A:∀b:Bool,∃us,(us++ps).Sublist P/\us=if b then ts++[y]else ts:=by
     intro b;cases b
     ·exact⟨ts,(List.Sublist.append_left (List.sublist_cons_self _ _) _).trans s,rfl⟩
     ·exact⟨ts++[y],by simpa using s,rfl⟩
    refine⟨[some (.int m),some (.int c),some (.lst (ts.map prD)),some (.int j),some (prD y)],?_⟩;by_cases q:c%2=0
    ·obtain⟨us,a1,a2⟩:=A (decide (c/2/2^j%2=1));refine⟨[some (.int m),some (.int c),some (.lst (us.map prD)),some (.int j),some (prD y)],by simp[KG.Z],?_,j+1,us,ps,_,_,rfl,a1,rfl⟩;by_cases q2:c/2/2^j%2=1
     ·simp[KG.Z,op2,eq_int,q,q2,hlen]at a2 ⊢;subst a2;simp
     ·simp[KG.Z,op2,eq_int,q,q2]at a2 ⊢;subst a2;simp
    ·have q1:c%2=1:=by lia
     obtain⟨us,a1,a2⟩:=A (decide (st c j%5<1+c/2%3));refine⟨[some (.int m),some (.int c),some (.lst (us.map prD)),some (.int j),some (prD y)],by simp[KG.Z],?_,j+1,us,ps,_,_,rfl,a1,rfl⟩;by_cases q2:st c j%5<1+c/2%3
     ·simp[KG.Z,op2,eq_int,q1,lt_int,gE hS,q2,hlen]at a2 ⊢;subst a2;simp
     ·simp[KG.Z,op2,eq_int,q1,lt_int,gE hS,q2]at a2 ⊢;subst a2;simp)
 cases ps with
 |cons y ps=>cases e
 |nil=>
  refine⟨ts,g.sub (by simpa using s),?_⟩;rw[qc hW];refine zo (τ:=[some (.int m),some (.int c),none,none,none]) rfl rfl (cW (σ:=[some (.int m),some (.int c),some (.lst []),none,none]) (by simp[KG.Z]) (ev.trans ?_));simp[KG.Z,b1,seq?]
theorem ni(a:D):qg .is a .non=.ok (fD a):=by cases a<;>rfl
theorem same_int(hf:p.fns "_law_same" = some gp){k:Nat}(i:Int):qa p (k+1) "_law_same" [.int i,.int i]=.ok (.bl true):=by
 rw[qc hf];refine zo rfl rfl ?_;simp[KG.Z,gp,ni,fD,eq_int]
theorem GS.none{m:Int}:GS m []:=⟨List.Pairwise.nil,by simp,by simp⟩
end
noncomputable def od:D->Bool
 | .int _=>false
 | .fn _=>false
 | .exn _=>false
 |_=>true
noncomputable def nt:D->Bool
 | .tup _=>false
 | .fn _=>false
 | .exn _=>false
 |_=>true
theorem pick{l:List D}{P:D->Prop}(hL:∀d∈l,P d)(i:Int)(h:0<=i/\i<l.length):∃d,ixD (.lst l) (.int i)=.ok d/\P d:=by
 obtain⟨j,rfl⟩:∃j:Nat,i=j:=⟨i.toNat,by lia⟩
 have hj:j<l.length:=by lia
 refine⟨l[j],?_,hL _ (dC hj)⟩;simp only[ixD];rw[fk hj]
section
variable{p:Pr}(B:Web p)
include B
end
end KG
namespace K91
open PySem PySem.Spec PyProof.Rows L2 EV
noncomputable def top(i:Nat):Stmt:=PySem.Challenge.pw_holdplaces_k91_webs_read.main.body.getD i (.Pass ⟨0,0,0,0⟩)
abbrev iU:Fn:=KG.iU
abbrev zD:Fn:=KG.zD
abbrev fG:Fn:=KG.fG
abbrev gC:Fn:=KG.gC
abbrev gw:Fn:=KG.gw
abbrev zQ:Fn:=KG.zQ
noncomputable def jB:Fn:=⟨1,3,false,(.cons (.ite (.not (.val (.isi (.var 0) (.ty "str")))) (.cons (.raise "NoText" (.cons (.con (.str "a text is due")) .nil)) .nil) .nil) (.cons (.set (.nm 1) (.spl (.var 0) (.con (.str " ")))) (.cons (.set (.nm 2) (.tup (.cons (.call "number_in" (.cons (.ix (.var 1) (.con (.int 0))) .nil)) (.cons (.bi .tuple (.cons (.comp (.seq (.sl (.var 1) (.some (.con (.int 1))) .none)) [none,none] (.nm 1) .yes (.call "numbers_in" (.cons (.var 1) (.cons (.con (.str "-")) .nil)))) .nil)) .nil)))) (.cons (.ite (.not (.val (.call "is_web" (.cons (.var 2) .nil)))) (.cons (.raise "NoText" (.cons (.con (.str "the text of a web is due")) .nil)) .nil) .nil) (.cons (.ret (.var 2)) .nil)))))⟩
noncomputable def la:Fn:=⟨2,2,false,(.cons (.ret (.bi .tuple (.cons (.comp (.seq (.spl (.var 0) (.var 1))) [none,none] (.nm 1) .yes (.call "number_in" (.cons (.var 1) .nil))) .nil))) .nil)⟩
noncomputable def gX:Fn:=⟨1,1,false,(.cons (.ret (.ite (.and (.val (.call "is_number" (.cons (.var 0) .nil))) (.cmp .le (.bi .len (.cons (.var 0) .nil)) (.glb "MOST_FIGURES"))) (.bi .int (.cons (.var 0) .nil)) (.con .non))) .nil)⟩
noncomputable def lE:Fn:=⟨1,1,false,(.cons (.ite (.or (.cmp .eq (.var 0) (.con (.str ""))) (.not (.val (.bi .all (.cons (.comp (.seq (.var 0)) [none,none] (.nm 1) .yes (.cmp .isin (.var 1) (.glb "FIGURES"))) .nil))))) (.cons (.ret (.con (.bl false))) .nil) .nil) (.cons (.ret (.or (.cmp .eq (.var 0) (.con (.str "0"))) (.cmp .ne (.ix (.var 0) (.con (.int 0))) (.con (.str "0"))))) .nil))⟩
noncomputable def oz:Fn:=⟨1,2,false,(.cons (.set (.nm 1) (.lst (.cons (.isi (.var 0) (.ex "NoWeb")) (.cons (.isi (.var 0) (.ex "NoPlaces")) (.cons (.isi (.var 0) (.ex "NoPlace")) (.cons (.isi (.var 0) (.ex "NoNumber")) .nil)))))) (.cons (.set (.nm 1) (.op .add (.var 1) (.lst (.cons (.isi (.var 0) (.ex "NotUntied")) (.cons (.isi (.var 0) (.ex "NoShares")) (.cons (.isi (.var 0) (.ex "NotTree")) (.cons (.isi (.var 0) (.ex "NotTold")) .nil))))))) (.cons (.set (.nm 1) (.op .add (.var 1) (.lst (.cons (.isi (.var 0) (.ex "NoCrowds")) (.cons (.isi (.var 0) (.ex "NoText")) (.cons (.isi (.var 0) (.ex "NoLine")) (.cons (.isi (.var 0) (.ex "NoDeed")) .nil))))))) (.cons (.set (.nm 1) (.op .add (.var 1) (.lst (.cons (.isi (.var 0) (.ex "NotAll")) (.cons (.isi (.var 0) (.ex "TooGreat")) .nil))))) (.cons (.ite (.or (.not (.val (.isi (.var 0) (.ty "ValueError")))) (.cmp .ne (.mth false (.var 1)) (.con (.int 1)))) (.cons (.ret (.neg (.con (.int 1)))) .nil) .nil) (.cons (.ret (.mth true (.var 1))) .nil))))))⟩
noncomputable def mh:Fn:=⟨1,1,false,(.cons (.ite (.or (.cmp .eq (.var 0) (.con (.str ""))) (.or (.cmp .ne (.stp (.var 0) (.con (.str "0123456789"))) (.con (.str ""))) (.and (.cmp .eq (.ix (.var 0) (.con (.int 0))) (.con (.str "0"))) (.cmp .gt (.bi .len (.cons (.var 0) .nil)) (.con (.int 1)))))) (.cons (.ret (.con .non)) .nil) .nil) (.cons (.ret (.bi .int (.cons (.var 0) .nil))) .nil))⟩
noncomputable def ub:Fn:=⟨1,6,false,(.cons (.set (.nm 1) (.spl (.var 0) (.con (.str " ")))) (.cons (.set (.nm 2) (.call "_law_number_in" (.cons (.ix (.var 1) (.con (.int 0))) .nil))) (.cons (.ite (.or (.cmp .is (.var 2) (.con .non)) (.not (.cmp2 .le .le (.con (.int 1)) (.var 2) (.con (.int 8))))) (.cons (.ret (.con .non)) .nil) .nil) (.cons (.set (.nm 3) (.lst .nil)) (.cons (.for (.nm 4) (.seq (.sl (.var 1) (.some (.con (.int 1))) .none)) (.cons (.set (.nm 5) (.comp (.seq (.spl (.var 4) (.con (.str "-")))) [none,none] (.nm 1) .yes (.call "_law_number_in" (.cons (.var 1) .nil)))) (.cons (.ite (.or (.cmp .ne (.bi .len (.cons (.var 5) .nil)) (.con (.int 2))) (.or (.cmp .isin (.con .non) (.var 5)) (.not (.cmp2 .lt .lt (.ix (.var 5) (.con (.int 0))) (.ix (.var 5) (.con (.int 1))) (.var 2))))) (.cons (.ret (.con .non)) .nil) .nil) (.cons (.app 3 (.tup (.cons (.ix (.var 5) (.con (.int 0))) (.cons (.ix (.var 5) (.con (.int 1))) .nil)))) .nil)))) (.cons (.ite (.cmp .ne (.own 3) (.sset false (.own 3))) (.cons (.ret (.con .non)) .nil) .nil) (.cons (.ret (.tup (.cons (.var 2) (.cons (.bi .tuple (.cons (.own 3) .nil)) .nil)))) .nil)))))))⟩
abbrev gp:Fn:=KG.gp
noncomputable def o8:Fn:=⟨1,1,false,(.cons (.ret (.joi " " (.op .add (.lst (.cons (.stri (.ix (.var 0) (.con (.int 0)))) .nil)) (.comp (.seq (.ix (.var 0) (.con (.int 1)))) [none,none,none] (.tp [1,2]) .yes (.sadd (.sadd (.stri (.var 1)) (.con (.str "-"))) (.stri (.var 2))))))) .nil)⟩
abbrev fU:Fn:=KG.fU
abbrev zG:Fn:=KG.zG
abbrev g_:Fn:=KG.g_
noncomputable def kN:Fn:=⟨2,7,false,(.cons (.set (.nm 2) (.op .mod (.call "_law_stir" (.cons (.var 1) (.cons (.con (.int 1)) .nil))) (.op .add (.bi .len (.cons (.var 0) .nil)) (.con (.int 1))))) (.cons (.set (.nm 3) (.ix (.con (.str "01789- ,\n+x.")) (.op .mod (.call "_law_stir" (.cons (.var 1) (.cons (.con (.int 2)) .nil))) (.con (.int 12))))) (.cons (.set (.nm 4) (.op .mod (.call "_law_stir" (.cons (.var 1) (.cons (.con (.int 3)) .nil))) (.con (.int 8)))) (.cons (.set (.nm 5) (.spl (.var 0) (.con (.str " ")))) (.cons (.set (.nm 6) (.op .mod (.call "_law_stir" (.cons (.var 1) (.cons (.con (.int 4)) .nil))) (.bi .len (.cons (.var 5) .nil)))) (.cons (.ite (.cmp .eq (.var 4) (.con (.int 0))) (.cons (.ret (.op .add (.op .add (.sl (.var 0) .none (.some (.var 2))) (.var 3)) (.sl (.var 0) (.some (.var 2)) .none))) .nil) .nil) (.cons (.ite (.cmp .eq (.var 4) (.con (.int 1))) (.cons (.ret (.op .add (.sl (.var 0) .none (.some (.var 2))) (.sl (.var 0) (.some (.op .add (.var 2) (.con (.int 1)))) .none))) .nil) .nil) (.cons (.ite (.cmp .eq (.var 4) (.con (.int 2))) (.cons (.ret (.op .add (.op .add (.sl (.var 0) .none (.some (.var 2))) (.var 3)) (.sl (.var 0) (.some (.op .add (.var 2) (.con (.int 1)))) .none))) .nil) .nil) (.cons (.ite (.cmp .eq (.var 4) (.con (.int 3))) (.cons (.ret (.joi " " (.op .add (.sl (.var 5) .none (.some (.var 6))) (.sl (.var 5) (.some (.op .add (.var 6) (.con (.int 1)))) .none)))) .nil) .nil) (.cons (.ite (.cmp .eq (.var 4) (.con (.int 4))) (.cons (.ret (.joi " " (.op .add (.op .add (.sl (.var 5) .none (.some (.var 6))) (.sl (.var 5) (.some (.var 6)) (.some (.op .add (.var 6) (.con (.int 1)))))) (.sl (.var 5) (.some (.var 6)) .none)))) .nil) .nil) (.cons (.ite (.cmp .eq (.var 4) (.con (.int 5))) (.cons (.ret (.joi " " (.op .add (.sl (.var 5) .none (.some (.con (.int 1)))) (.rvt (.var 5))))) .nil) .nil) (.cons (.ite (.cmp .eq (.var 4) (.con (.int 6))) (.cons (.ret (.joi " " (.op .add (.op .add (.sl (.var 5) .none (.some (.var 6))) (.lst (.cons (.rev (.ix (.var 5) (.var 6))) .nil))) (.sl (.var 5) (.some (.op .add (.var 6) (.con (.int 1)))) .none)))) .nil) .nil) (.cons (.ret (.ix (.lst (.cons (.con (.str "")) (.cons (.con (.str " ")) (.cons (.con (.str "9")) (.cons (.con (.str "0")) (.cons (.con (.str "-")) (.cons (.sadd (.var 0) (.con (.str " "))) (.cons (.op .add (.con (.str " ")) (.var 0)) (.cons (.con (.str "01")) .nil))))))))) (.op .mod (.var 1) (.con (.int 8))))) .nil)))))))))))))⟩
noncomputable def mP:Fn:=⟨1,2,false,(.cons (.try (.cons (.ret (.call "read" (.cons (.var 0) .nil))) .nil) "PlaceError" (some 1) (.cons (.ret (.tup (.cons (.con (.str "no")) (.cons (.call "_law_kinds" (.cons (.var 1) .nil)) .nil)))) .nil)) .nil)⟩
noncomputable def sQ:Fn:=⟨1,2,false,(.cons (.set (.nm 1) (.call "_law_web_in" (.cons (.var 0) .nil))) (.cons (.ite (.cmp .is (.var 1) (.con .non)) (.cons (.set (.nm 1) (.tup (.cons (.con (.str "no")) (.cons (.con (.int 9)) .nil)))) .nil) .nil) (.cons (.ret (.and (.call "_law_same" (.cons (.call "_law_told" (.cons (.var 0) .nil)) (.cons (.var 1) .nil))) (.cmp .eq (.call "_law_told" (.cons (.var 0) .nil)) (.var 1)))) .nil)))⟩
noncomputable def iK:Fn:=⟨1,6,false,(.cons (.set (.nm 1) (.lst (.cons (.con (.str "")) (.cons (.con (.str "1")) (.cons (.con (.str "8")) (.cons (.con (.str "9")) (.cons (.con (.str "0")) (.cons (.con (.str "1 ")) (.cons (.con (.str " 1")) (.cons (.con (.str "2 0-1")) (.cons (.con (.str "2 1-0")) (.cons (.con (.str "2 0-1 0-1")) (.cons (.con (.str "2  0-1")) (.cons (.con (.str "2 0-01")) (.cons (.con (.str "3 0-1-2")) .nil))))))))))))))) (.cons (.ite (.not (.val (.bi .all (.cons (.comp (.seq (.op .add (.var 1) (.lst (.cons (.con (.str "2 0-2")) .nil)))) [none,none] (.nm 1) .yes (.call "_law_right" (.cons (.var 1) .nil))) .nil)))) (.cons (.ret (.con (.bl false))) .nil) .nil) (.cons (.for (.nm 3) (.seq (.lst (.cons (.con .non) (.cons (.con (.int 3)) (.cons (.tup (.cons (.con (.int 3)) (.cons (.tup .nil) .nil))) (.cons (.lst (.cons (.con (.str "3")) .nil)) (.cons (.con (.bl true)) (.cons .dic .nil)))))))) (.cons (.ite (.cmp .ne (.call "_law_told" (.cons (.var 3) .nil)) (.tup (.cons (.con (.str "no")) (.cons (.con (.int 9)) .nil)))) (.cons (.ret (.con (.bl false))) .nil) .nil) .nil)) (.cons (.for (.nm 4) (.seq (.op .add (.sl (.var 0) .none (.some (.con (.int 8)))) (.lst (.cons (.con (.int 0)) (.cons (.con (.int 3)) .nil))))) (.cons (.set (.nm 2) (.call "_law_web_text" (.cons (.call "_law_web_by" (.cons (.op .add (.con (.int 1)) (.op .mod (.op .fdiv (.var 4) (.con (.int 64))) (.con (.int 8)))) (.cons (.op .fdiv (.var 4) (.con (.int 512))) .nil))) .nil))) (.cons (.ite (.or (.not (.val (.call "_law_right" (.cons (.var 2) .nil)))) (.cmp .is (.call "_law_web_in" (.cons (.var 2) .nil)) (.con .non))) (.cons (.ret (.con (.bl false))) .nil) .nil) (.cons (.for (.nm 5) (.rng (.con (.int 8))) (.cons (.ite (.not (.val (.call "_law_right" (.cons (.call "_law_bent" (.cons (.var 2) (.cons (.op .add (.var 4) (.op .mul (.con (.int 7919)) (.var 5))) .nil))) .nil)))) (.cons (.ret (.con (.bl false))) .nil) .nil) .nil)) .nil)))) (.cons (.ret (.con (.bl true))) .nil)))))⟩
abbrev yf:Ent:=⟨"is_whole",top 17,[],false,iU⟩
abbrev BZ:Ent:=⟨"is_between",top 18,[],false,zD⟩
abbrev Du:Ent:=⟨"is_pair",top 19,[],false,fG⟩
abbrev DC:Ent:=⟨"rises",top 20,[],false,gC⟩
abbrev CU:Ent:=⟨"is_web",top 23,[],false,gw⟩
abbrev yS:Ent:=⟨"is_tie",top 24,[],false,zQ⟩
abbrev BX:Ent:=⟨"read",top 28,[],false,jB⟩
abbrev z_:Ent:=⟨"numbers_in",top 29,[],false,la⟩
abbrev Dp:Ent:=⟨"number_in",top 30,[],false,gX⟩
abbrev xv:Ent:=⟨"is_number",top 31,[],false,lE⟩
abbrev nh:Ent:=⟨"_law_kinds",top 33,[],false,oz⟩
abbrev EY:Ent:=⟨"_law_number_in",top 34,[],false,mh⟩
abbrev uz:Ent:=⟨"_law_web_in",top 35,[ao "_law_ties"],false,ub⟩
abbrev wB:Ent:=⟨"_law_same",top 36,[],false,gp⟩
abbrev Fo:Ent:=⟨"_law_web_text",top 37,[],false,o8⟩
abbrev wZ:Ent:=⟨"_law_pairs",top 38,[],false,fU⟩
abbrev xy:Ent:=⟨"_law_stir",top 39,[],false,zG⟩
abbrev uW:Ent:=⟨"_law_web_by",top 40,[ao "_law_ties"],false,g_⟩
abbrev Ea:Ent:=⟨"_law_bent",top 41,[],false,kN⟩
abbrev yj:Ent:=⟨"_law_told",top 42,[],false,mP⟩
abbrev D4:Ent:=⟨"_law_right",top 43,[],false,sQ⟩
abbrev gG:Ent:=⟨"law",top 44,[],false,iK⟩
abbrev tab:List Ent:=[yf,BZ,Du,DC,CU,yS,BX,z_,Dp,xv,nh,EY,uz,wB,Fo,wZ,xy,uW,Ea,yj,D4,gG]
abbrev oth:List (Str×GK):=[(ao "PlaceError",GK.exk),(ao "NoWeb",GK.exk),(ao "NoPlaces",GK.exk),(ao "NoPlace",GK.exk),(ao "NoNumber",GK.exk),(ao "NotAll",GK.exk),(ao "NotUntied",GK.exk),(ao "NoShares",GK.exk),(ao "NotTree",GK.exk),(ao "NotTold",GK.exk),(ao "NoCrowds",GK.exk),(ao "NoText",GK.exc),(ao "NoLine",GK.exk),(ao "NoDeed",GK.exk),(ao "TooGreat",GK.exk),(ao "MOST",GK.val),(ao "FIGURES",GK.val),(ao "MOST_FIGURES",GK.val),(ao "len",GK.bi .len),(ao "tuple",GK.ty "tuple" (some .tuple)),(ao "list",GK.ty "list" (some .list)),(ao "int",GK.ty "int" (some .int)),(ao "bool",GK.ty "bool" (some .bool)),(ao "str",GK.ty "str" none),(ao "set",GK.set),(ao "sorted",GK.bi .sorted),(ao "all",GK.bi .all),(ao "range",GK.rng),(ao "enumerate",GK.enum),(ao "zip",GK.zip),(ao "isinstance",GK.isi),(ao "ValueError",GK.ty "ValueError" none)]
abbrev vals:List (Str×D):=[(ao "MOST",(.int 8)),(ao "FIGURES",(.str "0123456789")),(ao "MOST_FIGURES",(.int 31))]
abbrev G:List (Str×GK):=tab.map (λe=>(e.x,GK.fn e.fr))++oth
abbrev cN:List (Str×Str):=[(ao "NoText",ao "PlaceError")]
abbrev us:List Ent:=[nh]
abbrev subs:List ((Str×Cl)×Bool):=[((ao "NoText",.ty "ValueError"),true),((ao "NoText",.ex (ao "NoWeb")),false),((ao "NoText",.ex (ao "NoPlaces")),false),((ao "NoText",.ex (ao "NoPlace")),false),((ao "NoText",.ex (ao "NoNumber")),false),((ao "NoText",.ex (ao "NotUntied")),false),((ao "NoText",.ex (ao "NoShares")),false),((ao "NoText",.ex (ao "NotTree")),false),((ao "NoText",.ex (ao "NotTold")),false),((ao "NoText",.ex (ao "NoCrowds")),false),((ao "NoText",.ex (ao "NoText")),true),((ao "NoText",.ex (ao "NoLine")),false),((ao "NoText",.ex (ao "NoDeed")),false),((ao "NoText",.ex (ao "NotAll")),false),((ao "NoText",.ex (ao "TooGreat")),false)]
abbrev p:Pr:=prT tab vals cN subs
theorem sy:p.fns "is_whole" = some iU:=by kernel_rfl
theorem kl:p.fns "is_between" = some zD:=by kernel_rfl
theorem kB:p.fns "is_pair" = some fG:=by kernel_rfl
theorem yv:p.fns "rises" = some gC:=by kernel_rfl
theorem oR:p.fns "is_web" = some gw:=by kernel_rfl
theorem gk:p.fns "is_tie" = some zQ:=by kernel_rfl
theorem nu:p.fns "read" = some jB:=by kernel_rfl
theorem uR:p.fns "_law_kinds" = some oz:=by kernel_rfl
theorem DA:p.fns "_law_web_in" = some ub:=by kernel_rfl
theorem yZ:p.fns "_law_web_text" = some o8:=by kernel_rfl
theorem sJ:p.fns "_law_told" = some mP:=by kernel_rfl
theorem uQ:p.fns "_law_right" = some sQ:=by kernel_rfl
theorem BL:p.fns "law" = some iK:=by kernel_rfl
theorem nB:p.glb "MOST" = some (.int 8):=by kernel_rfl
end K91
namespace KT
open EV KG
open PySem (Str PyData.strOk)
open L2 (atI ixN ltP zu zH zP qe zy pickL)
noncomputable def lE:Fn:=⟨1,1,false,(.cons (.ite (.or (.cmp .eq (.var 0) (.con (.str ""))) (.not (.val (.bi .all (.cons (.comp (.seq (.var 0)) [none,none] (.nm 1) .yes (.cmp .isin (.var 1) (.glb "FIGURES"))) .nil))))) (.cons (.ret (.con (.bl false))) .nil) .nil) (.cons (.ret (.or (.cmp .eq (.var 0) (.con (.str "0"))) (.cmp .ne (.ix (.var 0) (.con (.int 0))) (.con (.str "0"))))) .nil))⟩
noncomputable def gX:Fn:=⟨1,1,false,(.cons (.ret (.ite (.and (.val (.call "is_number" (.cons (.var 0) .nil))) (.cmp .le (.bi .len (.cons (.var 0) .nil)) (.glb "MOST_FIGURES"))) (.bi .int (.cons (.var 0) .nil)) (.con .non))) .nil)⟩
noncomputable def la:Fn:=⟨2,2,false,(.cons (.ret (.bi .tuple (.cons (.comp (.seq (.spl (.var 0) (.var 1))) [none,none] (.nm 1) .yes (.call "number_in" (.cons (.var 1) .nil))) .nil))) .nil)⟩
noncomputable def mh:Fn:=⟨1,1,false,(.cons (.ite (.or (.cmp .eq (.var 0) (.con (.str ""))) (.or (.cmp .ne (.stp (.var 0) (.con (.str "0123456789"))) (.con (.str ""))) (.and (.cmp .eq (.ix (.var 0) (.con (.int 0))) (.con (.str "0"))) (.cmp .gt (.bi .len (.cons (.var 0) .nil)) (.con (.int 1)))))) (.cons (.ret (.con .non)) .nil) .nil) (.cons (.ret (.bi .int (.cons (.var 0) .nil))) .nil))⟩
noncomputable def kN:Fn:=⟨2,7,false,(.cons (.set (.nm 2) (.op .mod (.call "_law_stir" (.cons (.var 1) (.cons (.con (.int 1)) .nil))) (.op .add (.bi .len (.cons (.var 0) .nil)) (.con (.int 1))))) (.cons (.set (.nm 3) (.ix (.con (.str "01789- ,\n+x.")) (.op .mod (.call "_law_stir" (.cons (.var 1) (.cons (.con (.int 2)) .nil))) (.con (.int 12))))) (.cons (.set (.nm 4) (.op .mod (.call "_law_stir" (.cons (.var 1) (.cons (.con (.int 3)) .nil))) (.con (.int 8)))) (.cons (.set (.nm 5) (.spl (.var 0) (.con (.str " ")))) (.cons (.set (.nm 6) (.op .mod (.call "_law_stir" (.cons (.var 1) (.cons (.con (.int 4)) .nil))) (.bi .len (.cons (.var 5) .nil)))) (.cons (.ite (.cmp .eq (.var 4) (.con (.int 0))) (.cons (.ret (.op .add (.op .add (.sl (.var 0) .none (.some (.var 2))) (.var 3)) (.sl (.var 0) (.some (.var 2)) .none))) .nil) .nil) (.cons (.ite (.cmp .eq (.var 4) (.con (.int 1))) (.cons (.ret (.op .add (.sl (.var 0) .none (.some (.var 2))) (.sl (.var 0) (.some (.op .add (.var 2) (.con (.int 1)))) .none))) .nil) .nil) (.cons (.ite (.cmp .eq (.var 4) (.con (.int 2))) (.cons (.ret (.op .add (.op .add (.sl (.var 0) .none (.some (.var 2))) (.var 3)) (.sl (.var 0) (.some (.op .add (.var 2) (.con (.int 1)))) .none))) .nil) .nil) (.cons (.ite (.cmp .eq (.var 4) (.con (.int 3))) (.cons (.ret (.joi " " (.op .add (.sl (.var 5) .none (.some (.var 6))) (.sl (.var 5) (.some (.op .add (.var 6) (.con (.int 1)))) .none)))) .nil) .nil) (.cons (.ite (.cmp .eq (.var 4) (.con (.int 4))) (.cons (.ret (.joi " " (.op .add (.op .add (.sl (.var 5) .none (.some (.var 6))) (.sl (.var 5) (.some (.var 6)) (.some (.op .add (.var 6) (.con (.int 1)))))) (.sl (.var 5) (.some (.var 6)) .none)))) .nil) .nil) (.cons (.ite (.cmp .eq (.var 4) (.con (.int 5))) (.cons (.ret (.joi " " (.op .add (.sl (.var 5) .none (.some (.con (.int 1)))) (.rvt (.var 5))))) .nil) .nil) (.cons (.ite (.cmp .eq (.var 4) (.con (.int 6))) (.cons (.ret (.joi " " (.op .add (.op .add (.sl (.var 5) .none (.some (.var 6))) (.lst (.cons (.rev (.ix (.var 5) (.var 6))) .nil))) (.sl (.var 5) (.some (.op .add (.var 6) (.con (.int 1)))) .none)))) .nil) .nil) (.cons (.ret (.ix (.lst (.cons (.con (.str "")) (.cons (.con (.str " ")) (.cons (.con (.str "9")) (.cons (.con (.str "0")) (.cons (.con (.str "-")) (.cons (.sadd (.var 0) (.con (.str " "))) (.cons (.op .add (.con (.str " ")) (.var 0)) (.cons (.con (.str "01")) .nil))))))))) (.op .mod (.var 1) (.con (.int 8))))) .nil)))))))))))))⟩
structure TxB(p:Pr):Prop where
 is_number:p.fns "is_number" = some lE
 number_in:p.fns "number_in" = some gX
 numbers_in:p.fns "numbers_in" = some la
 _law_number_in:p.fns "_law_number_in" = some mh
 _law_bent:p.fns "_law_bent" = some kN
 FIGURES:p.glb "FIGURES" = some (.str "0123456789")
 MOST_FIGURES:p.glb "MOST_FIGURES" = some (.int 31)
theorem jo{x:Str}(h:PyData.strOk x=true):(D.str x).asks=true:=by simp[D.asks,D.plain,D.deep,h]
theorem kP{x y:Str}:x=y↔x.cps.toList=y.cps.toList:=⟨λh=>by rw[h],λh=>PySem.Str.ext' (Array.toList_inj.mp h)⟩
theorem eq_str{x y:Str}(h:PyData.strOk x=true)(h':PyData.strOk y=true):qg .eq (.str x) (.str y)=.ok (decide (x.cps.toList=y.cps.toList)):=by
 rw[qg,jo h,jo h']
 ·simp only[Bool.and_self,if_true,D.eqv]
  congr 1
  rw[Bool.eq_iff_iff,decide_eq_true_eq,<-kP];exact beq_iff_eq
 all_goals (intros;rintro⟨⟩)
theorem ne_str{x y:Str}(h:PyData.strOk x=true)(h':PyData.strOk y=true):qg .ne (.str x) (.str y)=.ok (!decide (x.cps.toList=y.cps.toList)):=by
 rw[qg,jo h,jo h']
 ·simp only[Bool.and_self,if_true,D.eqv]
  congr 2
  rw[Bool.eq_iff_iff,decide_eq_true_eq,<-kP];exact beq_iff_eq
 all_goals (intros;rintro⟨⟩)
theorem ok0:PyData.strOk (ao "")=true:=by decide +kernel
theorem ok1:PyData.strOk (ao "0")=true:=by decide +kernel
theorem l0:(ao "").cps.toList=[]:=by decide +kernel
theorem l1:(ao "0").cps.toList=[48]:=by decide +kernel
theorem lG{c:Nat}(h:c<0x110000):PyData.strOk ⟨#[c]⟩=true:=by rw[eJ];intro d hd;simp at hd;lia
noncomputable def oD:Option Int->D
 |none=>.non
 |some i=>.int i
noncomputable def nmP(x:Str):Option Int:=if x.length<=31 then nm x else none
theorem ix0{x:Str}{c:Nat}{r:List Nat}(h:x.cps.toList=c::r)(hl:x.length<=SZ):ixD (.str x) (.int 0)=.ok (.str ⟨#[c]⟩):=by
 simp only[ixD];have:atI (c::r) (0:Int)=some c:=by simp[atI,ixN]
 rw[if_pos hl,h,this]
theorem len_str{x:Str}(hl:x.length<=SZ):b1 .len [.str x]=.ok (.int x.length):=by
 show (if x.length<=SZ then R.ok (D.int x.length)else R.no)=_;rw[if_pos hl]
theorem int_str{x:Str}{n:Int}(hl:x.length<=640)(h:PySem.intText? x=some n):b1 .int [.str x]=.ok (.int n):=by
 show (if x.length<=640 then zW (PySem.intText? x) λn=>R.ok (D.int n)else R.no)=_;rw[if_pos hl,h]
 rfl
theorem jg{w:W}{a b:E}{τ:Env}{x y:Str}(ha:evE w a τ=.ok (.str x))(hb:evE w b τ=.ok (.str y))(hy:y.length=1)(hx:x.length<=10000):evE w (.spl a b) τ=.ok (.lst ((qe x y).map D.str)):=by
 have hs:=gB x y hy;have e:iZ x (.str y)=.ok (.lst ((qe x y).map D.str)):=by
  simp only[iZ,sR];rw[if_pos];have a1:y.length≠0:=by lia
  have a2:x.length<=SZ:=by simp[SZ];lia
  have a3:(qe x y).length<=SZ:=by simp[SZ];lia
  rw[decide_eq_true a1,decide_eq_true a2,decide_eq_true a3];rfl
 rw[qL,ha];simp only[R.bind_ok,sR];rw[hb];simp only[R.bind_ok];exact e
theorem ER{w:W}{a b:E}{τ:Env}{x y:Str}(ha:evE w a τ=.ok (.str x))(hb:evE w b τ=.ok (.str y))(hx:x.length<=10000):evE w (.stp a b) τ=.ok (.str (zP x y)):=by
 have hl:(zP x y).length<=x.length:=by
  unfold zP;split
  ·exact aE _
  ·simp[PySem.stripped,PySem.Builtin.Str.strSub,Str.length];lia
 rw[qM,ha];simp only[R.bind_ok,sR];rw[hb];simp only[R.bind_ok,jZ,sR];have a3:(zP x y).length<=SZ:=by simp[SZ];lia
 rw[if_pos (by rw[decide_eq_true a3])]
theorem wU{x y:Str}(h:PyData.strOk x=true):PyData.strOk (zP x y)=true:=by
 refine jS (λc hc=>?_) h;unfold zP at hc;split at hc
 ·exact hc
 ·simp only[PySem.stripped]at hc;rw[PySem.StrLaws.strSub_toList]at hc;exact List.mem_of_mem_drop (List.mem_of_mem_take hc)
theorem jw{α:Type}(f:α->Bool):∀l:List α,bools? (l.map λc=>D.bl (f c))=some (l.map f)
 | []=>rfl
 |c::l=>by rw[aM,bools?,jw f l];rfl
theorem nE{α:Type}(f:α->Bool)(l:List α):b1 .all [.lst (l.map λc=>D.bl (f c))]=.ok (.bl (l.all f)):=by
 show zW (bools? _) _=_;rw[jw];show R.ok (D.bl ((l.map f).all id))=_;rw[List.all_map];rfl
section
variable{p:Pr}(B:TxB p)
include B
theorem is_number{k:Nat}{x:Str}(h:Tx 10000 x):qa p (k+1) "is_number" [.str x]=.ok (.bl (nm x).isSome):=by
 have hl:=h.len;have e1:=eq_str h.ok ok0;have e2:=eq_str h.ok ok1;rw[l0]at e1;rw[l1]at e2;have hc:evE ⟨qa p k,p.glb,p.sub,p.cat⟩ (.comp (.seq (.var 0)) [none,none] (.nm 1) .yes (.cmp .isin (.var 1) (.glb "FIGURES"))) [some (.str x)]=.ok (.lst (x.cps.toList.map λc=>.bl (dg c))):=by
  refine gn (f:=λ(c:Nat)=>D.str ⟨#[c]⟩) (c:=[]) (λc=>.bl (dg c)) (by rw[evI,za];rfl) (by have:=len_list x;simp[SZ];simp[Str.length]at hl;lia) rfl λc hc=>?_
  have e:eE (.str ⟨#[c]⟩) (.str "0123456789")=.ok (dg c):=by
   simp only[eE];rw[PySem.StrLaws.found_one]
   congr 1
   rw[Bool.eq_iff_iff,decide_eq_true_eq];exact nY c
  have e':qg .isin (.str ⟨#[c]⟩) (.str "0123456789")=.ok (dg c):=e;simp[KG.Z,B.FIGURES,e']
 have ha:=nE dg x.cps.toList
 suffices H:∃d,qa p (k+1) "is_number" [.str x]=.ok d/\d=.bl (nm x).isSome by obtain⟨d,e,rfl⟩:=H;exact e
 refine jH (τ:=[some (.str x)]) B.is_number rfl rfl ?_;have ht:∀v:Bool,qg .eq (.str x) (.str (ao ""))=.ok v->evT (wAt p k) (.or (.cmp .eq (.var 0) (.con (.str ""))) (.not (.val (.bi .all (.cons (.comp (.seq (.var 0)) [none,none] (.nm 1) .yes (.cmp .isin (.var 1) (.glb "FIGURES"))) .nil))))) [some (.str x)]=.ok (v || !x.cps.toList.all dg):=by
  intro v hv;have e5:evT (wAt p k) (.cmp .eq (.var 0) (.con (.str ""))) [some (.str x)]=.ok v:=hv;rw[zX,e5];cases v with
  |true=>rfl
  |false=>
   rw[R.bind_ok,d_,fj,qi,zw,hc];simp only[R.bind_ok,zw,ha,truth]
   rfl
 cases hx:x.cps.toList with
 |nil=>
  rw[hx]at e1;have hn:nm x=none:=by unfold nm;rw[if_neg (by rw[hx];simp)]
  rw[hn];exact zM (K:=λ_=>False) (cZ (ht _ e1) (λ_=>dt rfl rfl) (λz=>by simp at z)) λ_ z=>z.elim
 |cons c r=>
  have e3:=ix0 hx (by simp only[SZ];lia);have hcc:c<0x110000:=(eJ x).mp h.ok c (by rw[hx];simp);have e4:=ne_str (lG hcc) ok1;rw[l1]at e4;have e4':qg .ne (.str ⟨#[c]⟩) (.str (ao "0"))=.ok (!decide (c=48)):=by rw[e4];simp
  rw[hx]at e1 e2;have e1':qg .eq (.str x) (.str (ao ""))=.ok false:=by rw[e1];simp
  by_cases q:x.cps.toList.all dg=true
  ·have hn:nm x=if c=48/\r≠[]then none else some ((PySem.NumText.digitsVal x.cps.toList:Nat):Int):=by
    unfold nm;rw[hx]at q ⊢;by_cases z:c=48/\r≠[]
    ·rw[if_pos z,if_neg];rintro⟨_,_,z'⟩;have:0<r.length:=List.length_pos_iff.mpr z.2;exact z' ⟨by rw[z.1];rfl,by simpa using this⟩
    ·rw[if_neg z,if_pos];refine⟨by simp,q,?_⟩;rintro⟨a,b⟩;simp at a b;exact z ⟨a,List.length_pos_iff.mp b⟩
   have hr:(decide (c::r=[48]) || !decide (c=48))=(nm x).isSome:=by
    rw[hn];by_cases z:c=48
    ·by_cases z':r=[]<;>simp[z,z']
    ·simp[z]
   rw[<-hr];refine zM (K:=λσ=>σ=[some (.str x)]) (cZ (ht _ e1') (λz=>by rw[q]at z;cases z) (λ_=>eP rfl)) ?_;rintro σ rfl;refine dt (d:=.bl (decide (c::r=[48]) || !decide (c=48))) ?_ rfl;have e5:evE (wAt p k) (.cmp .eq (.var 0) (.con (.str "0"))) [some (.str x)]=.ok (.bl (decide (c::r=[48]))):=by
    rw[qy];show ((qg .eq (.str x) (.str (ao "0"))).bind _)=_;rw[e2];rfl
   have e6:evE (wAt p k) (.cmp .ne (.ix (.var 0) (.con (.int 0))) (.con (.str "0"))) [some (.str x)]=.ok (.bl (!decide (c=48))):=by
    rw[qy,qk,za,qY,qY];simp only[bX,List.getElem?_cons_zero,R.bind_ok,e3,e4']
   rw[qC,e5];cases z:decide (c::r=[48])with
   |true=>rfl
   |false=>rw[R.bind_ok];dsimp only;rw[e6];rfl
  ·have q':x.cps.toList.all dg=false:=by simpa using q
   have hn:nm x=none:=by unfold nm;rw[if_neg (λz=>q z.2.1)]
   rw[hn];exact zM (K:=λ_=>False) (cZ (ht _ e1') (λ_=>dt rfl rfl) (λz=>by rw[q']at z;cases z)) λ_ z=>z.elim
theorem number_in{k:Nat}{x:Str}(h:Tx 10000 x):qa p (k+2) "number_in" [.str x]=.ok (oD (nmP x)):=by
 have hl:=h.len;have e1:=is_number B (k:=k) h;have e2:=len_str (x:=x) (by simp only[SZ];lia);rw[qc B.number_in];refine zo (τ:=[some (.str x)]) rfl rfl ?_;have e3:qg .le (.int x.length) (.int 31)=.ok (decide (x.length<=31)):=by
  show R.ok (decide ((x.length:Int)<=31))=_
  congr 1
  rw[Bool.eq_iff_iff,decide_eq_true_eq,decide_eq_true_eq];lia
 cases hn:nm x with
 |none=>
  rw[hn]at e1;have:nmP x=none:=by unfold nmP;rw[hn];split<;>rfl
  rw[this];simp[KG.Z,gX,e1,qz,oD]
 |some i=>
  rw[hn]at e1;by_cases q:x.length<=31
  ·have:nmP x=some i:=by unfold nmP;rw[if_pos q,hn]
   rw[this];rw[decide_eq_true q]at e3;have e4:b1 .int [.str x]=.ok (.int i):=int_str (by lia) (by
    unfold nm at hn;split at hn
    ·rename_i z;cases hn;exact tL z.2.1 z.1 (by lia)
    ·cases hn)
   generalize (x.length:Int)=N at *;simp[KG.Z,gX,e1,e2,e3,e4,qz,oD,B.MOST_FIGURES]
  ·have:nmP x=none:=by unfold nmP;rw[if_neg q]
   rw[this];rw[decide_eq_false q]at e3;generalize (x.length:Int)=N at *;simp[KG.Z,gX,e1,e2,e3,qz,oD,B.MOST_FIGURES]
theorem numbers_in{k:Nat}{x y:Str}(h:Tx 10000 x)(hy:y.length=1):qa p (k+3) "numbers_in" [.str x,.str y]=.ok (.tup ((qe x y).map λv=>oD (nmP v))):=by
 have hl:=h.len;have hs:=gB x y hy;rw[qc B.numbers_in];refine zo (τ:=[some (.str x),some (.str y)]) rfl rfl ?_;have hc:evE ⟨qa p (k+2),p.glb,p.sub,p.cat⟩ (.comp (.seq (.spl (.var 0) (.var 1))) [none,none] (.nm 1) .yes (.call "number_in" (.cons (.var 1) .nil))) [some (.str x),some (.str y)]=.ok (.lst ((qe x y).map λv=>oD (nmP v))):=by
  refine gn (f:=D.str) (c:=[]) (λv=>oD (nmP v)) (by rw[evI,jg rfl rfl hy hl];rfl) (by simp only[SZ];lia) rfl λv hv=>?_
  have e:=number_in B (k:=k) (jb h hv hy);simp[KG.Z,e]
 show qf _ (.cons (.ret (.bi .tuple (.cons _ .nil))) .nil) _=_;rw[qf,zJ,qi,zw,hc]
 rfl
theorem pM{k:Nat}{x:Str}(h:Tx 640 x):qa p (k+1) "_law_number_in" [.str x]=.ok (oD (nm x)):=by
 have hl:=h.len;have e1:=eq_str h.ok ok0;rw[l0]at e1
 suffices H:∃d,qa p (k+1) "_law_number_in" [.str x]=.ok d/\d=oD (nm x)by obtain⟨d,e,rfl⟩:=H;exact e
 refine jH (τ:=[some (.str x)]) B._law_number_in rfl rfl ?_;have t1:evT (wAt p k) (.cmp .eq (.var 0) (.con (.str ""))) [some (.str x)]=.ok (decide (x.cps.toList=[])):=e1;have t2:evT (wAt p k) (.cmp .ne (.stp (.var 0) (.con (.str "0123456789"))) (.con (.str ""))) [some (.str x)]=.ok (!x.cps.toList.all dg):=by
  rw[dj,ER (x:=x) (y:="0123456789") rfl rfl (by lia)];show qg .ne (.str (zP x "0123456789")) (.str (ao ""))=_;rw[ne_str (wU h.ok) ok0]
  congr 2
  rw[Bool.eq_iff_iff,decide_eq_true_eq,<-kP];exact uO x
 cases hx:x.cps.toList with
 |nil=>
  rw[hx]at t1;have hn:nm x=none:=by unfold nm;rw[if_neg (by rw[hx];simp)]
  rw[hn];refine zM (K:=λ_=>False) (cZ (v:=true) (by rw[zX,t1];rfl) (λ_=>dt rfl rfl) (λz=>by simp at z)) λ_ z=>z.elim
 |cons c r=>
  rw[hx]at t1;have t1':evT (wAt p k) (.cmp .eq (.var 0) (.con (.str ""))) [some (.str x)]=.ok false:=by rw[t1];simp
  have e3:=ix0 hx (by simp only[SZ];lia);have hcc:c<0x110000:=(eJ x).mp h.ok c (by rw[hx];simp);have e4:=eq_str (lG hcc) ok1;rw[l1]at e4;have t3:evT (wAt p k) (.cmp .eq (.ix (.var 0) (.con (.int 0))) (.con (.str "0"))) [some (.str x)]=.ok (decide (c=48)):=by
   rw[dj,qk];show (((ixD (.str x) (.int 0)).bind λx=>_))=_;rw[e3];show ((qg .eq (.str ⟨#[c]⟩) (.str (ao "0"))))=_;rw[e4];simp
  have e2:=len_str (x:=x) (by simp only[SZ];lia);have t4:evT (wAt p k) (.cmp .gt (.bi .len (.cons (.var 0) .nil)) (.con (.int 1))) [some (.str x)]=.ok (decide (r≠[])):=by
   rw[dj,qi];show ((b1 .len [.str x]).bind λx=>_)=_;rw[e2];show R.ok (decide ((1:Int)<(x.length:Int)))=_
   congr 1
   rw[Bool.eq_iff_iff,decide_eq_true_eq,decide_eq_true_eq,len_list,hx];cases r<;>simp<;>lia
  by_cases q:x.cps.toList.all dg=true
  ·rw[q]at t2;by_cases z:c=48/\r≠[]
   ·have hn:nm x=none:=by
     unfold nm;rw[if_neg];rintro⟨_,_,z'⟩;have:0<r.length:=List.length_pos_iff.mpr z.2;rw[hx]at z';exact z' ⟨by rw[z.1];rfl,by simpa using this⟩
    rw[hn];refine zM (K:=λ_=>False) (cZ (v:=true) ?_ (λ_=>dt rfl rfl) (λz=>by simp at z)) λ_ z=>z.elim
    rw[decide_eq_true z.1]at t3;rw[decide_eq_true z.2]at t4;rw[zX,t1',R.bind_ok,if_neg (by decide),zX,t2,R.bind_ok,if_neg (by decide),fg,t3,R.bind_ok,if_pos rfl,t4]
   ·have hn:nm x=some ((PySem.NumText.digitsVal x.cps.toList:Nat):Int):=by
     unfold nm;rw[if_pos];refine⟨by rw[hx];simp,q,?_⟩;rw[hx];rintro⟨a,b⟩;simp at a b;exact z ⟨a,List.length_pos_iff.mp b⟩
    rw[hn];refine zM (K:=λσ=>σ=[some (.str x)]) (cZ (v:=false) ?_ (λz=>by cases z) (λ_=>eP rfl)) ?_
    ·rw[zX,t1',R.bind_ok,if_neg (by decide),zX,t2,R.bind_ok,if_neg (by decide),fg,t3,R.bind_ok];by_cases z':c=48
     ·rw[decide_eq_true z',if_pos rfl,t4,decide_eq_false λq=>z ⟨z',q⟩]
     ·rw[decide_eq_false z'];rfl
    ·rintro σ rfl;refine dt (d:=.int ((PySem.NumText.digitsVal x.cps.toList:Nat):Int)) ?_ rfl;rw[qi];exact int_str hl (tL q (by rw[hx];simp) hl)
  ·have q':x.cps.toList.all dg=false:=by simpa using q
   have hn:nm x=none:=by unfold nm;rw[if_neg (λz=>q z.2.1)]
   rw[hn];rw[q']at t2;refine zM (K:=λ_=>False) (cZ (v:=true) ?_ (λ_=>dt rfl rfl) (λz=>by cases z)) λ_ z=>z.elim
   rw[zX,t1',R.bind_ok,if_neg (by decide),zX,t2];rfl
end
noncomputable def tot(l:List Str):Nat:=(l.map (·.length)).sum+l.length
theorem zR(a b:List Str):tot (a++b)=tot a+tot b:=by simp[tot];lia
theorem ft(a:Str)(b:List Str):tot (a::b)=a.length+1+tot b:=by simp[tot];lia
theorem lj:tot []=0:=rfl
theorem mC(x y:Str)(hy:y.length=1):tot (qe x y)=x.length+1:=gB x y hy
theorem rp:∀a:List Str,tot a.reverse=tot a
 | []=>rfl
 |x::a=>by rw[List.reverse_cons,zR,rp a,ft,ft,lj];lia
theorem strs_map:∀ys:List Str,strs? (ys.map D.str)=some ys
 | []=>rfl
 |y::r=>by
  show (strs? (r.map D.str)).map (y :: ·)=_;rw[strs_map r];rfl
theorem iI{sep:Str}(hs:sep.length<=16){ys:List Str}(hz:tot ys<=100000):fb sep (.lst (ys.map D.str))=.ok (.str (zy sep ys)):=by
 simp only[fb,dH];rw[strs_map];simp only[zW];rw[if_pos (by simp only[aJ,decide_eq_true_eq];exact⟨hs,hz⟩)]
theorem s1:(ao " ").length=1:=by decide +kernel
theorem o1:PyData.strOk (ao " ")=true:=by decide +kernel
theorem tw(ws:List Str){i:Nat}(h:i<=ws.length):cutD (ws.map D.str) none (some (i:Int))=(ws.take i).map D.str:=by
 have e1:HT.sIx ws.length ws.length (some (i:Int))=i:=by rw[HT.ku];lia
 simp only[cutD,aQ,e1];simp[HT.sIx]
theorem jX(ws:List Str){i:Nat}(h:i<=ws.length):cutD (ws.map D.str) (some (i:Int)) none=(ws.drop i).map D.str:=by
 have e1:HT.sIx ws.length 0 (some (i:Int))=i:=by rw[HT.ku];lia
 simp only[cutD,aQ,e1];rw[HT.BQ,<-List.map_drop,<-List.map_take,List.take_of_length_le (by simp)]
theorem x5(ws:List Str){i:Nat}(h:i<ws.length):cutD (ws.map D.str) (some (i:Int)) (some ((i:Int)+1))=[ws[i]].map D.str:=by
 have e1:HT.sIx ws.length 0 (some (i:Int))=i:=by rw[HT.ku];lia
 have e2:HT.sIx ws.length ws.length (some ((i:Int)+1))=i+1:=by rw[show ((i:Int)+1)=((i+1:Nat):Int)from rfl,HT.ku];lia
 simp only[cutD,aQ,e1,e2,Nat.add_sub_cancel_left,<-List.map_drop,<-List.map_take];rw[List.drop_eq_getElem_cons h]
 rfl
theorem Ay{i:Int}(h:0<=i/\i<12):∃z,ixD (.str "01789- ,\n+x.") (.int i)=.ok (.str z)/\Tx 1 z:=by
 obtain⟨j,rfl⟩:∃j:Nat,i=j:=⟨i.toNat,by lia⟩
 have h':j<12:=by lia
 have e:(ao "01789- ,\n+x.").cps.toList=[48,49,55,56,57,45,32,44,10,43,120,46]:=by decide +kernel
 have l:(ao "01789- ,\n+x.").length<=SZ:=by decide +kernel
 have a:atI (ao "01789- ,\n+x.").cps.toList (j:Int)=some ([48,49,55,56,57,45,32,44,10,43,120,46][j]'h'):=by
  rw[e];have:((j:Int)<12):=by lia
  simp[atI,ixN,this,h']
 refine⟨⟨#[[48,49,55,56,57,45,32,44,10,43,120,46][j]'h']⟩,?_,by simp[Str.length],lG ?_⟩
 ·simp only[ixD];rw[if_pos l,a]
 ·have:∀c∈[48,49,55,56,57,45,32,44,10,43,120,46],c<0x110000:=by decide
  exact this _ (dC _)
theorem k_{n:Nat}{x:Str}(h:Tx n x)(hn:n<=10000)(lo hi:Option Int):slD (.str x) lo hi=.ok (.str (zu x lo hi)):=by
 have:=(rP h lo hi).len;simp only[slD];rw[if_pos (by simp[SZ];lia)]
theorem add_str{x y:Str}(h:x.length+y.length<=100000):op2 .add (.str x) (.str y)=.ok (.str (x++y)):=by
 rw[op2,if_pos ⟨rfl,by simp[SZ];lia⟩]
theorem gj{a b:List Str}(h:a.length+b.length<=100000):op2 .add (.lst (a.map D.str)) (.lst (b.map D.str))=.ok (.lst ((a++b).map D.str)):=by
 rw[op2,if_pos ⟨rfl,by simp[SZ];lia⟩,List.map_append]
theorem Bn{x y:Str}(h:x.length+y.length<=100000):eh (.str x) (.str y)=.ok (.str (x++y)):=by
 simp only[eh,sR];rw[if_pos (by simp[SZ];lia)]
theorem gr(l:List Str):l.length<=tot l:=by unfold tot;lia
theorem take_drop(l:List Str)(i:Nat):tot (l.take i)+tot (l.drop i)=tot l:=by rw[<-zR,eN]
theorem wg(l:List Str){i:Nat}(h:i<l.length):tot (l.take i)+(l[i].length+1+tot (l.drop (i+1)))=tot l:=by
 rw[<-ft,<-List.drop_eq_getElem_cons h];exact take_drop l i
theorem iH(a b:Int)(h:0<b):op2 .mod (.int a) (.int b)=.ok (.int (a%b)):=by
 simp only[op2,opI];rw[if_pos h]
theorem lT(a b:Int):op2 .add (.int a) (.int b)=.ok (.int (a+b)):=rfl
theorem fZ{w:W}{τ:Env}{V j:Int}{e:E}{r:Ss}{J:Env->Prop}{Q:D->Prop}{d:D}(hV:τ[4]? = some (some (.int V)))(he:evE w e τ=.ok d)(hq:Q d)(hr:Ends J Q (qf w r τ)):Ends J Q (qf w (.cons (.ite (.cmp .eq (.var 4) (.con (.int j))) (.cons (.ret e) .nil) .nil) r) τ):=by
 have hT:evT w (.cmp .eq (.var 4) (.con (.int j))) τ=.ok (decide (V=j)):=by
  rw[dj,za,qY,bX,hV];exact KG.eq_int V j
 refine zM (K:=λσ=>σ=τ) (cZ hT (λ_=>dt he hq) (λ_=>eP rfl)) ?_;rintro σ rfl;exact hr
theorem l8{y:Str}(h:Tx 2 y){n:Nat}:Tx (2 * n+2) y:=h.mono (by lia)
theorem DG{p:Pr}(B:TxB p)(hS:p.fns "_law_stir" = some KG.zG){k n:Nat}(hn:n<=1000){x:Str}(h:Tx n x)(c:Int):∃y,qa p (k+2) "_law_bent" [.str x,.int c]=.ok (.str y)/\Tx (2 * n+2) y:=by
 have hl:=h.len
 suffices H:∃d,qa p (k+2) "_law_bent" [.str x,.int c]=.ok d/\∃y,d=.str y/\Tx (2 * n+2) y by obtain⟨d,e,y,rfl,q⟩:=H;exact⟨y,e,q⟩
 refine jH (k:=k+1) (τ:=[some (.str x),some (.int c),none,none,none,none,none]) B._law_bent rfl rfl ?_;have st1:=gE hS (k:=k) c 1;have st2:=gE hS (k:=k) c 2;have st3:=gE hS (k:=k) c 3;have st4:=gE hS (k:=k) c 4;have e1:=len_str (x:=x) (by simp only[SZ];lia);have m1:=iH (st c 1) ((x.length:Int)+1) (by lia);refine cP (σ:=[some (.str x),some (.int c),some (.int (st c 1%((x.length:Int)+1))),none,none,none,none]) (by
  have a:=lT (x.length:Int) 1;generalize (x.length:Int)+1=N at *;generalize (x.length:Int)=M at *;generalize st c 1=S1 at *;generalize S1%N=R1 at *;simp[KG.Z,st1,e1,a,m1]) ?_
 generalize st c 1%((x.length:Int)+1)=A at *;clear m1 e1 st1;obtain⟨z,hz,tz⟩:=Ay (i:=st c 2%12) (by lia);have m2:=iH (st c 2) 12 (by lia);refine cP (σ:=[some (.str x),some (.int c),some (.int A),some (.str z),none,none,none]) (by
  generalize st c 2=S1 at *;generalize S1%12=R1 at *;simp[KG.Z,st2,m2,hz]) ?_
 clear m2 st2 hz;have m3:=iH (st c 3) 8 (by lia);refine cP (σ:=[some (.str x),some (.int c),some (.int A),some (.str z),some (.int (st c 3%8)),none,none]) (by
  generalize st c 3=S1 at *;generalize S1%8=R1 at *;simp[KG.Z,st3,m3]) ?_
 clear m3 st3;generalize st c 3%8=V at *;have hws:=mC x " " s1;have hwo:∀v∈qe x " ",PyData.strOk v=true:=λv hv=>(jb h hv s1).ok
 have hwn:=gv x " ";refine cP (σ:=[some (.str x),some (.int c),some (.int A),some (.str z),some (.int V),some (.lst ((qe x " ").map D.str)),none]) (by
  rw[zN,jg (x:=x) (y:=" ") rfl rfl s1 (by lia)];rfl) ?_
 generalize qe x " " = ws at *;have hp:=List.length_pos_iff.mpr hwn;have hwl:=gr ws;have m4:=iH (st c 4) (ws.length:Int) (by lia);obtain⟨i,hi,hil⟩:∃i:Nat,st c 4%(ws.length:Int)=i/\i<ws.length:=by
  have a:=Int.emod_nonneg (st c 4) (b:=(ws.length:Int)) (by lia);have b:=Int.emod_lt_of_pos (st c 4) (b:=(ws.length:Int)) (by lia);exact⟨(st c 4%(ws.length:Int)).toNat,by lia,by lia⟩
 rw[hi]at m4;have e1:b1 .len [.lst (ws.map D.str)]=.ok (.int (ws.length:Int)):=by
  show R.ok (D.int ((ws.map D.str).length:Nat))=_;rw[aQ]
 refine cP (σ:=[some (.str x),some (.int c),some (.int A),some (.str z),some (.int V),some (.lst (ws.map D.str)),some (.int i)]) (by
  generalize D.lst (ws.map D.str)=L at *;generalize st c 4=S1 at *;generalize (ws.length:Int)=N at *;generalize (i:Int)=I at *;simp[KG.Z,st4,e1,m4]) ?_
 clear m4 st4 e1 hi;have q1:=tw ws (i:=i) (by lia);have q2:=jX ws (i:=i) (by lia);have q3:=jX ws (i:=i+1) (by lia);have q4:=x5 ws hil;have hi1:((i+1:Nat):Int)=(i:Int)+1:=rfl;rw[hi1]at q3;have g1:slD (.lst (ws.map D.str)) none (some (i:Int))=.ok (.lst ((ws.take i).map D.str)):=by rw[slD,q1]
 have g2:slD (.lst (ws.map D.str)) (some (i:Int)) none=.ok (.lst ((ws.drop i).map D.str)):=by rw[slD,q2]
 have g3:slD (.lst (ws.map D.str)) (some ((i:Int)+1)) none=.ok (.lst ((ws.drop (i+1)).map D.str)):=by rw[slD,q3]
 have g4:slD (.lst (ws.map D.str)) (some (i:Int)) (some ((i:Int)+1))=.ok (.lst ([ws[i]].map D.str)):=by rw[slD,q4]
 have hT:=take_drop ws i;have hA:=wg ws hil;have ok1:∀v∈ws.take i,PyData.strOk v=true:=λv hv=>hwo v (List.mem_of_mem_take hv)
 have ok2:∀v∈ws.drop i,PyData.strOk v=true:=λv hv=>hwo v (List.mem_of_mem_drop hv)
 have ok3:∀v∈ws.drop (i+1),PyData.strOk v=true:=λv hv=>hwo v (List.mem_of_mem_drop hv)
 have ok4:PyData.strOk ws[i]=true:=hwo _ (dC _);have mm:=gr (ws.take i);have lS:=gr (ws.drop i);have tZ:=gr (ws.drop (i+1));have ai:=lT (i:Int) 1;have aA:=lT A 1;have gs:=k_ h (by lia);have ts:=λlo hi=>rP h lo hi
 have sl1:=λlo hi=>(ts lo hi).len
 have zl:=tz.len;have a0:op2 .add (.str (zu x none (some A))) (.str z)=.ok (.str (zu x none (some A)++z)):=add_str (by have:=sl1 none (some A);lia);have t0:=hJ (ts none (some A)) tz;have a1:op2 .add (.str (zu x none (some A)++z)) (.str (zu x (some A) none))=.ok (.str (zu x none (some A)++z++zu x (some A) none)):=add_str (by have:=sl1 (some A) none;have:=t0.len;lia);have a2:op2 .add (.str (zu x none (some A))) (.str (zu x (some (A+1)) none))=.ok (.str (zu x none (some A)++zu x (some (A+1)) none)):=add_str (by have:=sl1 none (some A);have:=sl1 (some (A+1)) none;lia);have a3:op2 .add (.str (zu x none (some A)++z)) (.str (zu x (some (A+1)) none))=.ok (.str (zu x none (some A)++z++zu x (some (A+1)) none)):=add_str (by have:=sl1 (some (A+1)) none;have:=t0.len;lia);refine fZ (V:=V) rfl (d:=.str (zu x none (some A)++z++zu x (some A) none)) (by simp[KG.Z,gs,a0,a1]) ⟨_,rfl,(hJ t0 (ts _ _)).mono (by lia)⟩ ?_;refine fZ (V:=V) rfl (d:=.str (zu x none (some A)++zu x (some (A+1)) none)) (by simp[KG.Z,gs,aA,a2]) ⟨_,rfl,(hJ (ts _ _) (ts _ _)).mono (by lia)⟩ ?_;refine fZ (V:=V) rfl (d:=.str (zu x none (some A)++z++zu x (some (A+1)) none)) (by simp[KG.Z,gs,aA,a0,a3]) ⟨_,rfl,(hJ t0 (ts _ _)).mono (by lia)⟩ ?_;clear a0 a1 a2 a3;have b1:op2 .add (.lst ((ws.take i).map D.str)) (.lst ((ws.drop (i+1)).map D.str))=.ok (.lst ((ws.take i++ws.drop (i+1)).map D.str)):=gj (by lia);have j1:fb " " (.lst ((ws.take i++ws.drop (i+1)).map D.str))=.ok (.str (zy " " (ws.take i++ws.drop (i+1)))):=iI (by rw[s1];lia) (by rw[zR];lia);have x1:Tx (2 * n+2) (zy " " (ws.take i++ws.drop (i+1))):=iz s1 o1 (λv hv=>(List.mem_append.mp hv).elim (ok1 v) (ok3 v)) (by show tot _<=_;rw[zR];lia);refine fZ (V:=V) rfl (d:=.str (zy " " (ws.take i++ws.drop (i+1)))) (by
  generalize zy " " (ws.take i++ws.drop (i+1))=J at *;generalize D.lst ((ws.take i++ws.drop (i+1)).map D.str)=L3 at *;generalize D.lst ((ws.take i).map D.str)=L1 at *;generalize D.lst ((ws.drop (i+1)).map D.str)=L2 at *;generalize D.lst (ws.map D.str)=L at *;simp[KG.Z,g1,g3,ai,b1,j1,qr]) ⟨_,rfl,x1⟩ ?_
 clear b1 j1 x1;have b1:op2 .add (.lst ((ws.take i).map D.str)) (.lst ([ws[i]].map D.str))=.ok (.lst ((ws.take i++[ws[i]]).map D.str)):=gj (by simp;lia);have b2:op2 .add (.lst ((ws.take i++[ws[i]]).map D.str)) (.lst ((ws.drop i).map D.str))=.ok (.lst (((ws.take i++[ws[i]])++ws.drop i).map D.str)):=gj (by simp at *;lia);have hb:tot ((ws.take i++[ws[i]])++ws.drop i)<=2 * n+3:=by rw[zR,zR,ft,lj];lia
 have j1:fb " " (.lst (((ws.take i++[ws[i]])++ws.drop i).map D.str))=.ok (.str (zy " " ((ws.take i++[ws[i]])++ws.drop i))):=iI (by rw[s1];lia) (by lia);have x1:Tx (2 * n+2) (zy " " ((ws.take i++[ws[i]])++ws.drop i)):=iz s1 o1 (λv hv=>by
  rcases List.mem_append.mp hv with hv|hv
  ·rcases List.mem_append.mp hv with hv|hv
   ·exact ok1 v hv
   ·simp at hv;rw[hv];exact ok4
  ·exact ok2 v hv) (by show tot _<=_;lia)
 refine fZ (V:=V) rfl (d:=.str (zy " " ((ws.take i++[ws[i]])++ws.drop i))) (by
  generalize zy " " ((ws.take i++[ws[i]])++ws.drop i)=J at *;generalize D.lst (((ws.take i++[ws[i]])++ws.drop i).map D.str)=L5 at *;generalize D.lst ((ws.take i++[ws[i]]).map D.str)=L3 at *;generalize D.lst ((ws.take i).map D.str)=L1 at *;generalize D.lst ([ws[i]].map D.str)=L6 at *;generalize D.lst ((ws.drop i).map D.str)=L2 at *;generalize D.lst (ws.map D.str)=L at *;simp[KG.Z,g1,g2,g4,ai,b1,b2,j1,qr]) ⟨_,rfl,x1⟩ ?_
 clear b1 b2 hb j1 x1;have g5:slD (.lst (ws.map D.str)) none (some 1)=.ok (.lst ((ws.take 1).map D.str)):=by rw[slD,show (1:Int)=((1:Nat):Int)from rfl,tw ws (i:=1) (by lia)]
 have r5:iM (.lst (ws.map D.str))=.ok (.lst ((ws.drop 1).reverse.map D.str)):=by
  simp only[iM,dH];rw[l7,<-List.map_drop,<-List.map_reverse]
 have hT1:=take_drop ws 1;have b1:op2 .add (.lst ((ws.take 1).map D.str)) (.lst ((ws.drop 1).reverse.map D.str))=.ok (.lst ((ws.take 1++(ws.drop 1).reverse).map D.str)):=gj (by simp;lia);have hb:tot (ws.take 1++(ws.drop 1).reverse)<=2 * n+3:=by rw[zR,rp];lia
 have j1:fb " " (.lst ((ws.take 1++(ws.drop 1).reverse).map D.str))=.ok (.str (zy " " (ws.take 1++(ws.drop 1).reverse))):=iI (by rw[s1];lia) (by lia);have x1:Tx (2 * n+2) (zy " " (ws.take 1++(ws.drop 1).reverse)):=iz s1 o1 (λv hv=>by
  rcases List.mem_append.mp hv with hv|hv
  ·exact hwo v (List.mem_of_mem_take hv)
  ·exact hwo v (List.mem_of_mem_drop (List.mem_reverse.mp hv))) (by show tot _<=_;lia)
 refine fZ (V:=V) rfl (d:=.str (zy " " (ws.take 1++(ws.drop 1).reverse))) (by
  generalize zy " " (ws.take 1++(ws.drop 1).reverse)=J at *;generalize D.lst ((ws.take 1++(ws.drop 1).reverse).map D.str)=L3 at *;generalize D.lst ((ws.take 1).map D.str)=L1 at *;generalize D.lst ((ws.drop 1).reverse.map D.str)=L2 at *;generalize D.lst (ws.map D.str)=L at *;simp[KG.Z,g5,r5,b1,j1,qr,qJ]) ⟨_,rfl,x1⟩ ?_
 clear b1 hb j1 x1 r5 g5 hT1;have hrl:=xl ws[i];have i6:ixD (.lst (ws.map D.str)) (.int i)=.ok (.str ws[i]):=by
  simp only[ixD];rw[fk (xs:=ws.map D.str) (i:=i) (by simpa using hil)];simp
 have r6:∀w:W,∀a:E,∀τ:Env,evE w a τ=.ok (.str ws[i])->evE w (.rev a) τ=.ok (.str (zH ws[i])):=λw a τ ha=>by
  rw[qF,ha];simp only[R.bind_ok];rw[if_pos (by simp[SZ];lia)]
 have b1:op2 .add (.lst ((ws.take i).map D.str)) (.lst ([zH ws[i]].map D.str))=.ok (.lst ((ws.take i++[zH ws[i]]).map D.str)):=gj (by simp;lia);have b2:op2 .add (.lst ((ws.take i++[zH ws[i]]).map D.str)) (.lst ((ws.drop (i+1)).map D.str))=.ok (.lst (((ws.take i++[zH ws[i]])++ws.drop (i+1)).map D.str)):=gj (by simp at *;lia);have hb:tot ((ws.take i++[zH ws[i]])++ws.drop (i+1))<=2 * n+3:=by rw[zR,zR,ft,lj];lia
 have j1:fb " " (.lst (((ws.take i++[zH ws[i]])++ws.drop (i+1)).map D.str))=.ok (.str (zy " " ((ws.take i++[zH ws[i]])++ws.drop (i+1)))):=iI (by rw[s1];lia) (by lia);have x1:Tx (2 * n+2) (zy " " ((ws.take i++[zH ws[i]])++ws.drop (i+1))):=iz s1 o1 (λv hv=>by
  rcases List.mem_append.mp hv with hv|hv
  ·rcases List.mem_append.mp hv with hv|hv
   ·exact ok1 v hv
   ·simp at hv;rw[hv];exact(Eb ⟨aE _,ok4⟩).ok
  ·exact ok3 v hv) (by show tot _<=_;lia)
 refine fZ (V:=V) rfl (d:=.str (zy " " ((ws.take i++[zH ws[i]])++ws.drop (i+1)))) (by
  have r6:=r6 (wAt p (k+1)) (.ix (.var 5) (.var 6)) [some (.str x),some (.int c),some (.int A),some (.str z),some (.int V),some (.lst (ws.map D.str)),some (.int i)] (by rw[qk];exact i6);have l6:(D.lst ([zH ws[i]].map D.str))=.lst [.str (zH ws[i])]:=rfl;rw[l6]at b1;generalize zy " " ((ws.take i++[zH ws[i]])++ws.drop (i+1))=J at *;generalize D.lst (((ws.take i++[zH ws[i]])++ws.drop (i+1)).map D.str)=L5 at *;generalize D.lst ((ws.take i++[zH ws[i]]).map D.str)=L3 at *;generalize D.lst ((ws.take i).map D.str)=L1 at *;generalize zH ws[i]=RV at *;generalize D.lst ((ws.drop (i+1)).map D.str)=L2 at *;generalize D.lst (ws.map D.str)=L at *;simp[KG.Z,g1,g3,ai,r6,b1,b2,j1,qr]) ⟨_,rfl,x1⟩ ?_
 clear b1 b2 hb j1 x1 r6 i6 hrl g1 g2 g3 g4;have sx:eh (.str x) (.str " ")=.ok (.str (x ++ " ")):=Bn (by rw[s1];lia);have xs:op2 .add (.str " ") (.str x)=.ok (.str ((" " : Str)++x)):=add_str (by rw[s1];lia);have m8:=iH c 8 (by lia);obtain⟨d,hd,y,rfl,ty⟩:=pick (P:=λd=>∃y,d=D.str y/\Tx (2 * n+2) y) (l:=[D.str "",.str " ",.str "9",.str "0",.str "-",.str (x ++ " "),.str ((" " : Str)++x),.str "01"]) (by
  intro d hd;simp only[aG,bx,or_false]at hd;rcases hd with rfl|rfl|rfl|rfl|rfl|rfl|rfl|rfl
  ·exact⟨_,rfl,l8 ⟨by decide +kernel,by decide +kernel⟩⟩
  ·exact⟨_,rfl,l8 ⟨by decide +kernel,by decide +kernel⟩⟩
  ·exact⟨_,rfl,l8 ⟨by decide +kernel,by decide +kernel⟩⟩
  ·exact⟨_,rfl,l8 ⟨by decide +kernel,by decide +kernel⟩⟩
  ·exact⟨_,rfl,l8 ⟨by decide +kernel,by decide +kernel⟩⟩
  ·exact⟨_,rfl,(hJ h ⟨aE _,o1⟩).mono (by rw[s1];lia)⟩
  ·exact⟨_,rfl,(hJ ⟨aE _,o1⟩ h).mono (by rw[s1];lia)⟩
  ·exact⟨_,rfl,l8 ⟨by decide +kernel,by decide +kernel⟩⟩) (c%8) (by simp;lia)
 refine dt (d:=.str y) (by
  generalize x++(" " : Str)=X1 at *;generalize (" " : Str)++x=X2 at *;generalize c%8=C8 at *;simp[KG.Z,sx,xs,m8,hd,qB]) ⟨y,rfl,ty⟩
end KT
namespace K91
open EV KG KT
open PySem (Str PyData.strOk)
open L2 (atI ixN ltP zu zH zP qe zy pickL cm)
theorem TB:TxB p:=⟨by kernel_rfl,by kernel_rfl,by kernel_rfl,by kernel_rfl,by kernel_rfl,by kernel_rfl,by kernel_rfl⟩
theorem hS:p.fns "_law_stir" = some KG.zG:=by kernel_rfl
theorem hPr:p.fns "_law_pairs" = some KG.fU:=by kernel_rfl
theorem hWb:p.fns "_law_web_by" = some KG.g_:=by kernel_rfl
theorem hSm:p.fns "_law_same" = some KG.gp:=by kernel_rfl
theorem is_whole{k:Nat}(i:Int):qa p (k+1) "is_whole" [.int i]=.ok (.bl true):=by rw[qc sy];rfl
theorem is_pair{k:Nat}(a b:D):qa p (k+1) "is_pair" [.tup [a,b]]=.ok (.bl true):=by
 rw[qc kB];refine zo rfl rfl ?_;simp[KG.Z,KG.fG,b1,seq?,qg,D.asks,D.plain,D.deep,D.eqv]
theorem my{k:Nat}{d:D}(h:od d=true):qa p (k+1) "is_whole" [d]=.ok (.bl false):=by
 rw[qc sy];cases d<;>first|(cases h;done)|rfl
theorem ph{k:Nat}(i a b:Int):qa p (k+2) "is_between" [.int i,.int a,.int b]=.ok (.bl (decide (a<=i/\i<=b))):=by
 have e1:qg .le (.int a) (.int i)=.ok (decide (a<=i)):=rfl;have e2:qg .le (.int i) (.int b)=.ok (decide (i<=b)):=rfl;by_cases q:a<=i
 ·have e1:qg .le (.int a) (.int i)=.ok true:=by rw[e1,decide_eq_true q]
  by_cases q2:i<=b
  ·have e2:qg .le (.int i) (.int b)=.ok true:=by rw[e2,decide_eq_true q2]
   rw[qc kl];refine zo rfl rfl ?_;simp[KG.Z,KG.zD,is_whole,e1,e2,q,q2]
  ·have e2:qg .le (.int i) (.int b)=.ok false:=by rw[e2,decide_eq_false q2]
   rw[qc kl];refine zo rfl rfl ?_;simp[KG.Z,KG.zD,is_whole,e1,e2,q,q2]
 ·have e1:qg .le (.int a) (.int i)=.ok false:=by rw[e1,decide_eq_false q]
  rw[qc kl];refine zo rfl rfl ?_;simp[KG.Z,KG.zD,is_whole,e1,q]
theorem uL{k:Nat}{d:D}(h:od d=true)(a b:D):qa p (k+2) "is_between" [d,a,b]=.ok (.bl false):=by
 rw[qc kl];refine zo rfl rfl ?_;simp[KG.Z,KG.zD,my h]
theorem BP{k:Nat}{d:D}(h:nt d=true):qa p (k+1) "is_pair" [d]=.ok (.bl false):=by
 rw[qc kB];cases d<;>first|(cases h;done)|rfl
theorem CA{k:Nat}(xs:List D):qa p (k+1) "is_pair" [.tup xs]=.ok (.bl (decide ((xs.length:Int)=2))):=by
 have e:=Ck xs;have e2:=eq_int (xs.length:Int) 2;rw[qc kB];refine zo rfl rfl ?_;simp[KG.Z,KG.fG,e,e2]
theorem vt{k:Nat}(a b m:Int):qa p (k+2) "is_tie" [.tup [.int a,.int b],.int m]=.ok (.bl (decide (0<=a/\a<b/\b<m))):=by
 have e1:qg .le (.int 0) (.int a)=.ok (decide (0<=a)):=rfl;have e2:qg .lt (.int a) (.int b)=.ok (decide (a<b)):=rfl;have e3:qg .lt (.int b) (.int m)=.ok (decide (b<m)):=rfl;by_cases q1:0<=a
 ·rw[decide_eq_true q1]at e1;by_cases q2:a<b
  ·rw[decide_eq_true q2]at e2;by_cases q3:b<m
   ·rw[decide_eq_true q3]at e3;rw[qc gk];refine zo rfl rfl ?_;simp[KG.Z,KG.zQ,is_pair,is_whole,e1,e2,e3,q1,q2,q3]
   ·rw[decide_eq_false q3]at e3;rw[qc gk];refine zo rfl rfl ?_;simp[KG.Z,KG.zQ,is_pair,is_whole,e1,e2,e3,q1,q2,q3]
  ·rw[decide_eq_false q2]at e2;rw[qc gk];refine zo rfl rfl ?_;simp[KG.Z,KG.zQ,is_pair,is_whole,e1,e2,q1,q2]
 ·rw[decide_eq_false q1]at e1;rw[qc gk];refine zo rfl rfl ?_;simp[KG.Z,KG.zQ,is_pair,is_whole,e1,q1]
theorem rV{k:Nat}{d:D}{m:D}(h:∀k,qa p (k+1) "is_pair" [d]=.ok (.bl false)):qa p (k+2) "is_tie" [d,m]=.ok (.bl false):=by
 rw[qc gk];refine zo rfl rfl ?_;simp[KG.Z,KG.zQ,h]
theorem CB{k:Nat}{a b:D}{m:D}(h:od a=true):qa p (k+2) "is_tie" [.tup [a,b],m]=.ok (.bl false):=by
 rw[qc gk];refine zo rfl rfl ?_;simp[KG.Z,KG.zQ,is_pair,my h]
theorem Co{k:Nat}(xs:List D)(hz:xs.length<=1000)(b:Nat->Bool)(h:∀(i:Nat) (q:i+1<xs.length),qg .lt xs[i] xs[i+1]=.ok (b i)):qa p (k+1) "rises" [.tup xs]=.ok (.bl ((a_ (xs.length-1)).all b)):=by
 rw[qc yv];refine zo (τ:=[some (.tup xs)]) rfl rfl ?_;have hr:zt ((xs.length:Int)-1)=true:=by simp[zt];lia
 have hc:evE ⟨qa p k,p.glb,p.sub,p.cat⟩ (.comp (.rng (.op .sub (.bi .len (.cons (.var 0) .nil)) (.con (.int 1)))) [none,none,some 0] (.nm 1) .yes (.cmp .lt (.ix (.var 2) (.var 1)) (.ix (.var 2) (.op .add (.var 1) (.con (.int 1)))))) [some (.tup xs)]=.ok (.lst ((a_ (xs.length-1)).map λi=>.bl (b i))):=by
  refine gn (f:=λ(i:Nat)=>D.int (i:Int)) (c:=[some (.tup xs)]) (λi=>.bl (b i)) ?_ ?_ rfl ?_
  ·have e:zT 0 (xs.length-1)=(a_ (xs.length-1)).map λ(i:Nat)=>D.int (i:Int):=by
    rw[zT];simp
   simp[KG.Z,b1,seq?,op2,hr,e]
  ·simp[SZ];lia
  ·intro i hi;have hi:=List.mem_range.mp hi;have e1:atI xs (i:Int)=some xs[i]:=fk (by lia);have e2:atI xs ((i:Int)+1)=some xs[i+1]:=fk (i:=i+1) (by lia);have e3:=h i (by lia);simp[KG.Z,ixD,op2,e1,e2,e3]
 have h3:=t_ (a_ (xs.length-1)) b;show qf _ (.cons (.ret (.bi .all (.cons _ .nil))) .nil) _=_;rw[qf,zJ,qi,zw,hc];simp only[R.bind_ok,zw,h3,R.out_ok]
theorem pj{k:Nat}{a b:D}(h:∀k,qa p (k+2) "is_between" [a,.int 1,.int 8]=.ok (.bl false)):qa p (k+3) "is_web" [.tup [a,b]]=.ok (.bl false):=by
 rw[qc oR];refine zo rfl rfl ?_;simp[KG.Z,KG.gw,is_pair,nB,h]
theorem is_between{k:Nat}(i a b:Int)(h:a<=i/\i<=b):qa p (k+2) "is_between" [.int i,.int a,.int b]=.ok (.bl true):=by
 rw[ph,decide_eq_true h]
theorem ff(s t:Int×Int):ltP s t=true↔s.1<t.1\/(s.1=t.1/\s.2<t.2):=by
 unfold ltP;split
 ·rename_i e;rw[decide_eq_true_eq];lia
 ·rw[decide_eq_true_eq];lia
theorem r8(s t:Int×Int):ltP s t=false↔¬ (s.1<t.1\/(s.1=t.1/\s.2<t.2)):=by rw[<-ff];simp
theorem mO(ts:List (Int×Int)):(∀(i:Nat) (q:i+1<ts.length),ltP ts[i] ts[i+1]=true)↔ts=cU (uq ts):=by
 constructor
 ·intro h;have pw:ts.Pairwise λa b=>ltP a b=true:=by
   rw[List.pairwise_iff_getElem];intro i j hi hj hij;obtain⟨d,rfl⟩:∃d,j=i+1+d:=⟨j-i-1,by lia⟩
   clear hij
   induction d with
   |zero=>exact h i hj
   |succ d ih=>
    have a:=(ff _ _).mp (ih (by lia));have b:=(ff _ _).mp (h (i+1+d) hj);refine(ff _ _).mpr ?_;rw[show ts[i+1+(d+1)]=ts[i+1+d+1]from rfl];lia
  refine A6 (nr (pw.imp λ{a b} z e=>?_) λ_=>.rfl) (pw.imp λ{a b} z=>?_)
  ·have:=(ff _ _).mp z;subst e;lia
  ·have:=(ff _ _).mp z;rw[r8];lia
 ·intro e i q;have nd:ts.Nodup:=by rw[e];exact(kD _).nodup_iff.mpr (ki ts)
  have ps:ts.Pairwise λa b=>ltP b a=false:=by rw[e];exact kJ _
  have a:=List.pairwise_iff_getElem.mp nd i (i+1) (by lia) q (by lia);have b:=(r8 _ _).mp (List.pairwise_iff_getElem.mp ps i (i+1) (by lia) q (by lia));rw[ff];have:¬ (ts[i].1=ts[i+1].1/\ts[i].2=ts[i+1].2):=λz=>a (Prod.ext z.1 z.2)
  lia
theorem pS{α β:Type} [DecidableEq α] [DecidableEq β](f:α->β)(hf:∀a b,f a=f b->a=b):∀l:List α,uq (l.map f)=(uq l).map f
 | []=>rfl
 |a::l=>by
  rw[aM,uq,uq,pS f hf l];by_cases h:a∈l
  ·rw[if_pos h,if_pos (a8.mpr ⟨a,h,rfl⟩)]
  ·rw[if_neg h,if_neg (λz=>by obtain⟨b,hb,e⟩:=a8.mp z;exact h (hf _ _ e▸hb)),aM]
theorem Ab(ts:List (Int×Int))(hz:ts.length<64):gK false (.lst (ts.map prD))=.ok (.lst ((cU (uq ts)).map prD)):=by
 simp only[gK,seq?,zW];rw[if_pos (by simpa using hz)];cases ts with
 |nil=>rfl
 |cons t r=>
  have e1:ints? ((t::r).map prD)=none:=rfl;have e2:=sN (KG.rn (t::r))
  try rw[e1]
  rw[e2];have e3:((t::r).map λp=>[p.1,p.2]).all (λt=>!t.isEmpty)=true:=by
   rw[List.all_map,bL];intro x _;rfl
  have e4:uq ((t::r).map λp=>[p.1,p.2])=(uq (t::r)).map λp=>[p.1,p.2]:=pS _ (λa b e=>by simp at e;exact Prod.ext e.1 e.2) _
  simp only[e3,e4,og,aR,if_false,if_true,List.map_map]
  rfl
theorem mF:∀a b:List (Int×Int),eqvAll (a.map prD) (b.map prD)=decide (a=b)
 | [],[]=>rfl
 | [],_::_=>rfl
 |_::_,[]=>rfl
 |x::a,y::b=>by
  rw[aM,aM,eqvAll,mF a b];have:(prD x).eqv (prD y)=decide (x=y):=by
   show (D.tup [.int x.1,.int x.2]).eqv (.tup [.int y.1,.int y.2])=_;simp only[D.eqv,eqvAll,Bool.and_true];rw[Bool.eq_iff_iff,aJ,beq_iff_eq,beq_iff_eq,decide_eq_true_eq,Prod.ext_iff]
  rw[this,Bool.eq_iff_iff,aJ,decide_eq_true_eq,decide_eq_true_eq,decide_eq_true_eq,List.cons.injEq]
theorem kK(ts:List (Int×Int)):(D.lst (ts.map prD)).asks=true:=by
 have a:plainAll (ts.map prD)=true:=by
  induction ts with
  |nil=>rfl
  |cons t r ih=>rw[aM,plainAll,ih];rfl
 have b:dN (ts.map prD)<=1:=by
  induction ts with
  |nil=>simp[dN]
  |cons t r ih=>rw[aM,dN];have ih:=ih (by cases a2:plainAll (r.map prD)with|true=>rfl|false=>rw[aM,plainAll,a2]at a;simp at a);show max 1 _<=1;lia
 rw[D.asks,D.plain,a,D.deep];simp;lia
theorem vQ(a b:List (Int×Int)):qg .ne (.lst (a.map prD)) (.lst (b.map prD))=.ok (!decide (a=b)):=by
 rw[qg,kK,kK];simp only[Bool.and_self,if_true,D.eqv,mF]
noncomputable def Bad(x:D):Prop:=nt x=true\/(∃xs:List D,x=.tup xs/\(xs.length:Int)≠2)\/(∃a b,x=.tup [a,b]/\od a=true)\/∃(a:Int) (b:D),x=.tup [.int a,b]/\od b=true
noncomputable def kQ(n:Int)(y:D×Bool):Prop:=(∃a b:Int,y=(.tup [.int a,.int b],decide (0<=a/\a<b/\b<n)))\/(Bad y.1/\y.2=false)
theorem Dz{k:Nat}{n:Int}{y:D×Bool}(h:kQ n y):qa p (k+2) "is_tie" [y.1,.int n]=.ok (.bl y.2):=by
 rcases h with ⟨a,b,rfl⟩|⟨h,e⟩
 ·exact vt a b n
 ·rw[e];rcases h with h|⟨xs,h,hl⟩|⟨a,b,h,ho⟩|⟨a,b,h,ho⟩
  ·exact rV λk=>BP h
  ·rw[h];exact rV λk=>by rw[CA,decide_eq_false hl]
  ·rw[h];exact CB ho
  ·rw[h];have e1:=my (k:=k) ho;rw[qc gk];refine zo rfl rfl ?_;simp[KG.Z,KG.zQ,is_pair,is_whole,e1]
theorem nH{k:Nat}{m:Int}(h:1<=m/\m<=8){ys:List (D×Bool)}{r:Bool}(hz:ys.length<=1000)(hf:∀y∈ys,kQ m y)(hb:ys.all (·.2)=true->qa p (k+2) "rises" [.tup (ys.map (·.1))]=.ok (.bl r)):qa p (k+3) "is_web" [.tup [.int m,.tup (ys.map (·.1))]]=.ok (.bl (ys.all (·.2)&&r)):=by
 generalize hX:ys.map (·.1)=xs at *;rw[qc oR];refine zo (τ:=[some (.tup [.int m,.tup xs]),none,none]) rfl rfl ?_;have hc:evE ⟨qa p (k+2),p.glb,p.sub,p.cat⟩ (.comp (.seq (.var 2)) [none,none,some 1] (.nm 1) .yes (.call "is_tie" (.cons (.var 1) (.cons (.var 2) .nil)))) [some (.tup [.int m,.tup xs]),some (.int m),some (.tup xs)]=.ok (.lst (ys.map λx=>.bl x.2)):=by
  refine gn (f:=λ(x:D×Bool)=>x.1) (c:=[some (.int m)]) (λ(x:D×Bool)=>.bl x.2) (by rw[hX];exact sI rfl) (by simp[SZ];lia) rfl λx hx=>?_
  have e:=Dz (k:=k) (hf x hx);simp[KG.Z,e]
 have h3:=t_ ys (·.2);show qf _ (.cons (.ite _ _ _) (.cons (.set (.tp [1,2]) _) (.cons (.ite _ _ _) (.cons (.ret (.and (.bi .all (.cons _ .nil)) _)) .nil)))) _=_;refine cW (σ:=[some (.tup [.int m,.tup xs]),none,none]) (by simp[KG.Z,is_pair]) ?_;refine cW (σ:=[some (.tup [.int m,.tup xs]),some (.int m),some (.tup xs)]) (by simp[KG.Z]) ?_;refine cW (σ:=[some (.tup [.int m,.tup xs]),some (.int m),some (.tup xs)]) (by simp[KG.Z,is_between m 1 8 h,nB]) ?_;rw[qf,zJ,qE,qi,zw,hc];simp only[R.bind_ok,zw,h3];cases q:ys.all (·.2)with
 |false=>rfl
 |true=>have hb:=hb q;simp[KG.Z,hb]
theorem AU(s t:Int×Int):qg .lt (prD s) (prD t)=.ok (ltP s t):=by
 have e:cF [s.1,s.2] [t.1,t.2]=ltP s t:=by
  simp only[cF,ltP];by_cases h:s.1=t.1
  ·rw[if_pos h,if_pos h];by_cases h':s.2=t.2
   ·rw[if_pos h',h'];simp
   ·rw[if_neg h']
  ·rw[if_neg h,if_neg h]
 show R.ok (cF [s.1,s.2] [t.1,t.2])=_;rw[e]
theorem d1:(ao "-").length=1:=by decide +kernel
noncomputable def zp(m:Int)(v:Str):Option (Int×Int):=match (qe v "-").map nm with
 | [some a,some b]=>if a<b/\b<m then some (a,b)else none
 |_=>none
theorem eZ{m:Int}{v:Str}{t:Int×Int}(h:zp m v=some t):∃u u':Str,qe v "-" = [u,u']/\nm u=some t.1/\nm u'=some t.2/\t.1<t.2/\t.2<m:=by
 unfold zp at h;split at h
 ·rename_i a b e
  split at h
  ·rename_i q
   cases h
   match hL:qe v "-" with
   | []=>rw[hL]at e;cases e
   | [u]=>rw[hL]at e;simp at e
   | [u,u']=>
    rw[hL]at e;simp only[aM,List.map_nil,List.cons.injEq,and_true]at e;exact⟨u,u',rfl,e.1,e.2,q.1,q.2⟩
   |_::_::_::_=>rw[hL]at e;simp at e
  ·cases h
 ·cases h
theorem tM{m:Int}{v u u':Str}{a b:Int}(h:qe v "-" = [u,u'])(ha:nm u=some a)(hb:nm u'=some b):zp m v=if a<b/\b<m then some (a,b)else none:=by
 unfold zp;rw[h];simp only[aM,List.map_nil,ha,hb]
theorem su{x:Str}{i:Int}(h:nm x=some i):1<=x.length:=by
 unfold nm at h;split at h
 ·rename_i q
  have:=List.length_pos_iff.mpr q.1;rw[len_list];lia
 ·cases h
theorem fV{x:Str}{i:Int}(h:nmP x=some i):nm x=some i:=by
 unfold nmP at h;split at h
 ·exact h
 ·cases h
theorem iN{x:Str}{i:Int}(h:nm x=some i)(hi:i<10):nmP x=some i:=by
 unfold nmP;rw[if_pos,h];by_cases q:x.length<=31
 ·exact q
 ·have:=wM h (by lia);lia
noncomputable def dP(v:Str):D:=.tup ((qe v "-").map λu=>oD (nmP u))
theorem DB{m:Int}(hm:m<=8){v:Str}{t:Int×Int}(h:zp m v=some t):dP v=prD t:=by
 obtain⟨u,u',e,h1,h2,h3,h4⟩:=eZ h;have:=oI h1;unfold dP;rw[e];simp only[aM,List.map_nil];rw[iN h1 (by lia),iN h2 (by lia)]
 rfl
theorem rX{m:Int}(hm:m<=8)(v:Str):kQ m (dP v,(zp m v).isSome):=by
 cases hL:qe v "-" with
 |nil=>exact absurd hL (gv v "-")
 |cons u r=>
  cases r with
  |nil=>
   refine .inr ⟨.inr (.inl ⟨_,rfl,by rw[hL];simp⟩),?_⟩;cases q:zp m v with
   |none=>rfl
   |some t=>obtain⟨a,b,e,_⟩:=eZ q;rw[hL]at e;cases e
  |cons u' r=>
   cases r with
   |cons u'' r=>
    refine .inr ⟨.inr (.inl ⟨_,rfl,by rw[hL];simp;lia⟩),?_⟩;cases q:zp m v with
    |none=>rfl
    |some t=>obtain⟨a,b,e,_⟩:=eZ q;rw[hL]at e;cases e
   |nil=>
    have hd:dP v=.tup [oD (nmP u),oD (nmP u')]:=by unfold dP;rw[hL];rfl
    rw[hd];cases h1:nmP u with
    |none=>
     refine .inr ⟨.inr (.inr (.inl ⟨_,_,rfl,rfl⟩)),?_⟩;cases q:zp m v with
     |none=>rfl
     |some t=>
      obtain⟨a,b,e,z1,z2,z3,z4⟩:=eZ q;rw[hL]at e;simp only[List.cons.injEq,and_true]at e;rw[<-e.1]at z1;rw[iN z1 (by lia)]at h1;cases h1
    |some a=>
     cases h2:nmP u' with
     |none=>
      refine .inr ⟨.inr (.inr (.inr ⟨a,_,rfl,rfl⟩)),?_⟩;cases q:zp m v with
      |none=>rfl
      |some t=>
       obtain⟨a,b,e,z1,z2,z3,z4⟩:=eZ q;rw[hL]at e;simp only[List.cons.injEq,and_true]at e;rw[<-e.2]at z2;rw[iN z2 (by lia)]at h2;cases h2
     |some b=>
      refine .inl ⟨a,b,?_⟩;rw[tM hL (fV h1) (fV h2)];have:=oI (fV h1);show (D.tup [.int a,.int b],_)=_
      congr 1
      by_cases q:a<b/\b<m
      ·rw[if_pos q,decide_eq_true (show 0<=a/\a<b/\b<m from ⟨by lia,q⟩)];rfl
      ·rw[if_neg q,decide_eq_false (show ¬ (0<=a/\a<b/\b<m)from λz=>q z.2)];rfl
theorem Bi{m:Int}{v:Str}{t:Int×Int}(h:zp m v=some t):3<=v.length:=by
 obtain⟨u,u',e,h1,h2,_⟩:=eZ h;have a:=gB v "-" d1;rw[e]at a;have:=su h1;have:=su h2;simp at a;lia
structure WIn(x:Str)(m:Int)(ts:List (Int×Int)):Prop where
 lo:1<=m
 hi:m<=8
 w:∃u us,qe x " " = u::us/\nm u=some m/\us.map (zp m)=ts.map some
 up:ts=cU (uq ts)
theorem map_some{α:Type}:∀{a b:List α},a.map some=b.map some->a=b
 | [],[],_=>rfl
 | [],_::_,h=>by cases h
 |_::_,[],h=>by cases h
 |x::a,y::b,h=>by
  simp only[aM,List.cons.injEq,bY]at h;rw[h.1,map_some h.2]
theorem WIn.one{x:Str}{m m':Int}{ts ts':List (Int×Int)}(h:WIn x m ts)(h':WIn x m' ts'):m=m'/\ts=ts':=by
 obtain⟨u,us,e,e1,e2⟩:=h.w;obtain⟨v,vs,f,f1,f2⟩:=h'.w;rw[e]at f;simp only[List.cons.injEq]at f;rw[f.1,f1]at e1;have hm:m'=m:=by simpa using e1
 rw[f.2,<-hm,f2]at e2;exact⟨hm.symm,(map_some e2).symm⟩
theorem kG{m:Int}:∀{us:List Str}{ts:List (Int×Int)},us.map (zp m)=ts.map some->4 * ts.length<=tot us
 | [],[],_=>by simp[tot]
 | [],_::_,h=>by cases h
 |_::_,[],h=>by cases h
 |u::us,t::ts,h=>by
  simp only[aM,List.cons.injEq]at h;have:=kG h.2;have:=Bi h.1;rw[ft,bZ];lia
theorem nI{m:Int}:∀us:List Str,(∃ts:List (Int×Int),us.map (zp m)=ts.map some)\/us.all (λv=>(zp m v).isSome)=false
 | []=>.inl ⟨[],rfl⟩
 |u::us=>by
  cases q:zp m u with
  |none=>right;simp[q]
  |some t=>
   rcases nI us with ⟨ts,h⟩|h
   ·exact .inl ⟨t::ts,by rw[aM,q,h];rfl⟩
   ·right;rw[List.all_cons,h];simp
theorem Df{k:Nat}(ts:List (Int×Int))(hz:ts.length<=60):qa p (k+1) "rises" [.tup (ts.map prD)]=.ok (.bl (decide (ts=cU (uq ts)))):=by
 have hr:=Co (k:=k) (ts.map prD) (by simp;lia) (λi=>ltP (ts.getD i (0,0)) (ts.getD (i+1) (0,0))) λi q=>by
  have q':i+1<ts.length:=by simpa using q
  rw[dY,dY,List.getD_eq_getElem?_getD,List.getD_eq_getElem?_getD,List.getElem?_eq_getElem (by lia),List.getElem?_eq_getElem q'];exact AU _ _
 have hv:((a_ ((ts.map prD).length-1)).all λi=>ltP (ts.getD i (0,0)) (ts.getD (i+1) (0,0)))=decide (ts=cU (uq ts)):=by
  rw[Bool.eq_iff_iff,bL,decide_eq_true_eq,<-mO];constructor
  ·intro z i q;have:=z i (List.mem_range.mpr (by simp;lia));rw[List.getD_eq_getElem?_getD,List.getD_eq_getElem?_getD,List.getElem?_eq_getElem (by lia),List.getElem?_eq_getElem q]at this;exact this
  ·intro z i hi;have hi':i+1<ts.length:=by have:=List.mem_range.mp hi;simp at this;lia
   rw[List.getD_eq_getElem?_getD,List.getD_eq_getElem?_getD,List.getElem?_eq_getElem (by lia),List.getElem?_eq_getElem hi'];exact z i hi'
 rw[hv]at hr;exact hr
theorem pD{w:W}{f:Fn}{ds:List D}{c:Str}{τ:Env}(hl:ds.length=f.ps)(hτ:ds.map some++bW (f.N-f.ps) none=τ)(h:qf w f.body τ=.ex c):cz w f ds=.ex c:=by
 rw[cz,if_pos hl,hτ,h]
theorem rB{k:Nat}{x:Str}(h:Tx 232 x):(∃m ts,WIn x m ts/\qa p (k+4) "read" [.str x]=.ok (wb m ts))\/((¬ ∃m ts,WIn x m ts)/\qa p (k+4) "read" [.str x]=.ex "NoText"):=by
 have hl:=h.len;have hws:=mC x " " s1;have htx:∀v∈qe x " ",Tx 232 v:=λv hv=>jb h hv s1
 have hne:=gv x " ";have key:∀(u:Str) (us:List Str),qe x " " = u::us->∀b:Bool,qa p (k+3) "is_web" [.tup [oD (nmP u),.tup (us.map dP)]]=.ok (.bl b)->qa p (k+4) "read" [.str x]=if b then .ok (.tup [oD (nmP u),.tup (us.map dP)])else .ex "NoText":=by
  intro u us hs b hb;have hu:=htx u (by rw[hs];simp);have n1:=number_in TB (k:=k+1) (hu.mono (by lia));have hc:evE ⟨qa p (k+3),p.glb,p.sub,p.cat⟩ (.comp (.seq (.sl (.var 1) (.some (.con (.int 1))) .none)) [none,none] (.nm 1) .yes (.call "numbers_in" (.cons (.var 1) (.cons (.con (.str "-")) .nil)))) [some (.str x),some (.lst ((u::us).map D.str)),none]=.ok (.lst (us.map dP)):=by
   refine gn (f:=D.str) (c:=[]) dP ?_ (by have:=gr us;rw[hs,ft]at hws;simp[SZ];lia) rfl λv hv=>?_
   ·have e:slD (.lst ((u::us).map D.str)) (some 1) none=.ok (.lst (us.map D.str)):=by
     rw[slD,show (1:Int)=((1:Nat):Int)from rfl,jX (u::us) (i:=1) (by simp)]
     rfl
    generalize D.lst ((u::us).map D.str)=L at *;rw[evI,qx];show (R.bind (slD L (some 1) none) _)=_;rw[e]
    rfl
   ·have e:=numbers_in TB (k:=k) (x:=v) (y:="-") ((htx v (by rw[hs];simp[hv])).mono (by lia)) d1;have e':qa p (k+3) "numbers_in" [.str v,.str "-"]=.ok (dP v):=e;simp[KG.Z,e']
  have i0:ixD (.lst ((u::us).map D.str)) (.int 0)=.ok (.str u):=by
   simp only[ixD];have:=fk (xs:=(u::us).map D.str) (i:=0) (by simp);rw[show (0:Int)=((0:Nat):Int)from rfl,this];rfl
  have hset:evE ⟨qa p (k+3),p.glb,p.sub,p.cat⟩ (.tup (.cons (.call "number_in" (.cons (.ix (.var 1) (.con (.int 0))) .nil)) (.cons (.bi .tuple (.cons (.comp (.seq (.sl (.var 1) (.some (.con (.int 1))) .none)) [none,none] (.nm 1) .yes (.call "numbers_in" (.cons (.var 1) (.cons (.con (.str "-")) .nil)))) .nil)) .nil))) [some (.str x),some (.lst ((u::us).map D.str)),none]=.ok (.tup [oD (nmP u),.tup (us.map dP)]):=by
   have b0:b1 .tuple [.lst (us.map dP)]=.ok (.tup (us.map dP)):=rfl;have e0:evE ⟨qa p (k+3),p.glb,p.sub,p.cat⟩ (.call "number_in" (.cons (.ix (.var 1) (.con (.int 0))) .nil)) [some (.str x),some (.lst ((u::us).map D.str)),none]=.ok (oD (nmP u)):=by
    generalize D.lst ((u::us).map D.str)=L at *;simp[KG.Z,i0,n1]
   have e1:evE ⟨qa p (k+3),p.glb,p.sub,p.cat⟩ (.bi .tuple (.cons (.comp (.seq (.sl (.var 1) (.some (.con (.int 1))) .none)) [none,none] (.nm 1) .yes (.call "numbers_in" (.cons (.var 1) (.cons (.con (.str "-")) .nil)))) .nil)) [some (.str x),some (.lst ((u::us).map D.str)),none]=.ok (.tup (us.map dP)):=by
    rw[qi,zw,hc];simp only[R.bind_ok,zw,b0]
   rw[qt];simp only[zw,e0,e1,R.bind_ok]
  have isx:zU ⟨qa p (k+3),p.glb,p.sub,p.cat⟩ (.str x) (.ty "str")=.ok (.bl true):=rfl;rw[qc nu];have body:qf ⟨qa p (k+3),p.glb,p.sub,p.cat⟩ jB.body [some (.str x),none,none]=if b then .rt (.tup [oD (nmP u),.tup (us.map dP)])else .ex "NoText":=by
   refine cW (σ:=[some (.str x),none,none]) (by simp[KG.Z,isx]) ?_;refine cW (σ:=[some (.str x),some (.lst ((u::us).map D.str)),none]) (by
    rw[zN,jg (x:=x) (y:=" ") rfl rfl s1 (by lia),hs];rfl) ?_
   refine cW (σ:=[some (.str x),some (.lst ((u::us).map D.str)),some (.tup [oD (nmP u),.tup (us.map dP)])]) (by
    rw[zN,hset];rfl) ?_
   generalize D.tup [oD (nmP u),.tup (us.map dP)]=U at *;generalize D.lst ((u::us).map D.str)=L at *;cases b with
   |true=>simp[KG.Z,hb]
   |false=>simp[KG.Z,hb]
  cases b with
  |true=>exact zo rfl rfl body
  |false=>exact pD rfl rfl body
 cases hs:qe x " " with
 |nil=>exact absurd hs hne
 |cons u us=>
  have key:=key u us hs;rw[hs,ft]at hws;have hul:=gr us;cases hn:nmP u with
  |none=>
   rw[hn]at key;right;refine⟨?_,key false (pj λk=>uL rfl _ _)⟩;rintro⟨m,ts,W⟩;obtain⟨v,vs,e,e1,e2⟩:=W.w;rw[hs]at e;simp only[List.cons.injEq]at e;have:=W.hi;rw[<-e.1]at e1;rw[iN e1 (by lia)]at hn;cases hn
  |some m=>
   rw[hn]at key;by_cases hm:1<=m/\m<=8
   ·rcases nI (m:=m) us with ⟨ts,ht⟩|ht
    ·have hlt:=kG ht;have hd:us.map dP=ts.map prD:=by
      clear hlt key hws hul hs
      induction us generalizing ts with
      |nil=>cases ts with
       |nil=>rfl
       |cons _ _=>cases ht
      |cons v us ih=>cases ts with
       |nil=>cases ht
       |cons t ts=>
        simp only[aM,List.cons.injEq]at ht;rw[aM,aM,DB hm.2 ht.1,ih ts ht.2]
     have ha:(us.map λv=>((dP v,(zp m v).isSome):D×Bool)).all (·.2)=true:=by
      rw[List.all_map,bL];intro v hv;have:zp m v∈us.map (zp m):=List.mem_map_of_mem hv;rw[ht]at this;obtain⟨t,_,e⟩:=a8.mp this;show (zp m v).isSome=true;rw[<-e];rfl
     have hx:(us.map λv=>((dP v,(zp m v).isSome):D×Bool)).map (·.1)=ts.map prD:=by rw[List.map_map];exact hd
     have hw:=nH (k:=k) hm (ys:=us.map λv=>((dP v,(zp m v).isSome):D×Bool)) (r:=decide (ts=cU (uq ts))) (by simp;lia) (λy hy=>by
      obtain⟨v,_,rfl⟩:=a8.mp hy;exact rX hm.2 v) (λ_=>by rw[hx];exact Df ts (by lia))
     rw[hx,ha,Bool.true_and]at hw;rw[hd]at key;have key:=key _ hw;by_cases q:ts=cU (uq ts)
     ·rw[decide_eq_true q,if_pos rfl]at key;exact .inl ⟨m,ts,⟨hm.1,hm.2,⟨u,us,hs,fV hn,ht⟩,q⟩,key⟩
     ·rw[decide_eq_false q,if_neg (by decide)]at key;refine .inr ⟨?_,key⟩;rintro⟨m',ts',W⟩;obtain⟨v,vs,e,e1,e2⟩:=W.w;rw[hs]at e;simp only[List.cons.injEq]at e;rw[<-e.1,fV hn]at e1;have e1:m=m':=by simpa using e1
      rw[<-e.2,<-e1,ht]at e2;exact q (map_some e2▸W.up)
    ·have ha:(us.map λv=>((dP v,(zp m v).isSome):D×Bool)).all (·.2)=false:=by
      rw[List.all_map];exact ht
     have hx:(us.map λv=>((dP v,(zp m v).isSome):D×Bool)).map (·.1)=us.map dP:=by rw[List.map_map];rfl
     have hw:=nH (k:=k) hm (ys:=us.map λv=>((dP v,(zp m v).isSome):D×Bool)) (r:=false) (by simp;lia) (λy hy=>by
      obtain⟨v,_,rfl⟩:=a8.mp hy;exact rX hm.2 v) (λz=>by rw[ha]at z;cases z)
     rw[hx,ha,Bool.false_and]at hw;refine .inr ⟨?_,key _ hw⟩;rintro⟨m',ts',W⟩;obtain⟨v,vs,e,e1,e2⟩:=W.w;rw[hs]at e;simp only[List.cons.injEq]at e;rw[<-e.1,fV hn]at e1;have e1:m=m':=by simpa using e1
     rw[<-e.2,<-e1]at e2;have:us.all (λv=>(zp m v).isSome)=true:=by
      rw[bL];intro v hv;have:zp m v∈us.map (zp m):=List.mem_map_of_mem hv;rw[e2]at this;obtain⟨t,_,e⟩:=a8.mp this;rw[<-e];rfl
     rw[this]at ht;cases ht
   ·right;refine⟨?_,key false (pj λk=>by rw[show oD (some m)=D.int m from rfl,ph,decide_eq_false hm])⟩;rintro⟨m',ts',W⟩;obtain⟨v,vs,e,e1,e2⟩:=W.w;rw[hs]at e;simp only[List.cons.injEq]at e;rw[<-e.1,fV hn]at e1;have e1:m=m':=by simpa using e1
    exact hm ⟨by rw[e1];exact W.lo,by rw[e1];exact W.hi⟩
abbrev TT:T:=.or (.cmp .ne (.bi .len (.cons (.var 5) .nil)) (.con (.int 2))) (.or (.cmp .isin (.con .non) (.var 5)) (.not (.cmp2 .lt .lt (.ix (.var 5) (.con (.int 0))) (.ix (.var 5) (.con (.int 1))) (.var 2))))
theorem tV{w:W}{a b c e:Option D}{m:Int}{v:Str}:evT w TT [a,b,some (.int m),c,e,some (.lst ((qe v "-").map λu=>oD (nm u)))]=.ok (!(zp m v).isSome):=by
 have e0:∀l:List D,b1 .len [.lst l]=.ok (.int (l.length:Int)):=λ_=>rfl
 have e1:evT w (.cmp .ne (.bi .len (.cons (.var 5) .nil)) (.con (.int 2))) [a,b,some (.int m),c,e,some (.lst ((qe v "-").map λu=>oD (nm u)))]=.ok (!decide (((qe v "-").length:Int)=2)):=by
  have:=ne_int ((qe v "-").length:Int) 2;rw[dj,qi];show qg .ne (.int (((qe v "-").map λu=>oD (nm u)).length:Int)) (.int 2)=_;rw[aQ,this]
 rw[zX,e1,R.bind_ok];by_cases q:((qe v "-").length:Int)=2
 ·rw[decide_eq_true q]
  match hL:qe v "-" with
  | []=>rw[hL]at q;simp at q
  | [u]=>rw[hL]at q;simp at q
  |u::u'::u''::r=>rw[hL]at q;simp at q;lia
  | [u,u']=>
   rw[bR,if_neg (by decide),zX];simp only[aM,List.map_nil];have a1:∀o:Option Int,(oD o).asks=true:=λo=>by cases o<;>rfl
   have e2:evT w (.cmp .isin (.con .non) (.var 5)) [a,b,some (.int m),c,e,some (.lst [oD (nm u),oD (nm u')])]=.ok ((nm u).isNone||(nm u').isNone):=by
    rw[dj];show (if (D.non.asks&&([oD (nm u),oD (nm u')].all D.asks))=true then R.ok (inD .non [oD (nm u),oD (nm u')])else .no)=_;rw[if_pos (by simp[a1];rfl)];cases nm u<;>cases nm u'<;>rfl
   rw[e2,R.bind_ok];cases h1:nm u with
   |none=>
    have:zp m v=none:=by
     cases z:zp m v with
     |none=>rfl
     |some t=>
      obtain⟨x,y,z0,z1,_⟩:=eZ z;rw[hL]at z0;simp only[List.cons.injEq,and_true]at z0;rw[<-z0.1,h1]at z1;cases z1
    rw[this];cases nm u'<;>rfl
   |some i=>
    cases h2:nm u' with
    |none=>
     have:zp m v=none:=by
      cases z:zp m v with
      |none=>rfl
      |some t=>
       obtain⟨x,y,z0,z1,z2,_⟩:=eZ z;rw[hL]at z0;simp only[List.cons.injEq,and_true]at z0;rw[<-z0.2,h2]at z2;cases z2
     rw[this]
     rfl
    |some j=>
     rw[tM hL h1 h2];have l1:qg .lt (.int i) (.int j)=.ok (decide (i<j)):=rfl;have l2:qg .lt (.int j) (.int m)=.ok (decide (j<m)):=rfl;have x0:ixD (.lst [.int i,.int j]) (.int 0)=.ok (.int i):=rfl;have x1:ixD (.lst [.int i,.int j]) (.int 1)=.ok (.int j):=rfl;show evT w (.not (.cmp2 .lt .lt (.ix (.var 5) (.con (.int 0))) (.ix (.var 5) (.con (.int 1))) (.var 2))) [a,b,some (.int m),c,e,some (.lst [.int i,.int j])]=_;rw[d_,fh,qk,qk];simp only[za,qY,bX,List.getElem?_cons_succ,List.getElem?_cons_zero,R.bind_ok,x0,x1,l1,l2];by_cases q1:i<j
     ·by_cases q2:j<m
      ·simp[q1,q2]
      ·simp[q1,q2]
     ·simp[q1]
 ·rw[decide_eq_false q];have:zp m v=none:=by
   cases z:zp m v with
   |none=>rfl
   |some t=>
    obtain⟨x,y,z0,_⟩:=eZ z;rw[z0]at q;exact absurd rfl q
  rw[this]
  rfl
theorem pe{k:Nat}{x:Str}(h:Tx 232 x):(∃m ts,WIn x m ts/\qa p (k+2) "_law_web_in" [.str x]=.ok (wb m ts))\/((¬ ∃m ts,WIn x m ts)/\qa p (k+2) "_law_web_in" [.str x]=.ok .non):=by
 have hl:=h.len;have hws:=mC x " " s1;have htx:∀v∈qe x " ",Tx 232 v:=λv hv=>jb h hv s1
 suffices H:∃d,qa p (k+2) "_law_web_in" [.str x]=.ok d/\((∃m ts,WIn x m ts/\d=wb m ts)\/((¬ ∃m ts,WIn x m ts)/\d=.non))by
  obtain⟨d,e,q⟩:=H;rcases q with ⟨m,ts,q,rfl⟩|⟨q,rfl⟩
  ·exact .inl ⟨m,ts,q,e⟩
  ·exact .inr ⟨q,e⟩
 refine jH (k:=k+1) (τ:=[some (.str x),none,none,none,none,none]) DA rfl rfl ?_;cases hs:qe x " " with
 |nil=>exact absurd hs (gv x " ")
 |cons u us=>
  rw[hs,ft]at hws;have hul:=gr us;refine cP (σ:=[some (.str x),some (.lst ((u::us).map D.str)),none,none,none,none]) (by
   rw[zN,jg (x:=x) (y:=" ") rfl rfl s1 (by lia),hs];rfl) ?_
  have hu:=htx u (by rw[hs];simp);have n1:=pM TB (k:=k) (hu.mono (by lia));have i0:ixD (.lst ((u::us).map D.str)) (.int 0)=.ok (.str u):=by
   simp only[ixD];have:=fk (xs:=(u::us).map D.str) (i:=0) (by simp);rw[show (0:Int)=((0:Nat):Int)from rfl,this];rfl
  have hcut:slD (.lst ((u::us).map D.str)) (some 1) none=.ok (.lst (us.map D.str)):=by
   rw[slD,show (1:Int)=((1:Nat):Int)from rfl,jX (u::us) (i:=1) (by simp)]
   rfl
  refine cP (σ:=[some (.str x),some (.lst ((u::us).map D.str)),some (oD (nm u)),none,none,none]) (by
   generalize D.lst ((u::us).map D.str)=L at *;simp[KG.Z,i0,n1]) ?_
  generalize hLL:D.lst ((u::us).map D.str)=L at *;have uniq:∀{m':Int}{ts':List (Int×Int)},WIn x m' ts'->nm u=some m'/\us.map (zp m')=ts'.map some:=by
   intro m' ts' W;obtain⟨v,vs,e,e1,e2⟩:=W.w;rw[hs]at e;simp only[List.cons.injEq]at e;rw[e.1,e.2];exact⟨e1,e2⟩
  cases hn:nm u with
  |none=>
   refine zM (K:=λ_=>False) (cZ (v:=true) (by
    show evT _ _ [some (.str x),some L,some .non,none,none,none]=_;rw[zX];rfl) (λ_=>dt rfl (.inr ⟨λ⟨m',ts',W⟩=>(by rw[(uniq W).1]at hn;cases hn),rfl⟩)) (λz=>by cases z)) λ_ z=>z.elim
  |some m=>
   have l1:qg .le (.int 1) (.int m)=.ok (decide (1<=m)):=rfl;have l2:qg .le (.int m) (.int 8)=.ok (decide (m<=8)):=rfl;have ht:evT (wAt p (k+1)) (.or (.cmp .is (.var 2) (.con .non)) (.not (.cmp2 .le .le (.con (.int 1)) (.var 2) (.con (.int 8))))) [some (.str x),some L,some (.int m),none,none,none]=.ok (!decide (1<=m/\m<=8)):=by
    have z0:evT (wAt p (k+1)) (.cmp .is (.var 2) (.con .non)) [some (.str x),some L,some (.int m),none,none,none]=.ok false:=rfl;rw[zX,z0,R.bind_ok,if_neg (by decide),d_,fh];simp only[za,qY,bX,List.getElem?_cons_succ,List.getElem?_cons_zero,R.bind_ok,l1,l2];by_cases q1:1<=m
    ·by_cases q2:m<=8<;>simp[q1,q2]
    ·simp[q1]
   show Ends _ _ (qf _ _ [some (.str x),some L,some (.int m),none,none,none]);by_cases hm:1<=m/\m<=8
   ·rw[decide_eq_true hm]at ht;refine zM (K:=λσ=>σ=[some (.str x),some L,some (.int m),none,none,none]) (cZ ht (λz=>by cases z) (λ_=>eP rfl)) ?_;rintro σ rfl;refine cP (σ:=[some (.str x),some L,some (.int m),some (.lst []),none,none]) rfl ?_;have htot:∀{dn l:List Str}{ts:List (Int×Int)},us=dn++l->dn.map (zp m)=ts.map some->ts.length<=58:=by
     intro dn l ts e q;have:=kG q;rw[e,zR]at hws;lia
    refine jK (ds:=us.map D.str) (λr σ=>∃(dn l:List Str) (ts:List (Int×Int)) (v4 v5:Option D),r=l.map D.str/\us=dn++l/\dn.map (zp m)=ts.map some/\σ=[some (.str x),some L,some (.int m),some (.lst (ts.map prD)),v4,v5]) ?_ ⟨[],us,[],none,none,rfl,rfl,rfl,rfl⟩ ?_ ?_
    ·rw[evI,qx];show (R.bind (slD L (some 1) none) _)=_;rw[hcut]
     rfl
    ·rintro y t σ ⟨dn,l,ts,v4,v5,e,hus,hdn,rfl⟩;obtain⟨v,l,rfl,rfl,rfl⟩:=fx e;refine⟨[some (.str x),some L,some (.int m),some (.lst (ts.map prD)),some (.str v),v5],rfl,?_⟩;have hv:=htx v (by rw[hs,hus];simp);have hvl:=hv.len;have hsv:=gB v "-" d1;have hc:evE (wAt p (k+1)) (.comp (.seq (.spl (.var 4) (.con (.str "-")))) [none,none] (.nm 1) .yes (.call "_law_number_in" (.cons (.var 1) .nil))) [some (.str x),some L,some (.int m),some (.lst (ts.map prD)),some (.str v),v5]=.ok (.lst ((qe v "-").map λu=>oD (nm u))):=by
      refine gn (f:=D.str) (c:=[]) (λu=>oD (nm u)) (by rw[evI,jg (x:=v) (y:="-") rfl rfl d1 (by lia)];rfl) (by simp only[SZ];lia) rfl λu hu=>?_
      have e:=pM TB (k:=k) ((jb hv hu d1).mono (by lia));simp[KG.Z,e]
     refine cP (σ:=[some (.str x),some L,some (.int m),some (.lst (ts.map prD)),some (.str v),some (.lst ((qe v "-").map λu=>oD (nm u)))]) (by rw[zN,hc];rfl) ?_;cases hti:zp m v with
     |none=>
      have tv:=tV (w:=wAt p (k+1)) (a:=some (.str x)) (b:=some L) (c:=some (.lst (ts.map prD))) (e:=some (.str v)) (m:=m) (v:=v);rw[hti]at tv;refine zM (K:=λ_=>False) (cZ tv (λ_=>dt rfl (.inr ⟨λ⟨m',ts',W⟩=>?_,rfl⟩)) (λz=>by cases z)) λ_ z=>z.elim
      obtain⟨w1,w2⟩:=uniq W;rw[hn]at w1;have w1:m=m':=by simpa using w1
      rw[<-w1]at w2;have:zp m v∈us.map (zp m):=List.mem_map_of_mem (by rw[hus];simp);rw[w2,hti]at this;simp at this
     |some q=>
      have tv:=tV (w:=wAt p (k+1)) (a:=some (.str x)) (b:=some L) (c:=some (.lst (ts.map prD))) (e:=some (.str v)) (m:=m) (v:=v);rw[hti]at tv;refine zM (K:=λσ=>σ=[some (.str x),some L,some (.int m),some (.lst (ts.map prD)),some (.str v),some (.lst ((qe v "-").map λu=>oD (nm u)))]) (cZ tv (λz=>by cases z) (λ_=>eP rfl)) ?_;rintro σ rfl;obtain⟨u1,u2,a0,a1,a2,_⟩:=eZ hti;have hlen:=htot hus hdn;rw[a0];simp only[aM,List.map_nil,a1,a2,oD];refine cP (σ:=[some (.str x),some L,some (.int m),some (.lst ((ts++[q]).map prD)),some (.str v),some (.lst [.int q.1,.int q.2])]) ?_ (eP ⟨dn++[v],l,ts++[q],_,_,rfl,by rw[hus];simp,by rw[List.map_append,List.map_append,hdn,aM,List.map_nil,hti];rfl,rfl⟩);have x0:ixD (.lst [.int q.1,.int q.2]) (.int 0)=.ok (.int q.1):=rfl;have x1:ixD (.lst [.int q.1,.int q.2]) (.int 1)=.ok (.int q.2):=rfl;have et:evE (wAt p (k+1)) (.tup (.cons (.ix (.var 5) (.con (.int 0))) (.cons (.ix (.var 5) (.con (.int 1))) .nil))) [some (.str x),some L,some (.int m),some (.lst (ts.map prD)),some (.str v),some (.lst [.int q.1,.int q.2])]=.ok (prD q):=by
       rw[qt];simp only[zw,qk,za,qY,bX,List.getElem?_cons_succ,List.getElem?_cons_zero,R.bind_ok,x0,x1]
       rfl
      rw[cD,et];show (if (ts.map prD).length<SZ then O.nx _ else .no)=_;rw[if_pos (by simp[SZ];lia)];show O.nx _=O.nx _;rw[List.map_append];rfl
    ·rintro σ ⟨dn,l,ts,v4,v5,e,hus,hdn,rfl⟩;cases l with
     |cons a b=>cases e
     |nil=>
      rw[dD]at hus;subst hus;have hlen:=htot (l:=[]) (by simp) hdn;have c1:=Ab ts (by lia);have c2:=vQ ts (cU (uq ts));have hte:evT (wAt p (k+1)) (.cmp .ne (.own 3) (.sset false (.own 3))) [some (.str x),some L,some (.int m),some (.lst (ts.map prD)),v4,v5]=.ok (!decide (ts=cU (uq ts))):=by
       rw[dj,qN,ze];show (R.bind (gK false (.lst (ts.map prD))) λy=>qg .ne (.lst (ts.map prD)) y)=_;rw[c1,R.bind_ok,c2]
      by_cases q:ts=cU (uq ts)
      ·rw[decide_eq_true q]at hte;refine zM (K:=λσ=>σ=[some (.str x),some L,some (.int m),some (.lst (ts.map prD)),v4,v5]) (cZ hte (λz=>by cases z) (λ_=>eP rfl)) ?_;rintro σ rfl;exact dt (d:=wb m ts) rfl (.inl ⟨m,ts,⟨hm.1,hm.2,⟨u,us,hs,hn,hdn⟩,q⟩,rfl⟩)
      ·rw[decide_eq_false q]at hte;refine zM (K:=λ_=>False) (cZ hte (λ_=>dt rfl (.inr ⟨λ⟨m',ts',W⟩=>?_,rfl⟩)) (λz=>by cases z)) λ_ z=>z.elim
       obtain⟨w1,w2⟩:=uniq W;rw[hn]at w1;have w1:m=m':=by simpa using w1
       rw[<-w1,hdn]at w2;exact q (map_some w2▸W.up)
   ·rw[decide_eq_false hm]at ht;refine zM (K:=λ_=>False) (cZ ht (λ_=>dt rfl (.inr ⟨λ⟨m',ts',W⟩=>?_,rfl⟩)) (λz=>by cases z)) λ_ z=>z.elim
    have w1:=(uniq W).1;rw[hn]at w1;have w1:m=m':=by simpa using w1
    exact hm ⟨by rw[w1];exact W.lo,by rw[w1];exact W.hi⟩
theorem BW{w:W}{it:It}{cap:List (Option Nat)}{t:T}{elt:E}{τ c:Env}{l:List (Int×Int)}(q:Int×Int->Bool)(g:Int×Int->D)(h:evI w it τ=.ok (l.map prD))(hz:l.length<=SZ)(hc:ef cap τ=none::none::none::c)
  (hb:∀x∈l,evT w t (none::some (.int x.1)::some (.int x.2)::c)=.ok (q x)/\evE w elt (none::some (.int x.1)::some (.int x.2)::c)=.ok (g x)):evE w (.comp it cap (.tp [1,2]) t elt) τ=.ok (.lst ((l.filter q).map g)):=by
 have e:=comp2 (g:=λd=>match d with | .tup [.int a,.int b]=>(if q (a,b)then [g (a,b)]else [])|_=>[]) h (by simpa using hz) hc (t:=t) (elt:=elt) λx hx=>by
  obtain⟨y,hy,rfl⟩:=a8.mp hx;refine⟨.int y.1,.int y.2,rfl,?_⟩;rw[(hb y hy).1];simp only[R.bind_ok];cases z:q y with
  |true=>rw[if_pos rfl,(hb y hy).2];simp[prD,pairD,z]
  |false=>simp[prD,pairD,z]
 rw[e]
 congr 2
 clear e h hz hb
 induction l with
 |nil=>rfl
 |cons x r ih=>
  rw[aM,dX,ih,List.filter_cons];cases z:q x<;>simp[prD,pairD,z]
theorem wH:∀i:Fin 9,(zK (i.val:Int)).length=1/\PyData.strOk (zK (i.val:Int))=true:=by decide +kernel
theorem EB:∀i j:Fin 9,cm (i.val:Int) "-" (j.val:Int)=(zK (i.val:Int) ++ "-")++zK (j.val:Int)/\(cm (i.val:Int) "-" (j.val:Int)).length=3/\((Str.empty++zK (i.val:Int))++("-" : Str)).length=2/\(zK (i.val:Int)++("-" : Str)).length=2/\PyData.strOk (cm (i.val:Int) "-" (j.val:Int))=true:=by decide +kernel
theorem num{i:Int}(h:0<=i/\i<=8):(zK i).length=1/\PyData.strOk (zK i)=true:=by
 obtain⟨n,rfl⟩:∃n:Nat,i=n:=⟨i.toNat,by lia⟩
 exact wH ⟨n,by lia⟩
theorem tie{i j:Int}(h:0<=i/\i<=8)(h':0<=j/\j<=8):cm i "-" j=(zK i ++ "-")++zK j/\(cm i "-" j).length=3/\((Str.empty++zK i)++("-" : Str)).length=2/\(zK i++("-" : Str)).length=2/\PyData.strOk (cm i "-" j)=true:=by
 obtain⟨n,rfl⟩:∃n:Nat,i=n:=⟨i.toNat,by lia⟩
 obtain⟨m,rfl⟩:∃m:Nat,j=m:=⟨j.toNat,by lia⟩
 exact EB ⟨n,by lia⟩ ⟨m,by lia⟩
theorem xt{l:List Str}{n:Nat}(h:∀x∈l,x.length<=n):(l.map (·.length)).sum<=n * l.length:=by
 induction l with
 |nil=>simp
 |cons x r ih=>
  have a:=h x aO;have b:=ih λy hy=>h y (aK _ hy)
  rw[aM,List.sum_cons,bZ,Nat.mul_succ];lia
noncomputable def tx(t:Int×Int):Str:=cm t.1 "-" t.2
noncomputable def eI(m:Int)(ts:List (Int×Int)):List Str:=zK m::ts.map tx
noncomputable def ez(m:Int)(ts:List (Int×Int)):Str:=zy " " (eI m ts)
theorem lY{i:Int}(h:0<=i/\i<=8):fO (.int i)=.ok (.str (zK i)):=by
 simp only[fO,iR];rw[if_pos (by simp[zt];lia)]
section
variable{m:Int}{ts:List (Int×Int)}(h:GW m ts)
include h
theorem iA{t:Int×Int}(ht:t∈ts):(0<=t.1/\t.1<=8)/\(0<=t.2/\t.2<=8):=by
 have:=h.ok t ht;have:=h.hi;lia
theorem sf:tot (eI m ts)<=116:=by
 have h1:=h.lo;have h2:=h.hi;have hl:=h.len;have:=xt (l:=eI m ts) (n:=3) λx hx=>by
  rcases aG.mp hx with rfl|hx
  ·have:=(num (i:=m) (by lia)).1;lia
  ·obtain⟨t,ht,rfl⟩:=a8.mp hx;have:=iA h ht;have:=(tie this.1 this.2).2.1;rw[tx];lia
 have e:(eI m ts).length=ts.length+1:=by simp[eI]
 have e2:(eI m ts).map (·.length)=(zK m).length::ts.map λt=>(tx t).length:=by simp[eI]
 unfold tot;lia
theorem sP:Tx 115 (ez m ts):=by
 have h1:=h.lo;have h2:=h.hi;refine iz s1 o1 (λx hx=>?_) (by have:=sf h;unfold tot at this;lia);rcases aG.mp hx with rfl|hx
 ·exact(num (i:=m) (by lia)).2
 ·obtain⟨t,ht,rfl⟩:=a8.mp hx;have:=iA h ht;exact(tie this.1 this.2).2.2.2.2
end
theorem A3{k:Nat}{m:Int}{ts:List (Int×Int)}(h:GW m ts):qa p (k+1) "_law_web_text" [wb m ts]=.ok (.str (ez m ts)):=by
 have h1:=h.lo;have h2:=h.hi;have hl:=h.len;rw[qc yZ];refine zo (τ:=[some (wb m ts)]) rfl rfl ?_;have hc:evE ⟨qa p k,p.glb,p.sub,p.cat⟩ (.comp (.seq (.ix (.var 0) (.con (.int 1)))) [none,none,none] (.tp [1,2]) .yes (.sadd (.sadd (.stri (.var 1)) (.con (.str "-"))) (.stri (.var 2)))) [some (wb m ts)]=.ok (.lst (((ts.filter λ_=>true).map λt=>D.str (tx t)))):=by
  refine BW (c:=[]) (λ_=>true) (λt=>D.str (tx t)) (sI rfl) (by simp[SZ];lia) rfl λt ht=>?_
  have z:=iA h ht;have q:=tie z.1 z.2;have n1:=num z.1;have n2:=num z.2;refine⟨rfl,?_⟩;have i1:eh (.str (zK t.1)) (.str "-")=.ok (.str (zK t.1 ++ "-")):=by
   simp only[eh,sR];rw[if_pos (by rw[n1.1];decide +kernel)]
  have i2:eh (.str (zK t.1 ++ "-")) (.str (zK t.2))=.ok (.str (tx t)):=by
   simp only[eh,sR];rw[if_pos (by rw[q.2.2.2.1,n2.1];decide),tx,q.1]
  rw[qB,qB,qA,qA,qY];show ((((fO (.int t.1)).bind λx=>eh x (.str "-")).bind λx=>(fO (.int t.2)).bind λy=>eh x y))=_;rw[lY z.1,lY z.2];simp only[R.bind_ok];rw[i1];simp only[R.bind_ok];exact i2
 rw[List.filter_eq_self.mpr (by simp)]at hc;have ha:evE ⟨qa p k,p.glb,p.sub,p.cat⟩ (.lst (.cons (.stri (.ix (.var 0) (.con (.int 0)))) .nil)) [some (wb m ts)]=.ok (.lst [.str (zK m)]):=by
  have:=lY (i:=m) (by lia);rw[qD,zw,qA];show (((fO (.int m)).bind _).bind _)=_;rw[this]
  rfl
 have hj:fb " " (.lst ((eI m ts).map D.str))=.ok (.str (ez m ts)):=iI (by rw[s1];lia) (by have:=sf h;lia);have hadd:op2 .add (.lst [.str (zK m)]) (.lst (ts.map λt=>D.str (tx t)))=.ok (.lst ((eI m ts).map D.str)):=by
  rw[op2,if_pos ⟨rfl,by simp[SZ];lia⟩,eI,aM,List.map_map];rfl
 show qf _ (.cons (.ret (.joi _ (.op .add _ _))) .nil) _=_;rw[qf,zJ,qr,zb,ha,hc];simp only[R.bind_ok];rw[hadd];simp only[R.bind_ok];rw[hj];rfl
theorem sp:(ao " ")=⟨#[32]⟩:=by decide +kernel
theorem EM:∀i:Fin 9,32∉(zK (i.val:Int)).cps.toList/\nm (zK (i.val:Int))=some (i.val:Int):=by decide +kernel
theorem uv:∀i j:Fin 9,32∉(cm (i.val:Int) "-" (j.val:Int)).cps.toList/\(qe (cm (i.val:Int) "-" (j.val:Int)) "-").map nm=[some (i.val:Int),some (j.val:Int)]:=by decide +kernel
theorem nC{i:Int}(h:0<=i/\i<=8):32∉(zK i).cps.toList/\nm (zK i)=some i:=by
 obtain⟨n,rfl⟩:∃n:Nat,i=n:=⟨i.toNat,by lia⟩
 exact EM ⟨n,by lia⟩
theorem tU{i j:Int}(h:0<=i/\i<=8)(h':0<=j/\j<=8):32∉(cm i "-" j).cps.toList/\(qe (cm i "-" j) "-").map nm=[some i,some j]:=by
 obtain⟨n,rfl⟩:∃n:Nat,i=n:=⟨i.toNat,by lia⟩
 obtain⟨m,rfl⟩:∃m:Nat,j=m:=⟨j.toNat,by lia⟩
 exact uv ⟨n,by lia⟩ ⟨m,by lia⟩
theorem sv{m:Int}{ts:List (Int×Int)}(h:GW m ts):WIn (ez m ts) m ts:=by
 have h1:=h.lo;have h2:=h.hi;refine⟨h1,h2,⟨zK m,ts.map tx,?_,(nC (i:=m) (by lia)).2,?_⟩,?_⟩
 ·unfold ez;rw[sp];refine yA (λx hx=>?_) (by simp[eI]);rcases aG.mp hx with rfl|hx
  ·exact(nC (i:=m) (by lia)).1
  ·obtain⟨t,ht,rfl⟩:=a8.mp hx;have:=iA h ht;exact(tU this.1 this.2).1
 ·rw[List.map_map];refine List.map_congr_left λt ht=>?_
  have z:=iA h ht;have o:=h.ok t ht;show zp m (cm t.1 "-" t.2)=some t;unfold zp;rw[(tU z.1 z.2).2];simp only;rw[if_pos ⟨o.2.1,o.2.2⟩]
 ·rw[<-mO];intro i q;exact List.pairwise_iff_getElem.mp h.lt i (i+1) (by lia) q (by lia)
theorem ke{k:Nat}(l:List D)(h:∀d∈l,qa p k "_law_same" [d,d]=.ok (.bl true)):qa p (k+1) "_law_same" [.tup l,.tup l]=.ok (.bl true):=by
 have z:qg .is (.tup l) .non=.ok false:=rfl;have i1:∀w:W,zU w (.tup l) (.ty "bool")=.ok (.bl false):=λ_=>rfl
 have i2:∀w:W,zU w (.tup l) (.ty "int")=.ok (.bl false):=λ_=>rfl
 have i3:∀w:W,zU w (.tup l) (.ty "str")=.ok (.bl false):=λ_=>rfl
 have i4:∀w:W,zU w (.tup l) (.ty "list")=.ok (.bl false):=λ_=>rfl
 have i5:∀w:W,zU w (.tup l) (.ty "tuple")=.ok (.bl true):=λ_=>rfl
 have bl:b1 .len [.tup l]=.ok (.int (l.length:Int)):=rfl;have nl:=ne_int (l.length:Int) (l.length:Int);rw[decide_eq_true rfl]at nl;have zi:evI (wAt p k) (.zip (.var 0) (.var 1)) [some (.tup l),some (.tup l),none,none]=.ok (cB l l):=by
  rw[evI];show (if l.length=l.length then R.ok (cB l l)else .no)=_;rw[if_pos rfl]
 rw[qc hSm];refine zo (τ:=[some (.tup l),some (.tup l),none,none]) rfl rfl ?_;refine cW (σ:=[some (.tup l),some (.tup l),none,none]) (by
  generalize D.tup l=U at *;simp[KG.Z,z]) ?_
 refine cW (σ:=[some (.tup l),some (.tup l),none,none]) (by
  generalize D.tup l=U at *;simp[KG.Z,i1]) ?_
 refine cW (σ:=[some (.tup l),some (.tup l),none,none]) (by
  generalize D.tup l=U at *;simp[KG.Z,i2]) ?_
 refine cW (σ:=[some (.tup l),some (.tup l),none,none]) (by
  generalize D.tup l=U at *;simp[KG.Z,i3]) ?_
 refine cW (σ:=[some (.tup l),some (.tup l),none,none]) (by
  generalize D.tup l=U at *;simp[KG.Z,i4,i5,vh]) ?_
 refine cW (σ:=[some (.tup l),some (.tup l),none,none]) (by
  generalize D.tup l=U at *;generalize (l.length:Int)=N at *;simp[KG.Z,bl,nl]) ?_
 refine yi (ds:=cB l l) (λr σ=>∃(ms:List D) (v u:Option D),(∀d∈ms,d∈l)/\r=cB ms ms/\σ=[some (.tup l),some (.tup l),v,u]) zi ⟨l,none,none,λ_ z=>z,rfl,rfl⟩ ?_ ?_
 ·rintro x t σ ⟨ms,v,u,hm,e,rfl⟩;cases ms with
  |nil=>cases e
  |cons y ms=>
   rw[cB]at e;injection e with e1 e2
   subst e1 e2;have hy:=h y (hm y aO);exact⟨[some (.tup l),some (.tup l),some y,some y],[some (.tup l),some (.tup l),some y,some y],rfl,by simp[KG.Z,hy],ms,_,_,λd hd=>hm d (aK _ hd),rfl,rfl⟩
 ·rintro σ ⟨ms,v,u,hm,e,rfl⟩;simp[KG.Z]
theorem Bt{k:Nat}(m:Int)(ts:List (Int×Int)):qa p (k+4) "_law_same" [wb m ts,wb m ts]=.ok (.bl true):=by
 refine ke _ λd hd=>?_
 simp only[aG,bx,or_false]at hd;rcases hd with rfl|rfl
 ·exact same_int hSm m
 ·refine ke _ λd hd=>?_
  obtain⟨t,_,rfl⟩:=a8.mp hd;refine ke _ λd hd=>?_
  simp only[aG,bx,or_false]at hd;rcases hd with rfl|rfl<;>exact same_int hSm _
abbrev NO:D:=.tup [.str "no",.int 9]
theorem xF{k:Nat}:qa p (k+2) "_law_same" [NO,NO]=.ok (.bl true):=by
 refine ke _ λd hd=>?_
 simp only[aG,bx,or_false]at hd;rcases hd with rfl|rfl
 ·have h:PyData.strOk (ao "no")=true:=by decide +kernel
  have z:qg .is (.str "no") .non=.ok false:=rfl;have i1:∀w:W,zU w (.str "no") (.ty "bool")=.ok (.bl false):=λ_=>rfl
  have i2:∀w:W,zU w (.str "no") (.ty "int")=.ok (.bl false):=λ_=>rfl
  have i3:∀w:W,zU w (.str "no") (.ty "str")=.ok (.bl true):=λ_=>rfl
  have e:=eq_str h h;rw[decide_eq_true rfl]at e;rw[qc hSm];refine zo rfl rfl ?_;simp[KG.Z,KG.gp,z,i1,i2,i3,e]
 ·exact same_int hSm 9
theorem vx(m:Int)(ts:List (Int×Int)):qg .eq (wb m ts) (wb m ts)=.ok true:=by
 have a:(wb m ts).asks=true:=by
  have:=kK ts;simp only[D.asks,D.plain,D.deep,plainAll,dN,aJ,decide_eq_true_eq]at this ⊢;simp at this ⊢;refine⟨this.1,?_⟩;have b:dN (ts.map prD)<=1:=by
   clear this
   induction ts with
   |nil=>simp[dN]
   |cons t r ih=>rw[aM,dN];show max 1 _<=1;lia
  lia
 rw[qg,a]
 ·simp only[Bool.and_self,if_true,D.eqv,eqvAll,mF];simp
 all_goals (intros;rintro⟨⟩)
theorem m9:NO.asks=true:=by decide +kernel
theorem sA:NO.eqv NO=true:=by decide +kernel
theorem Dw:qg .eq NO NO=.ok true:=by
 rw[qg,m9,sA]
 ·rfl
 all_goals (intros;rintro⟨⟩)
theorem Bd:qg .ne NO NO=.ok false:=by
 rw[qg,m9,sA]
 ·rfl
 all_goals (intros;rintro⟨⟩)
theorem kn:∀k:Nat,qa p (k+1) "_law_kinds" [.exn "NoText"]=.ok (.int 9):=λk=>by rw[qc uR];kernel_rfl
theorem c1:p.cat "NoText" "PlaceError" = true:=by kernel_rfl
theorem B9{k:Nat}{a d:D}(h:qa p k "read" [a]=.ok d):qa p (k+1) "_law_told" [a]=.ok d:=by
 rw[qc sJ];refine zo (τ:=[some a,none]) rfl rfl ?_;have e:qf (wAt p k) (.cons (.ret (.call "read" (.cons (.var 0) .nil))) .nil) [some a,none]=.rt d:=by
  rw[qf,zJ,qp];show (match R.out (qa p k "read" [a]) .rt with | .nx σ=>_|o=>o)=_;rw[h];rfl
 show qf (wAt p k) (.cons (.try (.cons (.ret (.call "read" (.cons (.var 0) .nil))) .nil) "PlaceError" (some 1) _) _) _=_;rw[qf,zV,e]
theorem rQ{k:Nat}{a:D}(h:qa p (k+1) "read" [a]=.ex "NoText"):qa p (k+2) "_law_told" [a]=.ok NO:=by
 rw[qc sJ];refine zo (τ:=[some a,none]) rfl rfl ?_;have e:qf (wAt p (k+1)) (.cons (.ret (.call "read" (.cons (.var 0) .nil))) .nil) [some a,none]=.ex "NoText":=by
  rw[qf,zJ,qp];show (match R.out (qa p (k+1) "read" [a]) .rt with | .nx σ=>_|o=>o)=_;rw[h];rfl
 show qf (wAt p (k+1)) (.cons (.try (.cons (.ret (.call "read" (.cons (.var 0) .nil))) .nil) "PlaceError" (some 1) (.cons (.ret (.tup (.cons (.con (.str "no")) (.cons (.call "_law_kinds" (.cons (.var 1) .nil)) .nil)))) .nil)) .nil) _=_;rw[qf,zV,e];have hc':(wAt p (k+1)).cat "NoText" "PlaceError" = true:=c1;dsimp only;rw[if_pos hc'];have e2:evE (wAt p (k+1)) (.tup (.cons (.con (.str "no")) (.cons (.call "_law_kinds" (.cons (.var 1) .nil)) .nil))) (cL [some a,none] (some 1) "NoText")=.ok NO:=by
  have q:evE (wAt p (k+1)) (.call "_law_kinds" (.cons (.var 1) .nil)) (cL [some a,none] (some 1) "NoText")=.ok (.int 9):=by
   have q:zw (wAt p (k+1)) (.cons (.var 1) .nil) (cL [some a,none] (some 1) "NoText")=.ok [.exn "NoText"]:=rfl;rw[qp,q];exact kn k
  rw[qt];simp only[zw,qY,q,R.bind_ok]
 have e3:qf (wAt p (k+1)) (.cons (.ret (.tup (.cons (.con (.str "no")) (.cons (.call "_law_kinds" (.cons (.var 1) .nil)) .nil)))) .nil) (cL [some a,none] (some 1) "NoText")=.rt NO:=by
  rw[qf,zJ,e2];rfl
 rw[e3];rfl
theorem DT{k:Nat}{d:D}(h:∀w:W,zU w d (.ty "str")=.ok (.bl false)):qa p (k+1) "read" [d]=.ex "NoText":=by
 rw[qc nu];refine pD (τ:=[some d,none,none]) rfl rfl ?_;simp[KG.Z,jB,h]
theorem right{k:Nat}{x:Str}(h:Tx 232 x):qa p (k+6) "_law_right" [.str x]=.ok (.bl true):=by
 have fin:∀(d d0:D),qa p (k+5) "_law_web_in" [.str x]=.ok d0->((d0=.non/\d=NO)\/(fD d0=false/\d=d0))->qa p (k+5) "_law_told" [.str x]=.ok d->qa p (k+5) "_law_same" [d,d]=.ok (.bl true)->qg .eq d d=.ok true->qa p (k+6) "_law_right" [.str x]=.ok (.bl true):=by
  intro d d0 h1 h2 h3 h4 h5;rw[qc uQ];refine zo (τ:=[some (.str x),none]) rfl rfl ?_;refine cW (σ:=[some (.str x),some d0]) (by simp[KG.Z,h1]) ?_;have n0:=ni d0;refine cW (σ:=[some (.str x),some d]) (by
   rcases h2 with ⟨rfl,rfl⟩|⟨q,rfl⟩
   ·simp[KG.Z,n0,fD]
   ·rw[q]at n0;simp[KG.Z,n0]) ?_
  simp[KG.Z,h3,h4,h5]
 rcases pe (k:=k+3) h with ⟨m,ts,W,e⟩|⟨W,e⟩
 ·rcases rB (k:=k) h with ⟨m',ts',W',e'⟩|⟨W',e'⟩
  ·obtain⟨rfl,rfl⟩:=W.one W';exact fin (wb m ts) _ e (.inr ⟨rfl,rfl⟩) (B9 e') (Bt m ts) (vx m ts)
  ·exact absurd ⟨m,ts,W⟩ W'
 ·rcases rB (k:=k) h with ⟨m',ts',W',e'⟩|⟨W',e'⟩
  ·exact absurd ⟨m',ts',W'⟩ W
  ·exact fin NO _ e (.inl ⟨rfl,rfl⟩) (rQ e') xF Dw
structure Hyp(F:Str->List D->R D):Prop where
 hr:∀x,Tx 232 x->F "_law_right" [.str x]=.ok (.bl true)
 hto:∀d,(∀w:W,zU w d (.ty "str")=.ok (.bl false))->F "_law_told" [d]=.ok NO
 hwb:∀m c:Int,1<=m->m<=8->∃ts,GW m ts/\F "_law_web_by" [.int m,.int c]=.ok (wb m ts)
 hwt:∀(m:Int) (ts:List (Int×Int)),GW m ts->F "_law_web_text" [wb m ts]=.ok (.str (ez m ts))
 hwi:∀(m:Int) (ts:List (Int×Int)),GW m ts->F "_law_web_in" [.str (ez m ts)]=.ok (wb m ts)
 hbt:∀(x:Str) (c:Int),Tx 115 x->∃y,F "_law_bent" [.str x,.int c]=.ok (.str y)/\Tx 232 y
abbrev LS(a:D)(b c d e f:Option D):Env:=[some a,b,c,d,e,f]
noncomputable def eG:List Str:=["","1","8","9","0","1 "," 1","2 0-1","2 1-0","2 0-1 0-1","2  0-1","2 0-01","3 0-1-2"]
theorem Cq:∀x∈eG++[("2 0-2" : Str)],x.length<=232/\PyData.strOk x=true:=by decide +kernel
noncomputable def thg:List D:=[.non,.int 3,.tup [.int 3,.tup []],.lst [.str "3"],.bl true,.dic]
theorem Fe:∀d∈thg,∀w:W,zU w d (.ty "str")=.ok (.bl false):=by
 intro d hd w;simp only[thg,aG,bx,or_false]at hd;rcases hd with rfl|rfl|rfl|rfl|rfl|rfl<;>rfl
theorem Dy{w:W}(ns:List Int)(hn:ns.length<=63)(H:Hyp w.call):Ends (λ_=>False) (λd=>d=.bl true) (qf w iK.body (LS (.lst (ns.map D.int)) none none none none none)):=by
 obtain⟨cs,hcs,hcl⟩:=uf ns none (some 8);generalize hLL:D.lst (ns.map D.int)=LL at *;have hcut:slD LL none (some 8)=.ok (.lst (cs.map D.int)):=by rw[<-hLL,slD,hcs]
 refine cP (σ:=LS LL (some (.lst (eG.map D.str))) none none none none) rfl ?_;have hall:evE w (.bi .all (.cons (.comp (.seq (.op .add (.var 1) (.lst (.cons (.con (.str "2 0-2")) .nil)))) [none,none] (.nm 1) .yes (.call "_law_right" (.cons (.var 1) .nil))) .nil)) (LS LL (some (.lst (eG.map D.str))) none none none none)=.ok (.bl true):=by
  have hc:evE w (.comp (.seq (.op .add (.var 1) (.lst (.cons (.con (.str "2 0-2")) .nil)))) [none,none] (.nm 1) .yes (.call "_law_right" (.cons (.var 1) .nil))) (LS LL (some (.lst (eG.map D.str))) none none none none)=.ok (.lst ((eG++[("2 0-2" : Str)]).map λ_=>.bl true)):=by
   refine gn (f:=D.str) (c:=[]) (λ_=>.bl true) (by
    have e:op2 .add (.lst (eG.map D.str)) (.lst ([("2 0-2" : Str)].map D.str))=.ok (.lst ((eG++[("2 0-2" : Str)]).map D.str)):=gj (by decide);rw[evI,zb];show (R.bind (op2 .add (.lst (eG.map D.str)) (.lst ([("2 0-2" : Str)].map D.str))) _)=_;rw[e];rfl) (by decide) rfl λx hx=>?_
   have hx:=Cq x hx;have e:=H.hr x ⟨hx.1,hx.2⟩;simp[KG.Z,e]
  have ha:=nE (λ_=>true) (eG++[("2 0-2" : Str)]);rw[qi];simp only[zw,hc,R.bind_ok,ha];rw[bL.mpr λ_ _=>rfl]
 refine cP (σ:=LS LL (some (.lst (eG.map D.str))) none none none none) (by
  rw[cC,d_,fj,hall];rfl) ?_
 generalize hTX:D.lst (eG.map D.str)=TX;clear hall;refine jK (ds:=thg) (λr σ=>∃v:Option D,(∀d∈r,d∈thg)/\σ=LS LL (some TX) none v none none) rfl ⟨none,λ_ z=>z,rfl⟩ ?_ ?_
 ·rintro y t σ ⟨v,ht,rfl⟩;have e:=H.hto y (Fe y (ht y aO));have n0:=Bd;refine⟨LS LL (some TX) none (some y) none none,rfl,?_⟩;refine cP (σ:=LS LL (some TX) none (some y) none none) ?_ (eP ⟨_,λd hd=>ht d (aK _ hd),rfl⟩);dsimp only[LS];simp[KG.Z,e,n0]
 ·rintro σ ⟨v3,_,rfl⟩;refine jK (ds:=(cs++[0,3]).map D.int) (λr σ=>∃(ms:List Int) (v2 v4 v5:Option D),r=ms.map D.int/\σ=LS LL (some TX) v2 v3 v4 v5) ?_ ⟨_,none,none,none,rfl,rfl⟩ ?_ ?_
  ·have e:op2 .add (.lst (cs.map D.int)) (.lst [.int 0,.int 3])=.ok (.lst ((cs++[0,3]).map D.int)):=by
    rw[op2,if_pos (by simp[SZ];lia)];simp
   dsimp only[LS];simp[KG.Z,hcut,e,seq?]
  ·rintro y t σ ⟨ms,v2,v4,v5,e,rfl⟩;obtain⟨c,ms,rfl,rfl,rfl⟩:=fx e;refine⟨LS LL (some TX) v2 v3 (some (.int c)) v5,rfl,?_⟩;have m1:1<=1+c/64%8:=by lia
   have m2:1+c/64%8<=8:=by lia
   have em:evE w (.op .add (.con (.int 1)) (.op .mod (.op .fdiv (.var 4) (.con (.int 64))) (.con (.int 8)))) (LS LL (some TX) v2 v3 (some (.int c)) v5)=.ok (.int (1+c/64%8)):=rfl;have ed:evE w (.op .fdiv (.var 4) (.con (.int 512))) (LS LL (some TX) v2 v3 (some (.int c)) v5)=.ok (.int (c/512)):=rfl;generalize 1+c/64%8=m at *;generalize c/512=C at *;obtain⟨ts,g,hw⟩:=H.hwb m C m1 m2;have wt:=H.hwt m ts g;have wi:=H.hwi m ts g;have tx:=sP g;have hr:=H.hr _ (tx.mono (by lia));have hx:evE w (.call "_law_web_text" (.cons (.call "_law_web_by" (.cons (.op .add (.con (.int 1)) (.op .mod (.op .fdiv (.var 4) (.con (.int 64))) (.con (.int 8)))) (.cons (.op .fdiv (.var 4) (.con (.int 512))) .nil))) .nil)) (LS LL (some TX) v2 v3 (some (.int c)) v5)=.ok (.str (ez m ts)):=by
    rw[qp];simp only[zw,qp,em,ed,R.bind_ok,hw];exact wt
   refine cP (σ:=LS LL (some TX) (some (.str (ez m ts))) v3 (some (.int c)) v5) (by rw[zN,hx];rfl) ?_;have nn:qg .is (wb m ts) .non=.ok false:=rfl;refine cP (σ:=LS LL (some TX) (some (.str (ez m ts))) v3 (some (.int c)) v5) (by
    dsimp only[LS];generalize wb m ts=U at *;generalize ez m ts=V at *;simp[KG.Z,hr,wi,nn]) ?_
   generalize ez m ts=V at *;refine jK (ds:=(zT 0 8)) (λr σ=>∃(ks:List Int) (v5:Option D),r=ks.map D.int/\σ=LS LL (some TX) (some (.str V)) v3 (some (.int c)) v5) rfl ⟨[0,1,2,3,4,5,6,7],v5,rfl,rfl⟩ ?_ ?_
   ·rintro y t σ ⟨ks,v5,e,rfl⟩;obtain⟨j,ks,rfl,rfl,rfl⟩:=fx e;refine⟨LS LL (some TX) (some (.str V)) v3 (some (.int c)) (some (.int j)),rfl,?_⟩;obtain⟨y,hy,ty⟩:=H.hbt V (c+7919 * j) tx;have hry:=H.hr y ty;have ea:op2 .mul (.int 7919) (.int j)=.ok (.int (7919 * j)):=by
     show opI .mul 7919 j=_;rw[opI,if_pos (by rw[show small 7919=true from by decide];rfl)]
    have eb:op2 .add (.int c) (.int (7919 * j))=.ok (.int (c+7919 * j)):=rfl;refine cP (σ:=LS LL (some TX) (some (.str V)) v3 (some (.int c)) (some (.int j))) ?_ (eP ⟨ks,_,rfl,rfl⟩);dsimp only[LS];generalize c+7919 * j=CJ at *;generalize 7919 * j=J at *;simp[KG.Z,ea,eb,hy,hry]
   ·rintro σ ⟨ks,v5,e,rfl⟩;exact eP ⟨ms,_,_,_,rfl,rfl⟩
  ·rintro σ ⟨ms,v2,v4,v5,e,rfl⟩;exact dt rfl rfl
theorem yE{F:Str->List D->R D}(ns:List Int)(hn:ns.length<=63)(H:Hyp F):cz ⟨F,p.glb,p.sub,p.cat⟩ iK [.lst (ns.map D.int)]=.ok (.bl true):=by
 obtain⟨d,e,rfl⟩:=Ct (w:=⟨F,p.glb,p.sub,p.cat⟩) (f:=iK) (ds:=[.lst (ns.map D.int)]) rfl rfl (Dy (w:=⟨F,p.glb,p.sub,p.cat⟩) ns hn H);exact e
noncomputable def depth:Nat:=8
theorem u7:∀ns:List Int,ns.length<=63->qa p depth "law" [.lst (ns.map D.int)]=.ok (.bl true):=by
 intro ns hn;rw[show depth=7+1 from rfl,qc BL];refine yE ns hn ⟨λx h=>right (k:=1) h,λd h=>rQ (k:=5) (DT (k:=5) h),λm c h1 h2=>wI hS hPr hWb (k:=5) m c h1 h2,λm ts g=>A3 (k:=6) g,λm ts g=>?_,λx c h=>DG TB hS (k:=5) (n:=115) (by lia) h c⟩;rcases pe (k:=5) ((sP g).mono (show 115<=232 by lia))with ⟨m',ts',W,e⟩|⟨W,e⟩
 ·obtain⟨rfl,rfl⟩:=W.one (sv g);exact e
 ·exact absurd ⟨m,ts,sv g⟩ W
end K91
namespace K91
open PySem PySem.Spec PyProof.Rows L2 EV
theorem nW:∀e∈tab,cFn G (fT us oth) e.own e.fr e.st=some e.fn:=by
 intro e he;simp only[tab,aG,bx,or_false]at he;rcases he with rfl|rfl|rfl|rfl|rfl|rfl|rfl|rfl|rfl|rfl|rfl|rfl|rfl|rfl|rfl|rfl|rfl|rfl|rfl|rfl|rfl|rfl<;>kernel_rfl
theorem Fj:∀e∈us,e∈tab:=by
 intro e he;simp only[us,aG,bx,or_false]at he;rcases he with rfl
 ·simp[tab]
theorem vT:∀e∈us,hZ (fB oth) e.own e.fr e.st=some e.fn:=by
 intro e he;simp only[us,aG,bx,or_false]at he;rcases he with rfl<;>kernel_rfl
theorem nd:(tab.map (·.x)).Nodup:=by decide +kernel
section
variable{K:ax}{h:Heap}{mg:Str->Option ae}{f0:Addr}(d0:WB.Dd K "is_whole" (top 17) f0){f1:Addr}(d1:WB.Dd K "is_between" (top 18) f1){f2:Addr}(d2:WB.Dd K "is_pair" (top 19) f2){f3:Addr}(d3:WB.Dd K "rises" (top 20) f3){f4:Addr}(d4:WB.Dd K "is_web" (top 23) f4){f5:Addr}(d5:WB.Dd K "is_tie" (top 24) f5){f6:Addr}(d6:WB.Dd K "read" (top 28) f6){f7:Addr}(d7:WB.Dd K "numbers_in" (top 29) f7){f8:Addr}(d8:WB.Dd K "number_in" (top 30) f8){f9:Addr}(d9:WB.Dd K "is_number" (top 31) f9){f10:Addr}(d10:WB.Dd K "_law_kinds" (top 33) f10){f11:Addr}(d11:WB.Dd K "_law_number_in" (top 34) f11){f12:Addr}(d12:WB.Dd K "_law_web_in" (top 35) f12){f13:Addr}(d13:WB.Dd K "_law_same" (top 36) f13){f14:Addr}(d14:WB.Dd K "_law_web_text" (top 37) f14){f15:Addr}(d15:WB.Dd K "_law_pairs" (top 38) f15){f16:Addr}(d16:WB.Dd K "_law_stir" (top 39) f16){f17:Addr}(d17:WB.Dd K "_law_web_by" (top 40) f17){f18:Addr}(d18:WB.Dd K "_law_bent" (top 41) f18){f19:Addr}(d19:WB.Dd K "_law_told" (top 42) f19){f20:Addr}(d20:WB.Dd K "_law_right" (top 43) f20){f21:Addr}(d21:WB.Dd K "law" (top 44) f21)
include d0 d1 d2 d3 d4 d5 d6 d7 d8 d9 d10 d11 d12 d13 d14 d15 d16 d17 d18 d19 d20 d21
theorem Cu:∀e∈tab,iO K G e:=by
 intro e he;simp only[tab,aG,bx,or_false]at he;rcases he with rfl|rfl|rfl|rfl|rfl|rfl|rfl|rfl|rfl|rfl|rfl|rfl|rfl|rfl|rfl|rfl|rfl|rfl|rfl|rfl|rfl|rfl<;>refine⟨⟨_,by assumption⟩,λ_ _ _ _ _ _ us hl=>?_⟩<;>first|(obtain⟨_,rfl⟩:=WB.mm hl;rfl)|(obtain⟨_,_,rfl⟩:=WB.lS hl;rfl)|(obtain⟨_,_,_,rfl⟩:=WB.tZ hl;rfl)
omit d0 d1 d2 d3 d4 d5 d6 d7 d8 d9 d10 d11 d12 d13 d14 d15 d16 d17 d18 d19 d20 d21
theorem lu{x:Str}{k:GK}(h:oth.lookup x=some k):∃y∈oth,x=y.1/\k=y.2:=by
 generalize oth=l at h ⊢
 induction l with
 |nil=>cases h
 |cons a r ih=>
  rw[bw]at h;split at h
  ·rename_i q;cases h;exact⟨a,aO,eq_of_beq q,rfl⟩
  ·obtain⟨y,h1,h2⟩:=ih h;exact⟨y,aK _ h1,h2⟩
theorem ET{K:ax}{C0:Addr}(k0:av K ar "PlaceError" = some (some (.ref C0))){C1:Addr}(k1:av K ar "NoWeb" = some (some (.ref C1))){C2:Addr}(k2:av K ar "NoPlaces" = some (some (.ref C2))){C3:Addr}(k3:av K ar "NoPlace" = some (some (.ref C3))){C4:Addr}(k4:av K ar "NoNumber" = some (some (.ref C4))){C5:Addr}(k5:av K ar "NotAll" = some (some (.ref C5))){C6:Addr}(k6:av K ar "NotUntied" = some (some (.ref C6))){C7:Addr}(k7:av K ar "NoShares" = some (some (.ref C7))){C8:Addr}(k8:av K ar "NotTree" = some (some (.ref C8))){C9:Addr}(k9:av K ar "NotTold" = some (some (.ref C9))){C10:Addr}(k10:av K ar "NoCrowds" = some (some (.ref C10))){C11:Addr}(k11:av K ar "NoText" = some (some (.ref C11)))(x11:PySem.W.excIn K C11 jk "ValueError.__new__" = true){C12:Addr}(k12:av K ar "NoLine" = some (some (.ref C12))){C13:Addr}(k13:av K ar "NoDeed" = some (some (.ref C13))){C14:Addr}(k14:av K ar "TooGreat" = some (some (.ref C14))){tk0:Tok}(u0:av K ar "MOST" = some (some (.int 8 tk0))){tk1:Tok}(u1:av K ar "FIGURES" = some (some (.str (ao "0123456789") tk1))){tk2:Tok}(u2:av K ar "MOST_FIGURES" = some (some (.int 31 tk2)))(z0:av K ar "len" = some none)(z1:av K ar "tuple" = some none)(z2:av K ar "list" = some none)(z3:av K ar "int" = some none)(z4:av K ar "bool" = some none)(z5:av K ar "str" = some none)(z6:av K ar "set" = some none)(z7:av K ar "sorted" = some none)(z8:av K ar "all" = some none)(z9:av K ar "range" = some none)(z10:av K ar "enumerate" = some none)(z11:av K ar "zip" = some none)(z12:av K ar "isinstance" = some none)(z13:av K ar "ValueError" = some none):∀x k,oth.lookup x=some k->tO K vals x k:=by
 intro x k h;obtain⟨y,h1,rfl,rfl⟩:=lu h;simp only[oth,aG,bx,or_false]at h1;rcases h1 with rfl|rfl|rfl|rfl|rfl|rfl|rfl|rfl|rfl|rfl|rfl|rfl|rfl|rfl|rfl|rfl|rfl|rfl|rfl|rfl|rfl|rfl|rfl|rfl|rfl|rfl|rfl|rfl|rfl|rfl|rfl|rfl
 ·exact⟨_,k0⟩
 ·exact⟨_,k1⟩
 ·exact⟨_,k2⟩
 ·exact⟨_,k3⟩
 ·exact⟨_,k4⟩
 ·exact⟨_,k5⟩
 ·exact⟨_,k6⟩
 ·exact⟨_,k7⟩
 ·exact⟨_,k8⟩
 ·exact⟨_,k9⟩
 ·exact⟨_,k10⟩
 ·exact⟨_,k11,x11⟩
 ·exact⟨_,k12⟩
 ·exact⟨_,k13⟩
 ·exact⟨_,k14⟩
 ·exact⟨_,.int 8,.int 8,u0,⟨_,rfl⟩,rfl,λg H _=>.int _⟩
 ·exact⟨_,.str (ao "0123456789"),.str (ao "0123456789"),u1,⟨_,rfl⟩,rfl,λg H _=>.str _⟩
 ·exact⟨_,.int 31,.int 31,u2,⟨_,rfl⟩,rfl,λg H _=>.int _⟩
 ·exact⟨z0,rfl,_,rfl⟩
 ·exact⟨z1,by decide +kernel,by simp,by simp[b1N,b1V]⟩
 ·exact⟨z2,by decide +kernel,by simp,by simp[b1N,b1V]⟩
 ·exact⟨z3,by decide +kernel,by simp,by simp[b1N,b1V]⟩
 ·exact⟨z4,by decide +kernel,by simp,by simp[b1N,b1V]⟩
 ·exact⟨z5,by decide +kernel,by simp,by simp⟩
 ·exact⟨z6,by decide +kernel⟩
 ·exact⟨z7,rfl,_,rfl⟩
 ·exact⟨z8,rfl,_,rfl⟩
 ·exact⟨z9,rfl⟩
 ·exact⟨z10,rfl⟩
 ·exact⟨z11,rfl⟩
 ·exact⟨z12,rfl⟩
 ·exact⟨z13,by decide +kernel,by simp,by simp⟩
theorem BD:∀x fr,oth.lookup x≠some (.fn fr):=by
 intro x fr h;obtain⟨y,h1,rfl,h2⟩:=lu h;simp only[oth,aG,bx,or_false]at h1;rcases h1 with rfl|rfl|rfl|rfl|rfl|rfl|rfl|rfl|rfl|rfl|rfl|rfl|rfl|rfl|rfl|rfl|rfl|rfl|rfl|rfl|rfl|rfl|rfl|rfl|rfl|rfl|rfl|rfl|rfl|rfl|rfl|rfl<;>cases h2
theorem Bw:∀x,(oth.lookup x=some .exc\/oth.lookup x=some .exk)->([ao "PlaceError",ao "NoWeb",ao "NoPlaces",ao "NoPlace",ao "NoNumber",ao "NotAll",ao "NotUntied",ao "NoShares",ao "NotTree",ao "NotTold",ao "NoCrowds",ao "NoText",ao "NoLine",ao "NoDeed",ao "TooGreat"]:List Str).contains x=true:=by
 intro x h;rcases h with h|h<;>obtain⟨y,h1,rfl,h2⟩:=lu h<;>simp only[oth,aG,bx,or_false]at h1<;>rcases h1 with rfl|rfl|rfl|rfl|rfl|rfl|rfl|rfl|rfl|rfl|rfl|rfl|rfl|rfl|rfl|rfl|rfl|rfl|rfl|rfl|rfl|rfl|rfl|rfl|rfl|rfl|rfl|rfl|rfl|rfl|rfl|rfl<;>first|(cases h2;done)|decide +kernel
theorem DD{K:ax}{C0:Addr}(k0:av K ar "PlaceError" = some (some (.ref C0))){C1:Addr}(k1:av K ar "NoWeb" = some (some (.ref C1))){C2:Addr}(k2:av K ar "NoPlaces" = some (some (.ref C2))){C3:Addr}(k3:av K ar "NoPlace" = some (some (.ref C3))){C4:Addr}(k4:av K ar "NoNumber" = some (some (.ref C4))){C5:Addr}(k5:av K ar "NotAll" = some (some (.ref C5))){C6:Addr}(k6:av K ar "NotUntied" = some (some (.ref C6))){C7:Addr}(k7:av K ar "NoShares" = some (some (.ref C7))){C8:Addr}(k8:av K ar "NotTree" = some (some (.ref C8))){C9:Addr}(k9:av K ar "NotTold" = some (some (.ref C9))){C10:Addr}(k10:av K ar "NoCrowds" = some (some (.ref C10))){C11:Addr}(k11:av K ar "NoText" = some (some (.ref C11))){C12:Addr}(k12:av K ar "NoLine" = some (some (.ref C12))){C13:Addr}(k13:av K ar "NoDeed" = some (some (.ref C13))){C14:Addr}(k14:av K ar "TooGreat" = some (some (.ref C14)))(w0:cg K (.ref C11) (.ref C0)=some true):∀y∈cN,∃C D,av K ar y.1=some (some (.ref C))/\av K ar y.2=some (some (.ref D))/\cg K (.ref C) (.ref D)=some true:=by
 intro y h1;simp only[cN,aG,bx,or_false]at h1;rcases h1 with rfl
 ·exact⟨_,_,k11,k0,w0⟩
theorem uU{K:ax}{C0:Addr}(k0:av K ar "PlaceError" = some (some (.ref C0))){C1:Addr}(k1:av K ar "NoWeb" = some (some (.ref C1))){C2:Addr}(k2:av K ar "NoPlaces" = some (some (.ref C2))){C3:Addr}(k3:av K ar "NoPlace" = some (some (.ref C3))){C4:Addr}(k4:av K ar "NoNumber" = some (some (.ref C4))){C5:Addr}(k5:av K ar "NotAll" = some (some (.ref C5))){C6:Addr}(k6:av K ar "NotUntied" = some (some (.ref C6))){C7:Addr}(k7:av K ar "NoShares" = some (some (.ref C7))){C8:Addr}(k8:av K ar "NotTree" = some (some (.ref C8))){C9:Addr}(k9:av K ar "NotTold" = some (some (.ref C9))){C10:Addr}(k10:av K ar "NoCrowds" = some (some (.ref C10))){C11:Addr}(k11:av K ar "NoText" = some (some (.ref C11))){C12:Addr}(k12:av K ar "NoLine" = some (some (.ref C12))){C13:Addr}(k13:av K ar "NoDeed" = some (some (.ref C13))){C14:Addr}(k14:av K ar "TooGreat" = some (some (.ref C14)))(y0:dI K C11)(v0:aV K (.ref C11) (.type "ValueError")=some true)(t0:WB.Dk K "NoWeb" C1)(t1:WB.Dk K "NoPlaces" C2)(t2:WB.Dk K "NoPlace" C3)(t3:WB.Dk K "NoNumber" C4)(t4:WB.Dk K "NotUntied" C6)(t5:WB.Dk K "NoShares" C7)(t6:WB.Dk K "NotTree" C8)(t7:WB.Dk K "NotTold" C9)(t8:WB.Dk K "NoCrowds" C10)(t9:WB.Dk K "NoText" C11)(t10:WB.Dk K "NoLine" C12)(t11:WB.Dk K "NoDeed" C13)(t12:WB.Dk K "NotAll" C5)(t13:WB.Dk K "TooGreat" C14)(q0_0:aV K (.ref C11) (.ref C1)=some false)(n0_0:C11≠C1)(q0_1:aV K (.ref C11) (.ref C2)=some false)(n0_1:C11≠C2)(q0_2:aV K (.ref C11) (.ref C3)=some false)(n0_2:C11≠C3)(q0_3:aV K (.ref C11) (.ref C4)=some false)(n0_3:C11≠C4)(q0_4:aV K (.ref C11) (.ref C6)=some false)(n0_4:C11≠C6)(q0_5:aV K (.ref C11) (.ref C7)=some false)(n0_5:C11≠C7)(q0_6:aV K (.ref C11) (.ref C8)=some false)(n0_6:C11≠C8)(q0_7:aV K (.ref C11) (.ref C9)=some false)(n0_7:C11≠C9)(q0_8:aV K (.ref C11) (.ref C10)=some false)(n0_8:C11≠C10)(q0_10:aV K (.ref C11) (.ref C12)=some false)(n0_10:C11≠C12)(q0_11:aV K (.ref C11) (.ref C13)=some false)(n0_11:C11≠C13)(q0_12:aV K (.ref C11) (.ref C5)=some false)(n0_12:C11≠C5)(q0_13:aV K (.ref C11) (.ref C14)=some false)(n0_13:C11≠C14):∀y∈subs,oH K [ao "PlaceError",ao "NoWeb",ao "NoPlaces",ao "NoPlace",ao "NoNumber",ao "NotAll",ao "NotUntied",ao "NoShares",ao "NotTree",ao "NotTold",ao "NoCrowds",ao "NoText",ao "NoLine",ao "NoDeed",ao "TooGreat"] y:=by
 intro y h1;simp only[subs,aG,bx,or_false]at h1;rcases h1 with rfl|rfl|rfl|rfl|rfl|rfl|rfl|rfl|rfl|rfl|rfl|rfl|rfl|rfl|rfl
 ·exact⟨_,_,by decide +kernel,k11,y0,WB.xT v0,rfl,rfl⟩
 ·exact⟨_,_,by decide +kernel,k11,y0,t0.kit q0_0 n0_0,_,by decide +kernel,k1,rfl⟩
 ·exact⟨_,_,by decide +kernel,k11,y0,t1.kit q0_1 n0_1,_,by decide +kernel,k2,rfl⟩
 ·exact⟨_,_,by decide +kernel,k11,y0,t2.kit q0_2 n0_2,_,by decide +kernel,k3,rfl⟩
 ·exact⟨_,_,by decide +kernel,k11,y0,t3.kit q0_3 n0_3,_,by decide +kernel,k4,rfl⟩
 ·exact⟨_,_,by decide +kernel,k11,y0,t4.kit q0_4 n0_4,_,by decide +kernel,k6,rfl⟩
 ·exact⟨_,_,by decide +kernel,k11,y0,t5.kit q0_5 n0_5,_,by decide +kernel,k7,rfl⟩
 ·exact⟨_,_,by decide +kernel,k11,y0,t6.kit q0_6 n0_6,_,by decide +kernel,k8,rfl⟩
 ·exact⟨_,_,by decide +kernel,k11,y0,t7.kit q0_7 n0_7,_,by decide +kernel,k9,rfl⟩
 ·exact⟨_,_,by decide +kernel,k11,y0,t8.kit q0_8 n0_8,_,by decide +kernel,k10,rfl⟩
 ·exact⟨_,_,by decide +kernel,k11,y0,WB.vA,_,by decide +kernel,k11,rfl⟩
 ·exact⟨_,_,by decide +kernel,k11,y0,t10.kit q0_10 n0_10,_,by decide +kernel,k12,rfl⟩
 ·exact⟨_,_,by decide +kernel,k11,y0,t11.kit q0_11 n0_11,_,by decide +kernel,k13,rfl⟩
 ·exact⟨_,_,by decide +kernel,k11,y0,t12.kit q0_12 n0_12,_,by decide +kernel,k5,rfl⟩
 ·exact⟨_,_,by decide +kernel,k11,y0,t13.kit q0_13 n0_13,_,by decide +kernel,k14,rfl⟩
include d0 d1 d2 d3 d4 d5 d6 d7 d8 d9 d10 d11 d12 d13 d14 d15 d16 d17 d18 d19 d20 d21
theorem all_mk(X:K.In h)(N:h.Ns ar mg){C0:Addr}(k0:av K ar "PlaceError" = some (some (.ref C0))){C1:Addr}(k1:av K ar "NoWeb" = some (some (.ref C1))){C2:Addr}(k2:av K ar "NoPlaces" = some (some (.ref C2))){C3:Addr}(k3:av K ar "NoPlace" = some (some (.ref C3))){C4:Addr}(k4:av K ar "NoNumber" = some (some (.ref C4))){C5:Addr}(k5:av K ar "NotAll" = some (some (.ref C5))){C6:Addr}(k6:av K ar "NotUntied" = some (some (.ref C6))){C7:Addr}(k7:av K ar "NoShares" = some (some (.ref C7))){C8:Addr}(k8:av K ar "NotTree" = some (some (.ref C8))){C9:Addr}(k9:av K ar "NotTold" = some (some (.ref C9))){C10:Addr}(k10:av K ar "NoCrowds" = some (some (.ref C10))){C11:Addr}(k11:av K ar "NoText" = some (some (.ref C11)))(x11:PySem.W.excIn K C11 jk "ValueError.__new__" = true){C12:Addr}(k12:av K ar "NoLine" = some (some (.ref C12))){C13:Addr}(k13:av K ar "NoDeed" = some (some (.ref C13))){C14:Addr}(k14:av K ar "TooGreat" = some (some (.ref C14))){tk0:Tok}(u0:av K ar "MOST" = some (some (.int 8 tk0))){tk1:Tok}(u1:av K ar "FIGURES" = some (some (.str (ao "0123456789") tk1))){tk2:Tok}(u2:av K ar "MOST_FIGURES" = some (some (.int 31 tk2)))(z0:av K ar "len" = some none)(z1:av K ar "tuple" = some none)(z2:av K ar "list" = some none)(z3:av K ar "int" = some none)(z4:av K ar "bool" = some none)(z5:av K ar "str" = some none)(z6:av K ar "set" = some none)(z7:av K ar "sorted" = some none)(z8:av K ar "all" = some none)(z9:av K ar "range" = some none)(z10:av K ar "enumerate" = some none)(z11:av K ar "zip" = some none)(z12:av K ar "isinstance" = some none)(z13:av K ar "ValueError" = some none)(w0:cg K (.ref C11) (.ref C0)=some true)(y0:dI K C11)(v0:aV K (.ref C11) (.type "ValueError")=some true)(t0:WB.Dk K "NoWeb" C1)(t1:WB.Dk K "NoPlaces" C2)(t2:WB.Dk K "NoPlace" C3)(t3:WB.Dk K "NoNumber" C4)(t4:WB.Dk K "NotUntied" C6)(t5:WB.Dk K "NoShares" C7)(t6:WB.Dk K "NotTree" C8)(t7:WB.Dk K "NotTold" C9)(t8:WB.Dk K "NoCrowds" C10)(t9:WB.Dk K "NoText" C11)(t10:WB.Dk K "NoLine" C12)(t11:WB.Dk K "NoDeed" C13)(t12:WB.Dk K "NotAll" C5)(t13:WB.Dk K "TooGreat" C14)(q0_0:aV K (.ref C11) (.ref C1)=some false)(n0_0:C11≠C1)(q0_1:aV K (.ref C11) (.ref C2)=some false)(n0_1:C11≠C2)(q0_2:aV K (.ref C11) (.ref C3)=some false)(n0_2:C11≠C3)(q0_3:aV K (.ref C11) (.ref C4)=some false)(n0_3:C11≠C4)(q0_4:aV K (.ref C11) (.ref C6)=some false)(n0_4:C11≠C6)(q0_5:aV K (.ref C11) (.ref C7)=some false)(n0_5:C11≠C7)(q0_6:aV K (.ref C11) (.ref C8)=some false)(n0_6:C11≠C8)(q0_7:aV K (.ref C11) (.ref C9)=some false)(n0_7:C11≠C9)(q0_8:aV K (.ref C11) (.ref C10)=some false)(n0_8:C11≠C10)(q0_10:aV K (.ref C11) (.ref C12)=some false)(n0_10:C11≠C12)(q0_11:aV K (.ref C11) (.ref C13)=some false)(n0_11:C11≠C13)(q0_12:aV K (.ref C11) (.ref C5)=some false)(n0_12:C11≠C5)(q0_13:aV K (.ref C11) (.ref C14)=some false)(n0_13:C11≠C14):Ground p (gOf K (tab.map (·.x)) [ao "PlaceError",ao "NoWeb",ao "NoPlaces",ao "NoPlace",ao "NoNumber",ao "NotAll",ao "NotUntied",ao "NoShares",ao "NotTree",ao "NotTold",ao "NoCrowds",ao "NoText",ao "NoLine",ao "NoDeed",ao "TooGreat"]) G (fT us oth) (fB oth) mg/\iO K G gG:=
 have A:=Cu d0 d1 d2 d3 d4 d5 d6 d7 d8 d9 d10 d11 d12 d13 d14 d15 d16 d17 d18 d19 d20 d21
 ⟨Ah X N rfl nd (ET k0 k1 k2 k3 k4 k5 k6 k7 k8 k9 k10 k11 x11 k12 k13 k14 u0 u1 u2 z0 z1 z2 z3 z4 z5 z6 z7 z8 z9 z10 z11 z12 z13) BD Fj vT nW A _ (DD k0 k1 k2 k3 k4 k5 k6 k7 k8 k9 k10 k11 k12 k13 k14 w0) Bw (uU k0 k1 k2 k3 k4 k5 k6 k7 k8 k9 k10 k11 k12 k13 k14 y0 v0 t0 t1 t2 t3 t4 t5 t6 t7 t8 t9 t10 t11 t12 t13 q0_0 n0_0 q0_1 n0_1 q0_2 n0_2 q0_3 n0_3 q0_4 n0_4 q0_5 n0_5 q0_6 n0_6 q0_7 n0_7 q0_8 n0_8 q0_10 n0_10 q0_11 n0_11 q0_12 n0_12 q0_13 n0_13),A gG (by simp[tab])⟩
end
theorem walk{l:PySem.W.OpenLaw}{q:aB}{loose:List Str}{XP:(Str->Option ae)->Heap->Prop}{YP:aw->Heap->Prop}{d:DefRec}{K:Params->ax}(hn:l.most=some 63)(hdf:d.params.defaults=[])(hd:d.name = "law")(hY:∀(w:aw) (h:Heap),YP w h->(K w.params).In h)
  (hG:∀(w:aw) (mg:Str->Option ae) (h:Heap),(K w.params).In h->h.Ns ar mg->Ground p (gOf (K w.params) (tab.map (·.x)) [ao "PlaceError",ao "NoWeb",ao "NoPlaces",ao "NoPlace",ao "NoNumber",ao "NotAll",ao "NotUntied",ao "NoShares",ao "NotTree",ao "NotTold",ao "NoCrowds",ao "NoText",ao "NoLine",ao "NoDeed",ao "TooGreat"]) G (fT us oth) (fB oth) mg/\iO (K w.params) G gG):PySem.W.WalkO q loose XP YP l.row.toRowW d [] (λf vs=>PySem.call f vs):=
 vD (e:=gG) (k:=depth) hn hdf hd ⟨rfl,by decide,by decide⟩ hY (by simp[tab]) nd rfl rfl (by kernel_rfl) hG (nW gG (by simp[tab])) u7
end K91
end
open PySem PySem.W PyProof.Rows
namespace PySem.W.Fast
def tw6864579158998048983:Nat:=0
theorem te6864579158998048983:tw6864579158998048983=0:=rfl
def tw1200161682867984233:Nat:=0
theorem te1200161682867984233:tw1200161682867984233=0:=rfl
def tw4525042823616757511:Nat:=0
theorem te4525042823616757511:tw4525042823616757511=0:=rfl
def tw9700414832427705713:Nat:=0
theorem te9700414832427705713:tw9700414832427705713=0:=rfl
def tw9970781360054225131:Nat:=0
theorem te9970781360054225131:tw9970781360054225131=0:=rfl
def tw12466551527843516017:Nat:=0
theorem te12466551527843516017:tw12466551527843516017=0:=rfl
def tw10829586890415891528:Nat:=0
theorem te10829586890415891528:tw10829586890415891528=0:=rfl
def tw17203433198283127031:Nat:=0
theorem te17203433198283127031:tw17203433198283127031=0:=rfl
def tw14830457781884454676:Nat:=0
theorem te14830457781884454676:tw14830457781884454676=0:=rfl
def tw17237687428453041191:Nat:=0
theorem te17237687428453041191:tw17237687428453041191=0:=rfl
def tw14471852957490503362:Nat:=0
theorem te14471852957490503362:tw14471852957490503362=0:=rfl
def tw5795637159396776946:Nat:=0
theorem te5795637159396776946:tw5795637159396776946=0:=rfl
def tw2734215846521470626:Nat:=0
theorem te2734215846521470626:tw2734215846521470626=0:=rfl
def tw11699190426085796177:Nat:=0
theorem te11699190426085796177:tw11699190426085796177=0:=rfl
def tw12659878886403960235:Nat:=0
theorem te12659878886403960235:tw12659878886403960235=0:=rfl
def tw9440112242943674207:Nat:=0
theorem te9440112242943674207:tw9440112242943674207=0:=rfl
def tw10912200771975635797:Nat:=0
theorem te10912200771975635797:tw10912200771975635797=0:=rfl
def tw9714607870155172791:Nat:=0
theorem te9714607870155172791:tw9714607870155172791=0:=rfl
def tw6987072332579301094:Nat:=0
theorem te6987072332579301094:tw6987072332579301094=0:=rfl
def tw16037048897894646591:Nat:=0
theorem te16037048897894646591:tw16037048897894646591=0:=rfl
def tw9617866179878198167:Nat:=0
theorem te9617866179878198167:tw9617866179878198167=0:=rfl
def tw3018386654494653771:Nat:=0
theorem te3018386654494653771:tw3018386654494653771=0:=rfl
def tw11906165528734785632:Nat:=0
theorem te11906165528734785632:tw11906165528734785632=0:=rfl
def tw3323855483998601311:Nat:=0
theorem te3323855483998601311:tw3323855483998601311=0:=rfl
def tw6222448940478265128:Nat:=0
theorem te6222448940478265128:tw6222448940478265128=0:=rfl
def tw14384481033200100380:Nat:=0
theorem te14384481033200100380:tw14384481033200100380=0:=rfl
def tw17155693834324896246:Nat:=0
theorem te17155693834324896246:tw17155693834324896246=0:=rfl
def tw3730419455076042629:Nat:=0
theorem te3730419455076042629:tw3730419455076042629=0:=rfl
def tw17680844220768946569:Nat:=0
theorem te17680844220768946569:tw17680844220768946569=0:=rfl
def tw11453781619980247151:Nat:=0
theorem te11453781619980247151:tw11453781619980247151=0:=rfl
def tw15211231516958750772:Nat:=0
theorem te15211231516958750772:tw15211231516958750772=0:=rfl
def tw16737915666035672367:Nat:=0
theorem te16737915666035672367:tw16737915666035672367=0:=rfl
def tw102389311731668695:Nat:=0
theorem te102389311731668695:tw102389311731668695=0:=rfl
def tw11276003751457109348:Nat:=0
theorem te11276003751457109348:tw11276003751457109348=0:=rfl
def tw8847222397204907564:Nat:=0
theorem te8847222397204907564:tw8847222397204907564=0:=rfl
def tw4159714096365997547:Nat:=0
theorem te4159714096365997547:tw4159714096365997547=0:=rfl
def tw10981147166787432430:Nat:=0
theorem te10981147166787432430:tw10981147166787432430=0:=rfl
def tw13059898382307527780:Nat:=0
theorem te13059898382307527780:tw13059898382307527780=0:=rfl
def tw6587518056028273881:Nat:=0
theorem te6587518056028273881:tw6587518056028273881=0:=rfl
def tw11959569064885073751:Nat:=0
theorem te11959569064885073751:tw11959569064885073751=0:=rfl
def tw13093002873338066098:Nat:=0
theorem te13093002873338066098:tw13093002873338066098=0:=rfl
def tw14419548692101022788:Nat:=0
theorem te14419548692101022788:tw14419548692101022788=0:=rfl
def tw5496223021204059570:Nat:=0
theorem te5496223021204059570:tw5496223021204059570=0:=rfl
def tw4550779461453663123:Nat:=0
theorem te4550779461453663123:tw4550779461453663123=0:=rfl
def tw11050567288703169354:Nat:=0
theorem te11050567288703169354:tw11050567288703169354=0:=rfl
def tw8429733101433098869:Nat:=0
theorem te8429733101433098869:tw8429733101433098869=0:=rfl
def tw14941191037610528379:Nat:=0
theorem te14941191037610528379:tw14941191037610528379=0:=rfl
def tw8396211649434756637:Nat:=0
theorem te8396211649434756637:tw8396211649434756637=0:=rfl
def tw3618679960700202372:Nat:=0
theorem te3618679960700202372:tw3618679960700202372=0:=rfl
def tw12654608782603624972:Nat:=0
theorem te12654608782603624972:tw12654608782603624972=0:=rfl
def tw2124668941291476209:Nat:=0
theorem te2124668941291476209:tw2124668941291476209=0:=rfl
def tw675395725634429020:Nat:=0
theorem te675395725634429020:tw675395725634429020=0:=rfl
def tw16564657209596956523:Nat:=0
theorem te16564657209596956523:tw16564657209596956523=0:=rfl
def tw8145251204226274609:Nat:=0
theorem te8145251204226274609:tw8145251204226274609=0:=rfl
def tw8453284293648450320:Nat:=0
theorem te8453284293648450320:tw8453284293648450320=0:=rfl
def tw15366702032186125214:Nat:=0
theorem te15366702032186125214:tw15366702032186125214=0:=rfl
def tw2118477839709042381:Nat:=0
theorem te2118477839709042381:tw2118477839709042381=0:=rfl
def tw16392343261855060680:Nat:=0
theorem te16392343261855060680:tw16392343261855060680=0:=rfl
def tw5410542701289426924:Nat:=0
theorem te5410542701289426924:tw5410542701289426924=0:=rfl
def tw6415309855773990945:Nat:=0
theorem te6415309855773990945:tw6415309855773990945=0:=rfl
def tw13658745048693596291:Nat:=0
theorem te13658745048693596291:tw13658745048693596291=0:=rfl
def tw6395163681642113942:Nat:=0
theorem te6395163681642113942:tw6395163681642113942=0:=rfl
def tw15902819303323584299:Nat:=0
theorem te15902819303323584299:tw15902819303323584299=0:=rfl
def tw1899695800099044277:Nat:=0
theorem te1899695800099044277:tw1899695800099044277=0:=rfl
def tw12660563073887639980:Nat:=0
theorem te12660563073887639980:tw12660563073887639980=0:=rfl
def tw1649637357442585750:Nat:=0
theorem te1649637357442585750:tw1649637357442585750=0:=rfl
def tw9236753612471154079:Nat:=0
theorem te9236753612471154079:tw9236753612471154079=0:=rfl
def tw13247933611024312085:Nat:=0
theorem te13247933611024312085:tw13247933611024312085=0:=rfl
def tw6298323815860638487:Nat:=0
theorem te6298323815860638487:tw6298323815860638487=0:=rfl
def tw8205790847808232836:Nat:=0
theorem te8205790847808232836:tw8205790847808232836=0:=rfl
def tw16741472984965590890:Nat:=0
theorem te16741472984965590890:tw16741472984965590890=0:=rfl
def tw13235470163589747482:Nat:=0
theorem te13235470163589747482:tw13235470163589747482=0:=rfl
def tw294693138295283014:Nat:=0
theorem te294693138295283014:tw294693138295283014=0:=rfl
def tw17533089306297108230:Nat:=0
theorem te17533089306297108230:tw17533089306297108230=0:=rfl
def tw6586782102501900854:Nat:=0
theorem te6586782102501900854:tw6586782102501900854=0:=rfl
def tw9407085530477083413:Nat:=0
theorem te9407085530477083413:tw9407085530477083413=0:=rfl
def tw1184663866791742713:Nat:=0
theorem te1184663866791742713:tw1184663866791742713=0:=rfl
def tw8104920831958468967:Nat:=0
theorem te8104920831958468967:tw8104920831958468967=0:=rfl
def tw2211360645889245806:Nat:=0
theorem te2211360645889245806:tw2211360645889245806=0:=rfl
def tw7705314511151602328:Nat:=0
theorem te7705314511151602328:tw7705314511151602328=0:=rfl
def tw2950922625864490207:Nat:=0
theorem te2950922625864490207:tw2950922625864490207=0:=rfl
def tw7833669396116296620:Nat:=0
theorem te7833669396116296620:tw7833669396116296620=0:=rfl
def tw16450767126991567749:Nat:=0
theorem te16450767126991567749:tw16450767126991567749=0:=rfl
def tw15408671244373869827:Nat:=0
theorem te15408671244373869827:tw15408671244373869827=0:=rfl
def tw1658641140595995337:Nat:=0
theorem te1658641140595995337:tw1658641140595995337=0:=rfl
def tw10767200048814482395:Nat:=0
theorem te10767200048814482395:tw10767200048814482395=0:=rfl
def tw3054678357836758642:Nat:=0
theorem te3054678357836758642:tw3054678357836758642=0:=rfl
def tw4452593595036446729:Nat:=0
theorem te4452593595036446729:tw4452593595036446729=0:=rfl
def tw5164844546853295711:Nat:=0
theorem te5164844546853295711:tw5164844546853295711=0:=rfl
def tw12796105961945829454:Nat:=0
theorem te12796105961945829454:tw12796105961945829454=0:=rfl
def tw2343382871579300115:Nat:=0
theorem te2343382871579300115:tw2343382871579300115=0:=rfl
def tw15986465210385256806:Nat:=0
theorem te15986465210385256806:tw15986465210385256806=0:=rfl
def tw11348073927155793662:Nat:=0
theorem te11348073927155793662:tw11348073927155793662=0:=rfl
def tw14931775523497305342:Nat:=0
theorem te14931775523497305342:tw14931775523497305342=0:=rfl
def tw15108771665897738190:Nat:=0
theorem te15108771665897738190:tw15108771665897738190=0:=rfl
def tw7253118830105770479:Nat:=0
theorem te7253118830105770479:tw7253118830105770479=0:=rfl
def tw12980804126673400683:Nat:=0
theorem te12980804126673400683:tw12980804126673400683=0:=rfl
def tw7345532773026743285:Nat:=0
theorem te7345532773026743285:tw7345532773026743285=0:=rfl
def tw4166539407948082176:Nat:=0
theorem te4166539407948082176:tw4166539407948082176=0:=rfl
def tw4371286479865585099:Nat:=0
theorem te4371286479865585099:tw4371286479865585099=0:=rfl
def tw15896669412482697006:Nat:=0
theorem te15896669412482697006:tw15896669412482697006=0:=rfl
def tw16648036943240798214:Nat:=0
theorem te16648036943240798214:tw16648036943240798214=0:=rfl
def tw7914571810055465290:Nat:=0
theorem te7914571810055465290:tw7914571810055465290=0:=rfl
def tw7089882866548100450:Nat:=0
theorem te7089882866548100450:tw7089882866548100450=0:=rfl
def tw4110834849972480034:Nat:=0
theorem te4110834849972480034:tw4110834849972480034=0:=rfl
def tw7196288825657749580:Nat:=0
theorem te7196288825657749580:tw7196288825657749580=0:=rfl
def tw3437481801704895534:Nat:=0
theorem te3437481801704895534:tw3437481801704895534=0:=rfl
def tw7012725321943046813:Nat:=0
theorem te7012725321943046813:tw7012725321943046813=0:=rfl
def tw2651804052700636406:Nat:=0
theorem te2651804052700636406:tw2651804052700636406=0:=rfl
def tw17073857742613827951:Nat:=0
theorem te17073857742613827951:tw17073857742613827951=0:=rfl
def tw15620351057475176178:Nat:=0
theorem te15620351057475176178:tw15620351057475176178=0:=rfl
def tw14346941842461707793:Nat:=0
theorem te14346941842461707793:tw14346941842461707793=0:=rfl
def tw13659200494103453949:Nat:=0
theorem te13659200494103453949:tw13659200494103453949=0:=rfl
def tw17227719320543257457:Nat:=0
theorem te17227719320543257457:tw17227719320543257457=0:=rfl
def tw10662587196657472798:Nat:=0
theorem te10662587196657472798:tw10662587196657472798=0:=rfl
def tw14711439915620008673:Nat:=0
theorem te14711439915620008673:tw14711439915620008673=0:=rfl
def tw1135646137040362843:Nat:=0
theorem te1135646137040362843:tw1135646137040362843=0:=rfl
def tw16358632260641842908:Nat:=0
theorem te16358632260641842908:tw16358632260641842908=0:=rfl
def tw12392128725546067752:Nat:=0
theorem te12392128725546067752:tw12392128725546067752=0:=rfl
def tw4035178673836076719:Nat:=0
theorem te4035178673836076719:tw4035178673836076719=0:=rfl
def tw3318195499538350717:Nat:=0
theorem te3318195499538350717:tw3318195499538350717=0:=rfl
def tw17475988076129481946:Nat:=0
theorem te17475988076129481946:tw17475988076129481946=0:=rfl
def tw14591141916853889538:Nat:=0
theorem te14591141916853889538:tw14591141916853889538=0:=rfl
def tw3772717690203134718:Nat:=0
theorem te3772717690203134718:tw3772717690203134718=0:=rfl
def tw1852832901342697032:Nat:=0
theorem te1852832901342697032:tw1852832901342697032=0:=rfl
def tw810285784390261457:Nat:=0
theorem te810285784390261457:tw810285784390261457=0:=rfl
def tw17242984105781312382:Nat:=0
theorem te17242984105781312382:tw17242984105781312382=0:=rfl
def tw7923040741651848713:Nat:=0
theorem te7923040741651848713:tw7923040741651848713=0:=rfl
def tw13943916878227565927:Nat:=0
theorem te13943916878227565927:tw13943916878227565927=0:=rfl
def tw16304198836358066555:Nat:=0
theorem te16304198836358066555:tw16304198836358066555=0:=rfl
def tw17985311117018538900:Nat:=0
theorem te17985311117018538900:tw17985311117018538900=0:=rfl
def tw1697287595833943598:Nat:=0
theorem te1697287595833943598:tw1697287595833943598=0:=rfl
def tw16399525217784081538:Nat:=0
theorem te16399525217784081538:tw16399525217784081538=0:=rfl
def tw6429941335386019431:Nat:=0
theorem te6429941335386019431:tw6429941335386019431=0:=rfl
def tw9277782765369792025:Nat:=0
theorem te9277782765369792025:tw9277782765369792025=0:=rfl
def tw535844210694052293:Nat:=0
theorem te535844210694052293:tw535844210694052293=0:=rfl
def tw12298361089279997914:Nat:=0
theorem te12298361089279997914:tw12298361089279997914=0:=rfl
def tw15926195882373870569:Nat:=0
theorem te15926195882373870569:tw15926195882373870569=0:=rfl
def tw18102158288172434331:Nat:=0
theorem te18102158288172434331:tw18102158288172434331=0:=rfl
def tw17366000625110603685:Nat:=0
theorem te17366000625110603685:tw17366000625110603685=0:=rfl
def tw4285432579149650153:Nat:=0
theorem te4285432579149650153:tw4285432579149650153=0:=rfl
def tw4084932594207914426:Nat:=0
theorem te4084932594207914426:tw4084932594207914426=0:=rfl
def tw6774453330183655422:Nat:=0
theorem te6774453330183655422:tw6774453330183655422=0:=rfl
def tw10115024910410390311:Nat:=0
theorem te10115024910410390311:tw10115024910410390311=0:=rfl
def tw3150792214518977675:Nat:=0
theorem te3150792214518977675:tw3150792214518977675=0:=rfl
def tw9453005616137843036:Nat:=0
theorem te9453005616137843036:tw9453005616137843036=0:=rfl
def tw436281882530554161:Nat:=0
theorem te436281882530554161:tw436281882530554161=0:=rfl
def tw5569615011449422025:Nat:=0
theorem te5569615011449422025:tw5569615011449422025=0:=rfl
def tw16359048014541062448:Nat:=0
theorem te16359048014541062448:tw16359048014541062448=0:=rfl
def tw11924227595790481830:Nat:=0
theorem te11924227595790481830:tw11924227595790481830=0:=rfl
def tw9096124760616661894:Nat:=0
theorem te9096124760616661894:tw9096124760616661894=0:=rfl
def tw9364381149048304958:Nat:=0
theorem te9364381149048304958:tw9364381149048304958=0:=rfl
def tw16691819717564851438:Nat:=0
theorem te16691819717564851438:tw16691819717564851438=0:=rfl
def tw4049751383930301889:Nat:=0
theorem te4049751383930301889:tw4049751383930301889=0:=rfl
def tw15683492956074573663:Nat:=0
theorem te15683492956074573663:tw15683492956074573663=0:=rfl
def tw1753946326885753385:Nat:=0
theorem te1753946326885753385:tw1753946326885753385=0:=rfl
def tw6301927228144931749:Nat:=0
theorem te6301927228144931749:tw6301927228144931749=0:=rfl
def tw7578472392748330294:Nat:=0
theorem te7578472392748330294:tw7578472392748330294=0:=rfl
def tw3770417433952104171:Nat:=0
theorem te3770417433952104171:tw3770417433952104171=0:=rfl
def tw31970118559332300:Nat:=0
theorem te31970118559332300:tw31970118559332300=0:=rfl
def tw7019501576966857616:Nat:=0
theorem te7019501576966857616:tw7019501576966857616=0:=rfl
def tw453990489137610225:Nat:=0
theorem te453990489137610225:tw453990489137610225=0:=rfl
def tw306031552178277233:Nat:=0
theorem te306031552178277233:tw306031552178277233=0:=rfl
def tw8190208617826837741:Nat:=0
theorem te8190208617826837741:tw8190208617826837741=0:=rfl
def tw5072491602027330688:Nat:=0
theorem te5072491602027330688:tw5072491602027330688=0:=rfl
def tw15899845623969771920:Nat:=0
theorem te15899845623969771920:tw15899845623969771920=0:=rfl
def tw15424918765298672887:Nat:=0
theorem te15424918765298672887:tw15424918765298672887=0:=rfl
def tw12502360145105055055:Nat:=0
theorem te12502360145105055055:tw12502360145105055055=0:=rfl
def tw16414255323066080309:Nat:=0
theorem te16414255323066080309:tw16414255323066080309=0:=rfl
def tw12401845026062331635:Nat:=0
theorem te12401845026062331635:tw12401845026062331635=0:=rfl
def tw7944225133055377222:Nat:=0
theorem te7944225133055377222:tw7944225133055377222=0:=rfl
def tw1304005780908955264:Nat:=0
theorem te1304005780908955264:tw1304005780908955264=0:=rfl
def tw2803976897892413873:Nat:=0
theorem te2803976897892413873:tw2803976897892413873=0:=rfl
def tw8224960055384385384:Nat:=0
theorem te8224960055384385384:tw8224960055384385384=0:=rfl
def tw13165697989873506177:Nat:=0
theorem te13165697989873506177:tw13165697989873506177=0:=rfl
def tw11410114401595312999:Nat:=0
theorem te11410114401595312999:tw11410114401595312999=0:=rfl
def tw15966309842691848410:Nat:=0
theorem te15966309842691848410:tw15966309842691848410=0:=rfl
def tw14593763927232176644:Nat:=0
theorem te14593763927232176644:tw14593763927232176644=0:=rfl
def tw5466254353557370488:Nat:=0
theorem te5466254353557370488:tw5466254353557370488=0:=rfl
def tw12631540234688688934:Nat:=0
theorem te12631540234688688934:tw12631540234688688934=0:=rfl
def tw15495535633757242567:Nat:=0
theorem te15495535633757242567:tw15495535633757242567=0:=rfl
def tw2921435947592876557:Nat:=0
theorem te2921435947592876557:tw2921435947592876557=0:=rfl
def tw9983638151633290086:Nat:=0
theorem te9983638151633290086:tw9983638151633290086=0:=rfl
def tw2481709277937900224:Nat:=0
theorem te2481709277937900224:tw2481709277937900224=0:=rfl
def tw15616360947336220907:Nat:=0
theorem te15616360947336220907:tw15616360947336220907=0:=rfl
def tw9403846962206017128:Nat:=0
theorem te9403846962206017128:tw9403846962206017128=0:=rfl
def tw1384359632129987450:Nat:=0
theorem te1384359632129987450:tw1384359632129987450=0:=rfl
def tw4724106740474030866:Nat:=0
theorem te4724106740474030866:tw4724106740474030866=0:=rfl
def tw10003678382321593374:Nat:=0
theorem te10003678382321593374:tw10003678382321593374=0:=rfl
def tw13521879198035178075:Nat:=0
theorem te13521879198035178075:tw13521879198035178075=0:=rfl
def tw6013164061564959979:Nat:=0
theorem te6013164061564959979:tw6013164061564959979=0:=rfl
def tw4052436540104930092:Nat:=0
theorem te4052436540104930092:tw4052436540104930092=0:=rfl
def tw1243075181650474703:Nat:=0
theorem te1243075181650474703:tw1243075181650474703=0:=rfl
def tw5645758405096522723:Nat:=0
theorem te5645758405096522723:tw5645758405096522723=0:=rfl
def tw1568247599886278207:Nat:=0
theorem te1568247599886278207:tw1568247599886278207=0:=rfl
def tw17331758976109337472:Nat:=0
theorem te17331758976109337472:tw17331758976109337472=0:=rfl
def tw7586385707662813981:Nat:=0
theorem te7586385707662813981:tw7586385707662813981=0:=rfl
def tw2607095515171446510:Nat:=0
theorem te2607095515171446510:tw2607095515171446510=0:=rfl
end PySem.W.Fast
set_option maxRecDepth 100000 in
set_option maxHeartbeats 0 in
theorem PySem.Challenge.cw_holdplaces_k91_webs_read_holds : PySem.Challenge.rw_holdplaces_k91_webs_read.Holds := by
 w_on;o_law;k_head;(case hw=>w_witness2)
 k_fill
 refine K91.walk (l:=PySem.Challenge.rw_holdplaces_k91_webs_read) rfl rfl rfl (λw h Y=>PySem.W.kIn_of Y) ?F
 case F=>
  intro w mg h KX N
  refine' K91.all_mk (WB.zO ?_ ?_ ?_ ?_) (WB.zO ?_ ?_ ?_ ?_) (WB.zO ?_ ?_ ?_ ?_) (WB.zO ?_ ?_ ?_ ?_) (WB.zO ?_ ?_ ?_ ?_) (WB.zO ?_ ?_ ?_ ?_) (WB.zO ?_ ?_ ?_ ?_) (WB.zO ?_ ?_ ?_ ?_) (WB.zO ?_ ?_ ?_ ?_) (WB.zO ?_ ?_ ?_ ?_) (WB.zO ?_ ?_ ?_ ?_) (WB.zO ?_ ?_ ?_ ?_) (WB.zO ?_ ?_ ?_ ?_) (WB.zO ?_ ?_ ?_ ?_) (WB.zO ?_ ?_ ?_ ?_) (WB.zO ?_ ?_ ?_ ?_) (WB.zO ?_ ?_ ?_ ?_) (WB.zO ?_ ?_ ?_ ?_) (WB.zO ?_ ?_ ?_ ?_) (WB.zO ?_ ?_ ?_ ?_) (WB.zO ?_ ?_ ?_ ?_) (WB.zO ?_ ?_ ?_ ?_) KX N ?_ ?_ ?_ ?_ ?_ ?_ ?_ ?_ ?_ ?_ ?_ ?_ ?_ ?_ ?_ ?_ ?_ ?_ ?_ ?_ ?_ ?_ ?_ ?_ ?_ ?_ ?_ ?_ ?_ ?_ ?_ ?_ ?_ (WB.A0 ?w0_1 ?w0_2 ?w0_3 ?w0_4) (WB.uV ?s0_1 ?s0_2 ?s0_3 ?s0_4 ?s0_5 ?s0_6) ?v0 (WB.dG ?t0_1 ?t0_2 ?t0_3) (WB.dG ?t1_1 ?t1_2 ?t1_3) (WB.dG ?t2_1 ?t2_2 ?t2_3) (WB.dG ?t3_1 ?t3_2 ?t3_3) (WB.dG ?t4_1 ?t4_2 ?t4_3) (WB.dG ?t5_1 ?t5_2 ?t5_3) (WB.dG ?t6_1 ?t6_2 ?t6_3) (WB.dG ?t7_1 ?t7_2 ?t7_3) (WB.dG ?t8_1 ?t8_2 ?t8_3) (WB.dG ?t9_1 ?t9_2 ?t9_3) (WB.dG ?t10_1 ?t10_2 ?t10_3) (WB.dG ?t11_1 ?t11_2 ?t11_3) (WB.dG ?t12_1 ?t12_2 ?t12_3) (WB.dG ?t13_1 ?t13_2 ?t13_3) ?q0_0 ?n0_0 ?q0_1 ?n0_1 ?q0_2 ?n0_2 ?q0_3 ?n0_3 ?q0_4 ?n0_4 ?q0_5 ?n0_5 ?q0_6 ?n0_6 ?q0_7 ?n0_7 ?q0_8 ?n0_8 ?q0_10 ?n0_10 ?q0_11 ?n0_11 ?q0_12 ?n0_12 ?q0_13 ?n0_13
  any_goals k_is
  any_goals k_exc
  any_goals decide
#print axioms PySem.Challenge.cw_holdplaces_k91_webs_read_holds
