import PyProof.Rows.All
import Wide.All
import OpenK.AllK
import Wide.FinOn
import Lean
import PyProof.EqAt
import PyProof.EqKinds
import PyProof.TupleCall
import PyProof.Rows.Range3
import PyProof.Rows.FStr
import PyProof.MeetsStr
import PyProof.FitsReplace
import PyProof.MeetsStr2
import KE.KIntText
import PyProof.StrWalks
import PyProof.SliceStr2
import PyProof.PureStr
import PyProof.SliceList
import PyProof.Rows.ListMulArg
import KE.KSortTup
import KE.LcSums
import PyProof.SeqI3
import KE.KMinBuiltin
import PyProof.ListRange
import PyProof.TupleOfSeq
import PyProof.StrLawsTight
import PyProof.StrLawsIn
import PyProof.Rows.StrCut
import KE.IntTextLaws
import PySem.Challenge.RW_holdplaces_k92_places_read
set_option Elab.async false
set_option bootstrap.genMatcherCode false
set_option maxHeartbeats 8000000
set_option maxRecDepth 100000
set_option linter.all false
noncomputable section
open PyProof.Rows renaming slot_tuple_getitem→dI,callWith_type1→eJ,IntsAre→a9,Keyed→aC
open PySem.Builtin.SmallTypes renaming nextOf→cm
open PySem.Builtin.Slice renaming slicePlaces→cM,sliceAdjust→dJ
open PySem.Builtin.Tuple renaming tupleExact→bY
open Option renaming bind_eq_some_iff→aD,map_eq_some_iff→a_,bind_eq_bind→aE
open List renaming mem_append_right→bT,take_append_drop→dM,mem_cons_of_mem→aJ,mem_cons_self→aK,size_toArray→aL,lookup_cons→ba,not_mem_nil→bh,length_cons→bU,all_eq_true→b7,getElem_mem→cN,getElem_map→du,length_take→dv,length_map→aV,replicate→bF,mem_cons→aG,map_cons→a7,mem_map→aQ,map_map→bM,range→aR
open PySem.Around renaming under_plainId→dk
open Array renaming length_toList→bZ
open PySem renaming mem_of_lookup→b5,wpAny_newObj_type→bt,wpAny_truthy_bool→bB,wpAny_call_entry→bK,codeAny_builtin→b8,wpAny_holding→bV,Comprehension→b_,bootBuiltins→bz,codeAny_mono→cb,mainGlobals→ao,sizeLine_eq→bp,wpAny_field→bq,wpAny_bind→ag,wpAny_pure→ar,wpAny_mono→bI,compareOp→aW,cellsFrom→aY,sizeLine→aI,NameKind→aM,SetTable→aN,starEach→aP,FuncData→bw,Program→ay,Shared→af,Around→ax,Value→ae,wpAny→aj,model→ak,World→au,Scope→aO
open PySem.W renaming hideAll_get→dq,mg_none_of→dr,kia_one→bC,kitOne→bc,exmOne→bG,keepIn→b9,subIn→aB,nsIn→aq,Frag→av,fnOf→bN
open Nat renaming lt_of_lt_of_le→a8,lt_succ_of_lt→dt,le_of_not_lt→dw,lt_irrefl→bx,ne_of_lt→aU,le_trans→aX,le_refl→az,zero_le→bH
open Bool renaming false_eq_true→bg,false_ne_true→b6,not_eq_true'→br,and_eq_true→aH,or_eq_true→bE
open Option.some renaming injEq→bJ,inj→bD
open ForInStep renaming yield→cP
open PySem.Heap renaming size_push→bj,lt_size→aF
open PySem.NameKind renaming free→bL
open PySem.Str renaming ofString→ah
open False renaming elim→aS
open PySem.Value renaming bool→bu,none→bA,ref→bf
open And renaming intro→aw
set_option Elab.async false
namespace L2
open PySem PySem.Spec PyProof.Rows
abbrev Key:=Sum Int Str
noncomputable def oa:Key->ae->Bool
 | .inl k,v=>ae.isInt k v
 | .inr x,v=>ae.isStrOf x v
noncomputable def DI(w:au):Key->Int
 | .inl k=>hashInt k
 | .inr x=>hashStr w x
theorem zN:∀{k:Key}{v:ae},oa k v=true->(∃i t,k=Sum.inl i/\v=ae.int i t)\/(∃x t,k=Sum.inr x/\v=ae.str x t)
 | .inl i,v,h=>by
  obtain⟨t,e⟩:=ae.isInt_shape (k:=i) (v:=v) h;exact .inl ⟨i,t,rfl,e⟩
 | .inr x,v,h=>by
  obtain⟨t,e⟩:=ae.isStrOf_shape (x:=x) (v:=v) h;exact .inr ⟨x,t,rfl,e⟩
theorem DN(a b:Int):decide ((Sum.inl a:Key)=Sum.inl b)=(a==b):=by
 by_cases e:a=b
 ·subst e;simp
 ·have h:¬ (Sum.inl a:Key)=Sum.inl b:=λq=>e (Sum.inl.inj q)
  rw[decide_eq_false h];exact(beq_eq_false_iff_ne.mpr e).symm
theorem sV(a b:Str):decide ((Sum.inr a:Key)=Sum.inr b)=decide (a=b):=by
 by_cases e:a=b
 ·subst e;simp
 ·have h:¬ (Sum.inr a:Key)=Sum.inr b:=λq=>e (Sum.inr.inj q)
  rw[decide_eq_false h,decide_eq_false e]
theorem DU(a:Int)(b:Str):decide ((Sum.inl a:Key)=Sum.inr b)=false:=decide_eq_false (λq=>nomatch q)
theorem Ac(a:Str)(b:Int):decide ((Sum.inr a:Key)=Sum.inl b)=false:=decide_eq_false (λq=>nomatch q)
noncomputable def lH(prog:ay)(w:au):PySem.KeyKind prog w Key where
 is:=oa
 hash:=DI w
 inj:=λv a b ha hb=>by
  rcases zN ha with ⟨i,t,rfl,rfl⟩|⟨x,t,rfl,rfl⟩
  ·rcases zN hb with ⟨j,u,rfl,e⟩|⟨y,u,rfl,e⟩
   ·injection e with e1 _;rw[e1]
   ·exact nomatch e
  ·rcases zN hb with ⟨j,u,rfl,e⟩|⟨y,u,rfl,e⟩
   ·exact nomatch e
   ·injection e with e1 _;rw[e1]
 byValue:=λk v h=>by
  rcases zN h with ⟨i,t,rfl,rfl⟩|⟨x,t,rfl,rfl⟩<;>rfl
 pyHash:=λhv h=>by
  rcases zN hv with ⟨i,t,rfl,rfl⟩|⟨x,t,rfl,rfl⟩
  ·exact wpAny_pyHash_int h
  ·exact wpAny_pyHash_str h
 eqBool:=λhu hv h=>by
  rcases zN hu with ⟨i,t,rfl,rfl⟩|⟨x,t,rfl,rfl⟩
  ·rcases zN hv with ⟨j,u,rfl,rfl⟩|⟨y,u,rfl,rfl⟩
   ·rw[DN]at h;exact wpAny_eqBool_int h
   ·rw[DU]at h;exact SeqAt.EqAt.int_str i t y u _ _ _ _ h
  ·rcases zN hv with ⟨j,u,rfl,rfl⟩|⟨y,u,rfl,rfl⟩
   ·rw[Ac]at h;exact SeqAt.EqAt.str_int x t j u _ _ _ _ h
   ·rw[sV]at h;exact wpAny_eqBool_str h
 «strs»:=λk x t v h=>by
  rcases zN h with ⟨i,u,rfl,e⟩|⟨y,u,rfl,e⟩
  ·exact nomatch e
  ·injection e with e1 _
   subst e1;cases v<;>rfl
inductive V where
 |non|bl (b:Bool)|int (i:Int)|str (x:Str)|byt (b:Array UInt8)|flt (b:UInt64)|ref (a:Addr)|ty (n:String)
 deriving DecidableEq
noncomputable def RelV:V->ae->Prop
 | .non,u=>u=bA
 | .bl b,u=>u=bu b
 | .int i,u=>∃t,u=ae.int i t
 | .str x,u=>∃t,u=ae.str x t
 | .byt b,u=>∃t,u=ae.bytes b t
 | .flt b,u=>∃t,u=ae.float b t
 | .ref a,u=>u=bf a
 | .ty n,u=>u=ae.type n
abbrev Vals:List V->List ae->Prop:=Paired RelV
theorem Vals.length{xs:List V}{us:List ae}(r:Vals xs us):xs.length=us.length:=Paired.length r
theorem Vals.get:∀{xs:List V}{us:List ae}{i:Nat}{x:V},Vals xs us->xs[i]? = some x->∃u,us[i]? = some u/\RelV x u
 |_,_,_,_,.nil,e=>by simp at e
 |_,_,0,_,.cons r _,e=>by simp at e;subst e;exact⟨_,rfl,r⟩
 |_,_,i+1,x,.cons _ t,e=>by
  obtain⟨u,h1,h2⟩:=Vals.get (i:=i) (x:=x) t (by simpa using e);exact⟨u,by simpa using h1,h2⟩
theorem Vals.set{x:V}{u:ae}(r:RelV x u):∀{xs:List V}{us:List ae} (i:Nat),Vals xs us->Vals (xs.set i x) (us.set i u)
 |_,_,_,.nil=>.nil
 |_,_,0,.cons _ t=>.cons r t
 |_,_,i+1,.cons q t=>.cons q (Vals.set r i t)
theorem Vals.append:∀{xs ys:List V}{us ws:List ae},Vals xs us->Vals ys ws->Vals (xs++ys) (us++ws)
 |_,_,_,_,.nil,s=>s
 |_,_,_,_,.cons r t,s=>.cons r (Vals.append t s)
theorem Vals.take:∀{xs:List V}{us:List ae} (n:Nat),Vals xs us->Vals (xs.take n) (us.take n)
 |_,_,0,_=>.nil
 |_,_,_+1,.nil=>.nil
 |_,_,n+1,.cons r t=>.cons r (Vals.take n t)
theorem Vals.drop:∀{xs:List V}{us:List ae} (n:Nat),Vals xs us->Vals (xs.drop n) (us.drop n)
 |_,_,0,r=>r
 |_,_,_+1,.nil=>.nil
 |_,_,n+1,.cons _ t=>Vals.drop n t
noncomputable def lN:Option V->Option ae->Prop
 |some v,some u=>RelV v u
 |none,none=>True
 |_,_=>False
noncomputable def KV{κ:Type}:List (κ×V)->List (κ×ae)->Prop:=Paired λ(p:κ×V) (q:κ×ae)=>p.1=q.1/\RelV p.2 q.2
noncomputable def kV:Key->V
 | .inl i=>.int i
 | .inr x=>.str x
inductive HO where
 |lst (xs:List V)
 |tup (xs:List V)
 |dK (kvs:List (Key×V))|dT (kvs:List (List Key×V))
 |set (S:Int->Bool) (n:Nat)
 |ins (C dx:Addr) (fs:List (Str×V))
 |own (x:Addr)
 |xd (fs:List (Str×V))
 |met (f x:Addr)
 |rng (lo hi:Int)
 |frz (o:Obj) (u:HO)
 |tbl (ps:Array ae)
 |ext (φ:Heap->Prop)
abbrev Hp:=Addr->Option HO
noncomputable def upd(H:Hp)(a:Addr)(o:HO):Hp:=λb=>if b=a then some o else H b
theorem zu{H:Hp}{a:Addr}{o:HO}:upd H a o a=some o:=by unfold upd;rw[if_pos rfl]
theorem qi{H:Hp}{a b:Addr}{o:HO}(h:b≠a):upd H a o b=H b:=by unfold upd;rw[if_neg h]
theorem hJ{H:Hp}{a b:Addr}{o:HO}(h:H a=some o)(h':H b=none):a≠b:=by
 intro e;subst e;rw[h]at h';cases h'
section
variable(P:ay)(w:au)
noncomputable def zM(H:Hp)(h:Heap)(a:Addr):HO->Prop
 | .lst xs=>xs.length<=aI/\∃(its:List ae) (n:Nat),Vals xs its/\h.get? a=some {cls:=.type "list",data:=.seq its.toArray n}
 | .tup xs=>xs.length<=aI/\∃its:List ae,Vals xs its/\IsTup h a its.toArray
 | .dK kvs=>kvs.length<=aI/\(a==sysModules)=false/\∃vs,KV kvs vs/\h.DictOf (lH P w) a vs
 | .dT kvs=>kvs.length<=aI/\(a==sysModules)=false/\∃xs:List (List Key×Addr×ae),
   Paired (λ(p:List Key×V) (q:List Key×Addr×ae)=>p.1=q.1/\H q.2.1=some (.tup (p.1.map kV))/\RelV p.2 q.2.2) kvs xs /\
   ∃o es ep,h.get? a=some o/\o.ExactDict/\o.data=.dict es ep/\es.toList=xs.map (entryOfKey (tupleKind (lH P w)))/\(xs.map (·.1)).Nodup
 | .set S n=>h.SetOf (intKind P w) a S n
 | .ins C dx fs=>H dx=some (.own a)/\fs.length<=1000/\dx≠a/\h.get? a=some (PySem.W.instObj C dx) /\
   ∃mA,h.Ns1 dx mA/\(∀f,lN (fs.lookup f) (mA f))/\PySem.Within mA (fs.map (·.1))
 | .own _=>∃o,h.get? a=some o
 | .xd fs=>∃mA,h.Ns1 a mA/\∀f,lN (fs.lookup f) (mA f)
 | .rng lo hi=>∃t u v,h.get? a=some {cls:=.type "range",data:=.fields #[.int lo t,.int hi u,.int 1 v]}
 | .frz o u=>h.get? a=some o/\zM H h a u
 | .tbl ps=>h.get? a=some {cls:=.none,data:=.fields ps}
 | .met f x=>h.get? a=some (PySem.W.methodObj (.ref f) (.ref x))
 | .ext φ=>φ h/\(∃o,h.get? a=some o)/\∀h1 h2:Heap,φ h1->(∀o,h1.get? a=some o->h2.get? a=some o)->φ h2
noncomputable def HOk(H:Hp)(h:Heap):Prop:=∀a o,H a=some o->zM P w H h a o
end
section
variable{P:ay}{w:au}{H H':Hp}{h h':Heap}{a:Addr}{o:HO}
theorem zM.lt(x:zM P w H h a o):a<h.objs.size:=by
 cases o with
 |lst xs=>obtain⟨_,_,_,_,e⟩:=x;exact aF e
 |tup xs=>obtain⟨_,_,_,p⟩:=x;exact p.lt
 |dK kvs=>obtain⟨_,_,_,_,o,_,_,e,_⟩:=x;exact aF e
 |dT kvs=>obtain⟨_,_,_,_,o,_,_,e,_⟩:=x;exact aF e
 |set S n=>obtain⟨o,_,_,_,e,_⟩:=x;exact aF e
 |ins C dx fs=>obtain⟨_,_,_,e,_⟩:=x;exact aF e
 |own y=>obtain⟨_,e⟩:=x;exact aF e
 |xd fs=>obtain⟨_,⟨_,_,_,e,_⟩,_⟩:=x;exact aF e
 |rng lo hi=>obtain⟨_,_,_,e⟩:=x;exact aF e
 |frz ob u=>obtain⟨e,_⟩:=x;exact aF e
 |tbl ps=>exact aF (show h.get? a=some _ from x)
 |met f y=>exact aF (show h.get? a=some _ from x)
 |ext φ=>obtain⟨_,⟨_,e⟩,_⟩:=x;exact aF e
theorem Paired.mapP{α β:Type}{F G:α->β->Prop}:∀{l₁:List α}{l₂:List β},Paired F l₁ l₂->(∀a b,F a b->G a b)->Paired G l₁ l₂
 |_,_,.nil,_=>.nil
 |_,_,.cons r t,f=>.cons (f _ _ r) (Paired.mapP t f)
theorem zM.stay(x:zM P w H h a o)(k:∀b u,(b=a\/H b=some (.own a))->h.get? b=some u->h'.get? b=some u)
  (ho:∀b,H b=some (.own a)->H' b=some (.own a)) (ht:∀b xs,H b=some (.tup xs)->H' b=some (.tup xs)):zM P w H' h' a o:=by
 induction o with
 |lst xs=>obtain⟨z,its,n,r,e⟩:=x;exact⟨z,its,n,r,k _ _ (.inl rfl) e⟩
 |tup xs=>obtain⟨z,its,r,ob,e,c⟩:=x;exact⟨z,its,r,ob,k _ _ (.inl rfl) e,c⟩
 |dK kvs=>obtain⟨z,y,vs,r,ob,es,ep,e,c⟩:=x;exact⟨z,y,vs,r,ob,es,ep,k _ _ (.inl rfl) e,c⟩
 |dT kvs=>
  obtain⟨z,y,xs,r,ob,es,ep,e,c⟩:=x;exact⟨z,y,xs,Paired.mapP r λp q z=>⟨z.1,ht _ _ z.2.1,z.2.2⟩,ob,es,ep,k _ _ (.inl rfl) e,c⟩
 |set S n=>obtain⟨ob,es,ep,t,e,c⟩:=x;exact⟨ob,es,ep,t,k _ _ (.inl rfl) e,c⟩
 |ins C dx fs=>
  obtain⟨d,z,ne,e,mA,⟨od,es,ep,e2,c⟩,r⟩:=x;exact⟨ho _ d,z,ne,k _ _ (.inl rfl) e,mA,⟨od,es,ep,k _ _ (.inr d) e2,c⟩,r⟩
 |own y=>obtain⟨ob,e⟩:=x;exact⟨ob,k _ _ (.inl rfl) e⟩
 |xd fs=>obtain⟨mA,⟨od,es,ep,e,c⟩,r⟩:=x;exact⟨mA,⟨od,es,ep,k _ _ (.inl rfl) e,c⟩,r⟩
 |rng lo hi=>obtain⟨t,u,v,e⟩:=x;exact⟨t,u,v,k _ _ (.inl rfl) e⟩
 |frz ob u ih=>obtain⟨e,q⟩:=x;exact⟨k _ _ (.inl rfl) e,ih q⟩
 |tbl ps=>
  have e:h.get? a=some {cls:=.none,data:=.fields ps}:=x;show h'.get? a=some {cls:=.none,data:=.fields ps};exact k a _ (.inl rfl) e
 |met f y=>
  have e:h.get? a=some (PySem.W.methodObj (.ref f) (.ref y)):=x;show h'.get? a=some (PySem.W.methodObj (.ref f) (.ref y));exact k a _ (.inl rfl) e
 |ext φ=>obtain⟨p,⟨o,e⟩,st⟩:=x;exact⟨st _ _ p λo q=>k _ _ (.inl rfl) q,⟨o,k _ _ (.inl rfl) e⟩,st⟩
theorem HOk.lt(x:HOk P w H h)(e:H a=some o):a<h.objs.size:=(x a o e).lt
theorem HOk.fresh(x:HOk P w H h)(e:h.objs.size<=a):H a=none:=by
 cases q:H a with
 |none=>rfl
 |some u=>exact absurd (a8 (x.lt q) e) (bx _)
theorem HOk.kept(x:HOk P w H h)(k:∀b u,h.get? b=some u->h'.get? b=some u):HOk P w H h':=λa o e=>
 (x a o e).stay (λb u _ q=>k b u q) (λ_ q=>q) λ_ _ q=>q
theorem HOk.laid(x:HOk P w H h)(k:∀b u,h.get? b=some u->h'.get? b=some u)(hp:h.objs.size<=a)(new:zM P w (upd H a o) h' a o):HOk P w (upd H a o) h':=λb u e=>by
 have hn:=x.fresh hp;by_cases hb:b=a
 ·subst hb;rw[zu]at e;cases e;exact new
 ·rw[qi hb]at e;exact(x b u e).stay (λc v _ q=>k c v q) (λc q=>by rw[qi (hJ q hn)];exact q) λc xs q=>by rw[qi (hJ q hn)];exact q
end
noncomputable def Rd(H:Hp)(a:Addr)(u:HO):Prop:=H a=some u\/∃o,H a=some (.frz o u)
theorem Rd.of{H:Hp}{a:Addr}{u:HO}(h:H a=some u):Rd H a u:=.inl h
theorem Rd.ok{P:ay}{w:au}{H:Hp}{h:Heap}{a:Addr}{u:HO}(r:Rd H a u)(x:HOk P w H h):zM P w H h a u:=by
 rcases r with r|⟨o,r⟩
 ·exact x a u r
 ·obtain⟨_,q⟩:=x a _ r;exact q
noncomputable def Mut:Option HO->Prop
 |some (.lst _)=>True
 |some (.dK _)=>True
 |some (.dT _)=>True
 |some (.set _ _)=>True
 |some (.ins _ _ _)=>True
 |some (.ext _)=>True
 |_=>False
section
variable{P:ay}{w:au}{H:Hp}{h h':Heap}{x e:Addr}{o':HO}
theorem HOk.write(ok:HOk P w H h)(mu:Mut (H x))(he:e=x\/H e=some (.own x))(k:∀b u,b≠e->h.get? b=some u->h'.get? b=some u)(heo:∃u,h'.get? e=some u)
  (new:zM P w (upd H x o') h' x o'):HOk P w (upd H x o') h':=λb u q=>by
 have nown:∀c y,H c=some (.own y)->c≠x:=λc y r z=>by subst z;rw[r]at mu;exact mu
 have ntup:∀c xs,H c=some (.tup xs)->c≠x:=λc xs r z=>by subst z;rw[r]at mu;exact mu
 by_cases hb:b=x
 ·subst hb;rw[zu]at q;cases q;exact new
 ·rw[qi hb]at q;by_cases hbe:b=e
  ·have q':H b=some (.own x):=by
    rcases he with z|z
    ·exact absurd (hbe.trans z) hb
    ·rw[hbe];exact z
   rw[q]at q';cases q';obtain⟨v,hv⟩:=heo;exact⟨v,by rw[hbe];exact hv⟩
  ·refine(ok b u q).stay (λc v hc r=>k c v ?_ r) (λc r=>by rw[qi (nown c b r)];exact r) λc xs r=>by rw[qi (ntup c xs r)];exact r
   rcases hc with rfl|hc
   ·exact hbe
   ·rintro rfl;rcases he with z|z
    ·exact nown c b hc z
    ·rw[hc]at z;cases z;exact hb rfl
end
structure Un(fs ex:List Addr)(H H':Hp)(h h':Heap):Prop where
 keep:∀b o,h.get? b=some o->H b=none->b∉fs->b∉ex->h'.get? b=some o
 slot:∀b o,h.get? b=some o->H b=none->b∈fs->b∉ex->∃sl,h'.get? b=some {o with slots:=sl}
 free:∀b o,h.get? b=some o->H b=none->b∉ex->H' b=none
 there:∀b o,h.get? b=some o->b∉ex->∃o',h'.get? b=some o'
 tups:∀b xs,H b=some (.tup xs)->H' b=some (.tup xs)
 frzs:∀b o u,H b=some (.frz o u)->H' b=some (.frz o u)
 tbls:∀b ps,H b=some (.tbl ps)->∃more,H' b=some (.tbl (ps++more))
section
variable{fs fs' ex ex':List Addr}{H H1 H2:Hp}{h h1 h2 h':Heap}{a x e:Addr}{o:HO}
theorem Un.any(u:Un fs ex H H1 h h1){b:Addr}{ob:Obj}(q:h.get? b=some ob)(n:H b=none)(hx:b∉ex):∃sl,h1.get? b=some {ob with slots:=sl}:=by
 by_cases hb:b∈fs
 ·exact u.slot b ob q n hb hx
 ·exact⟨ob.slots,u.keep b ob q n hb hx⟩
theorem Un.kept(k:∀b u,h.get? b=some u->h'.get? b=some u):Un fs ex H H h h':=
 ⟨λb ob q _ _ _=>k b ob q,λb ob q _ _ _=>⟨ob.slots,k b ob q⟩,λ_ _ _ n _=>n,λb ob q _=>⟨ob,k b ob q⟩,λ_ _ q=>q,λ_ _ _ q=>q,λ_ ps q=>⟨#[],by rw[q];simp⟩⟩
theorem Un.refl:Un fs ex H H h h:=Un.kept λ_ _ q=>q
theorem Un.laid(k:∀b u,h.get? b=some u->h'.get? b=some u)(hp:h.objs.size<=a)(hn:H a=none):Un fs ex H (upd H a o) h h' where
 keep:=λb u q _ _ _=>k b u q
 slot:=λb u q _ _ _=>⟨u.slots,k b u q⟩
 free:=λb u q n _=>by rw[qi (aU (a8 (aF q) hp))];exact n
 there:=λb u q _=>⟨u,k b u q⟩
 tups:=λb xs q=>by rw[qi (hJ q hn)];exact q
 frzs:=λb u xs q=>by rw[qi (hJ q hn)];exact q
 tbls:=λb ps q=>⟨#[],by rw[qi (hJ q hn),q];simp⟩
theorem Un.write(mu:Mut (H x))(he:e=x\/H e=some (.own x))(k:∀b u,b≠e->h.get? b=some u->h'.get? b=some u)(heo:∃u,h'.get? e=some u):Un fs ex H (upd H x o) h h':=by
 have hx:∀b,H b=none->b≠x:=λb n z=>by subst z;rw[n]at mu;exact mu
 have hb:∀b,H b=none->b≠e:=λb n z=>by
  subst z;rcases he with r|r
  ·exact hx b n r
  ·rw[n]at r;cases r
 have hm:∀b u,H b=some u->¬ Mut (some u)->b≠x:=λb u q nm z=>by subst z;rw[q]at mu;exact nm mu
 refine⟨λb u q n _ _=>k b u (hb b n) q,λb u q n _ _=>⟨u.slots,k b u (hb b n) q⟩,λb u q n _=>by rw[qi (hx b n)];exact n,λb u q _=>?_,
  λb xs q=>by rw[qi (hm b _ q λz=>z)];exact q,λb u xs q=>by rw[qi (hm b _ q λz=>z)];exact q,λb ps q=>⟨#[],by rw[qi (hm b _ q λz=>z),q];simp⟩⟩
 by_cases hbe:b=e
 ·subst hbe;exact heo
 ·exact⟨u,k b u hbe q⟩
end
noncomputable def trk(h:Heap)(H:Hp):List Addr:=(aR h.objs.size).filter λa=>(H a).isSome
noncomputable def eB(h:Heap)(H:Hp):Heap:=PySem.W.hideAll h (trk h H)
theorem CN(h:Heap)(H:Hp):(eB h H).objs.size=h.objs.size:=PySem.W.hideAll_size _ _
theorem xk{h:Heap}{H:Hp}{b:Addr}{o:Obj}(e:h.get? b=some o)(n:H b=none):(eB h H).get? b=some o:=
 dq _ e λhm=>by
  have q:(H b).isSome=true:=(List.mem_filter.mp hm).2;rw[n]at q;simp at q
theorem s_{h:Heap}{H:Hp}{b:Addr}{o:Obj}(e:(eB h H).get? b=some o):h.get? b=some o/\H b=none:=by
 have e':h.get? b=some o:=PySem.W.of_hideAll (trk h H) e;refine⟨e',?_⟩;cases q:H b with
 |none=>rfl
 |some x=>
  have hm:b∈trk h H:=List.mem_filter.mpr ⟨List.mem_range.mpr (aF e'),by simp[q]⟩;have z:(eB h H).get? b=none:=PySem.W.hideAll_none (trk h H) hm;rw[z]at e;cases e
noncomputable def iU(g h:Heap)(L:Addr):List (Addr×Obj):=(aR h.objs.size).filterMap λa=>if a=L\/(g.get? a).isSome=true then none else (h.get? a).map λo=>(a,o)
theorem mP{g h:Heap}{L a:Addr}{o:Obj}(h1:a≠L)(h2:g.get? a=none)(h3:h.get? a=some o):(a,o)∈iU g h L:=
 List.mem_filterMap.mpr ⟨a,List.mem_range.mpr (aF h3),by simp[h1,h2,h3]⟩
theorem sd{g h:Heap}{L:Addr}{p:Addr×Obj}(hp:p∈iU g h L):p.1≠L/\g.get? p.1=none/\h.get? p.1=some p.2:=by
 obtain⟨b,_,e⟩:=List.mem_filterMap.mp hp;split at e
 ·cases e
 ·rename_i hn
  cases q:h.get? b with
  |none=>rw[q]at e;simp at e
  |some u=>
   rw[q]at e;simp only[Option.map_some,bJ]at e;subst e;refine⟨λz=>hn (.inl z),?_,q⟩;show g.get? b=none;cases r:g.get? b with
   |none=>rfl
   |some v=>exact(hn (.inr (by simp[r]))).elim
noncomputable def rest(g h:Heap)(L d:Addr):List (Addr×Obj):=(iU g h L).filter λp=>decide (p.1≠d)
theorem uc{g h:Heap}{L:Addr}:News g L h (iU g h L):=λp hp=>let ⟨a,b,c⟩:=sd hp;⟨c,a,b⟩
structure Mod(K:av)(mg:Str->Option ae)(base:Heap):Prop where
 kin:K.In base
 glob:base.Ns ao mg
 blt:∃mb,base.Ns builtinsNs mb/\∀x:Str,x≠"__name__"->mb x=bz x
 nolimit:base.NoLimit
structure Cx where
 prog:ay
 w:au
 K:av
 mg:Str->Option ae
 base:Heap
 A:ax
 N:List Str
 s₀:af
 H₀:Hp
 env:Env
 outer:List Env
 stack:List Env
 ex:List Addr
 fn:Str->Bool
 calm:Bool
 pn:List (Addr×Obj)
 xe:ae->af->Prop
noncomputable def frs(l:List Env):List Addr:=l.filterMap (·.frame)
abbrev Cx.fs(X:Cx):List Addr:=frs X.outer
noncomputable def fN(sc:aO)(x:Str):Prop:=sc.names.lookup x=some .local\/sc.names.lookup x=some .cell\/sc.names.lookup x=some .free
noncomputable def Loc(sc:aO)(x:Str):Prop:=sc.names.lookup x=some .local\/sc.names.lookup x=some .cell
noncomputable def Look(env:Env)(h:Heap)(m:Str->Option ae)(x:Str)(u:ae):Prop:=
 (env.kindOf x=some .local/\m x=some u)\/((env.kindOf x=some .cell\/env.kindOf x=some .free)/\∃c,env.cells.lookup x=some c/\h.IsCell c (some u))
structure Cx.Ok(X:Cx):Prop where
 mod:Mod X.K X.mg X.base
 kind:X.env.scope.kind=.function
 glob:X.env.globals=ao
 blt:X.env.builtins=builtinsNs
 above:X.s₀.heap.objs.size<=X.env.locals
 inj:∀x y c,X.env.cells.lookup x=some c->X.env.cells.lookup y=some c->x=y
 has:∀x,(X.env.kindOf x=some .cell\/X.env.kindOf x=some .free)->∃c,X.env.cells.lookup x=some c
 cab:∀x c,X.fn x=true->X.env.cells.lookup x=some c->X.s₀.heap.objs.size<=c
 hd:X.calm=true->X.A.handled=none
 frames:X.A.frames=some X.stack
 stk:X.stack=X.outer\/(X.stack=X.env::X.outer/\X.env.frame=some X.env.locals)
 exf:∀b∈X.ex,b≠X.env.locals/\∀x c,X.env.cells.lookup x=some c->c≠b
 bs:∀b o,X.base.get? b=some o->X.s₀.heap.get? b=some o/\X.H₀ b=none
 bsz:X.base.objs.size<=X.s₀.heap.objs.size
 noex:∀b o,X.base.get? b=some o->b∉X.ex
 exfs:∀b∈X.ex,b∉X.fs
 funs:X.s₀.heap.FunFrames X.base X.outer
 frf:∀b∈X.fs,X.H₀ b=none
structure Inv(X:Cx)(pins:List (Addr×Obj))(σ:List (Option V))(H:Hp)(s:af):Prop where
 ok:X.Ok
 os:s.os=X.s₀.os
 bare:AllBare s.gens
 base:Un X.fs X.ex X.H₀ H X.s₀.heap s.heap
 loc:∃m,s.heap.Ns X.env.locals m/\∀(i:Nat) (x:Str) (v:V),X.N[i]? = some x->σ[i]? = some (some v)->fN X.env.scope x->∃u,RelV v u/\Look X.env s.heap m x u
 cell:∀x c,X.env.cells.lookup x=some c->∃v,s.heap.IsCell c v
 free:H X.env.locals=none
 freeC:∀x c,X.env.cells.lookup x=some c->H c=none
 pin:∀p∈X.pn++pins,s.heap.get? p.1=some p.2/\H p.1=none/\p.1≠X.env.locals/\p.1∉X.fs/\∀v,p.2.data≠.cell v
 hok:HOk X.prog X.w H s.heap
 len:σ.length=X.N.length
section
variable{X:Cx}{pins:List (Addr×Obj)}{σ:List (Option V)}{H H':Hp}{s:af}{h':Heap}
theorem Cx.Ok.nofr(ok:X.Ok){b:Addr}{o:Obj}(e:X.base.get? b=some o):b∉X.fs:=λhb=>by
 have:=(ok.funs.mem hb).1;rw[e]at this;cases this
theorem Inv.bs(I:Inv X pins σ H s):∀b o,X.base.get? b=some o->s.heap.get? b=some o/\H b=none:=λb o e=>
 ⟨I.base.keep b o (I.ok.bs b o e).1 (I.ok.bs b o e).2 (I.ok.nofr e) (I.ok.noex b o e),I.base.free b o (I.ok.bs b o e).1 (I.ok.bs b o e).2 (I.ok.noex b o e)⟩
theorem Inv.bk(I:Inv X pins σ H s):∀b o,X.base.get? b=some o->s.heap.get? b=some o:=λb o e=>(I.bs b o e).1
theorem Inv.mod(I:Inv X pins σ H s):Mod X.K X.mg X.base:=I.ok.mod
theorem Inv.kIn(I:Inv X pins σ H s):X.K.In s.heap:=I.ok.mod.kin.keeps I.bk
theorem Inv.nolimit(I:Inv X pins σ H s):s.heap.NoLimit:=I.ok.mod.nolimit.keeps I.bk
theorem Inv.fr(I:Inv X pins σ H s):∃m,Fr X.base X.env.locals s.heap m:=
 let ⟨m,hn,_⟩:=I.loc
 ⟨m,hn,I.bk,aX I.ok.bsz I.ok.above⟩
theorem Inv.lt(I:Inv X pins σ H s):X.env.locals<s.heap.objs.size:=let ⟨_,hn,_⟩:=I.loc;hn.lt
theorem Inv.sz(I:Inv X pins σ H s):X.s₀.heap.objs.size<=s.heap.objs.size:=aX I.ok.above (Nat.le_of_lt I.lt)
theorem Inv.nofs(I:Inv X pins σ H s){a:Addr}(h:s.heap.objs.size<=a):a∉X.fs:=λhb=>by
 obtain⟨_,o,ho,_⟩:=I.ok.funs.mem hb;exact absurd (a8 (aF ho) (aX I.sz h)) (bx _)
theorem Inv.cne(I:Inv X pins σ H s):∀x c,X.env.cells.lookup x=some c->c≠X.env.locals:=λx c e z=>by
 obtain⟨v,o,ho,hd⟩:=I.cell x c e;obtain⟨m,⟨o',es,ep,ho',hd',_⟩,_⟩:=I.loc;rw[z,ho']at ho;cases ho;rw[hd']at hd;cases hd
theorem Inv.funs(I:Inv X pins σ H s):s.heap.FunFrames X.base X.outer:=by
 have all:∀(l:List Env),(∀b∈frs l,b∈X.fs)->X.s₀.heap.FunFrames X.base l->s.heap.FunFrames X.base l:=by
  intro l
  induction l with
  |nil=>intro _ _;trivial
  |cons env r ih=>
   intro hs hl;obtain⟨hk,⟨L,o,hf,hn,ho,hd⟩,hr⟩:=hl;have hL:L∈X.fs:=hs L (by unfold frs;rw[List.filterMap_cons,hf];exact aK);obtain⟨sl,e⟩:=I.base.slot L o ho (I.ok.frf L hL) hL λz=>I.ok.exfs L z hL
   exact⟨hk,⟨L,_,hf,hn,e,hd⟩,ih (λb hb=>hs b (by unfold frs;rw[List.filterMap_cons,hf];exact aJ _ hb)) hr⟩
 exact all X.outer (λ_ hb=>hb) I.ok.funs
theorem Inv.stack(I:Inv X pins σ H s):s.heap.FunFrames X.base X.stack:=by
 rcases I.ok.stk with e|⟨e,hf⟩
 ·rw[e];exact I.funs
 ·rw[e];obtain⟨m,hn,_⟩:=I.loc;refine .cons (by rw[I.ok.kind];decide) hf hn ?_ I.funs;exact Heap.get?_none_of_le (aX I.ok.bsz I.ok.above)
theorem Inv.stkSub(I:Inv X pins σ H s):∀b∈frs X.stack,b∈X.env.locals::X.fs:=λb hb=>by
 rcases I.ok.stk with e|⟨e,hf⟩
 ·rw[e]at hb;exact aJ _ hb
 ·rw[e]at hb;unfold frs at hb;rw[List.filterMap_cons,hf]at hb;exact hb
theorem Inv.stkFree(I:Inv X pins σ H s):∀b∈frs X.stack,H b=none:=λb hb=>by
 rcases aG.mp (I.stkSub b hb)with e|hb
 ·rw[e];exact I.free
 ·obtain⟨_,o,ho,_⟩:=I.ok.funs.mem hb;exact I.base.free b o ho (I.ok.frf b hb) λz=>I.ok.exfs b z hb
theorem Inv.step{g':Array GenState}{t':Nat}{d':Drawn}{ch:List Addr}(I:Inv X pins σ H s)
  (hch:∀b∈ch,(b∈X.ex\/X.s₀.heap.objs.size<=b)/\b≠X.env.locals/\(∀x c,X.env.cells.lookup x=some c->c≠b)/\∀p∈X.pn++pins,p.1≠b)
  (keep:∀b o,b≠X.env.locals->b∉X.fs->b∉ch->s.heap.get? b=some o->H b=none->h'.get? b=some o)
  (slot:∀b o,b≠X.env.locals->b∈X.fs->b∉ch->s.heap.get? b=some o->H b=none->∃sl,h'.get? b=some {o with slots:=sl}) (free:∀b o,b∉ch->s.heap.get? b=some o->H b=none->H' b=none)
  (there:∀b o,b∉ch->s.heap.get? b=some o->∃o',h'.get? b=some o')
  (tups:∀b xs,H b=some (.tup xs)->H' b=some (.tup xs)) (frzs:∀b o u,H b=some (.frz o u)->H' b=some (.frz o u)) (tbls:∀b ps,H b=some (.tbl ps)->∃more,H' b=some (.tbl (ps++more)))
  (ns:∀m,s.heap.Ns X.env.locals m->h'.Ns X.env.locals m) (hok:HOk X.prog X.w H' h') (hg:AllBare g') :
  Inv X pins σ H' {s with heap:=h',gens:=g',drawn:=d',toks:=t'}:=by
 have neL:∀b o,X.s₀.heap.get? b=some o->b≠X.env.locals:=λb o e=>aU (a8 (aF e) I.ok.above)
 have neC:∀b o,X.s₀.heap.get? b=some o->b∉X.ex->b∉ch:=λb o e hx hb=>by
  rcases(hch b hb).1 with z|z
  ·exact hx z
  ·exact absurd (a8 (aF e) z) (bx _)
 have cellK:∀x c,X.env.cells.lookup x=some c->∀v,s.heap.IsCell c v->h'.IsCell c v:=λx c e v ⟨o,ho,hd⟩=>by
  have nch:c∉ch:=λz=>(hch c z).2.2.1 x c e rfl
  by_cases hc:c∈X.fs
  ·obtain⟨sl,q⟩:=slot c o (I.cne x c e) hc nch ho (I.freeC x c e);exact⟨_,q,hd⟩
  ·exact⟨o,keep c o (I.cne x c e) hc nch ho (I.freeC x c e),hd⟩
 refine⟨I.ok,I.os,hg,⟨λb o e n hb hx=>?_,λb o e n hb hx=>?_,λb o e n hx=>?_,λb o e hx=>?_,λb xs e=>tups b xs (I.base.tups b xs e),λb o xs e=>frzs b o xs (I.base.frzs b o xs e),λb ps e=>?_⟩,?_,λx c e=>?_,?_,λx c e=>?_,λp hp=>?_,hok,I.len⟩
 ·exact keep b o (neL b o e) hb (neC b o e hx) (I.base.keep b o e n hb hx) (I.base.free b o e n hx)
 ·obtain⟨sl,e1⟩:=I.base.slot b o e n hb hx;obtain⟨sl',e2⟩:=slot b _ (neL b o e) hb (neC b o e hx) e1 (I.base.free b o e n hx);exact⟨sl',e2⟩
 ·obtain⟨o',e1⟩:=I.base.there b o e hx;exact free b o' (neC b o e hx) e1 (I.base.free b o e n hx)
 ·obtain⟨o',e1⟩:=I.base.there b o e hx;exact there b o' (neC b o e hx) e1
 ·obtain⟨m1,e1⟩:=I.base.tbls b ps e;obtain⟨m2,e2⟩:=tbls b _ e1;exact⟨m1++m2,by rw[e2,Array.append_assoc]⟩
 ·obtain⟨m,hn,hl⟩:=I.loc;refine⟨m,ns m hn,λi x v e1 e2 e3=>?_⟩;obtain⟨u,r,l⟩:=hl i x v e1 e2 e3;refine⟨u,r,?_⟩;rcases l with l|⟨k,c,e,z⟩
  ·exact .inl l
  ·exact .inr ⟨k,c,e,cellK x c e _ z⟩
 ·obtain⟨v,z⟩:=I.cell x c e;exact⟨v,cellK x c e v z⟩
 ·obtain⟨m,⟨o,_,_,ho,_⟩,_⟩:=I.loc;exact free _ o (λz=>(hch _ z).2.1 rfl) ho I.free
 ·obtain⟨v,o,ho,hd⟩:=I.cell x c e;exact free c o (λz=>(hch c z).2.2.1 x c e rfl) ho (I.freeC x c e)
 ·obtain⟨e,n,ne,nf,d⟩:=I.pin p hp;have nch:p.1∉ch:=λz=>(hch p.1 z).2.2.2 p hp rfl
  exact⟨keep p.1 p.2 ne nf nch e n,free p.1 p.2 nch e n,ne,nf,d⟩
theorem Inv.un{t':Nat}(I:Inv X pins σ H s)(u:Un X.fs [] H H' s.heap h')(hok:HOk X.prog X.w H' h'):Inv X pins σ H' {s with heap:=h',toks:=t'}:=by
 obtain⟨m,⟨o,es,ep,ho,r⟩,_⟩:=id I.loc;obtain⟨sl,hL⟩:=u.any ho I.free (by simp);exact I.step (g':=s.gens) (d':=s.drawn) (ch:=[]) (λ_ z=>nomatch z) (λb o _ hb _ e n=>u.keep b o e n hb (by simp)) (λb o _ hb _ e n=>u.slot b o e n hb (by simp)) (λb o _ e n=>u.free b o e n (by simp)) (λb o _ e=>u.there b o e (by simp)) u.tups u.frzs u.tbls (λm' hm=>by
  obtain⟨o',es',ep',ho',r'⟩:=hm;rw[ho]at ho';cases ho';exact⟨_,es',ep',hL,r'⟩) hok I.bare
theorem Inv.call{g':Array GenState}{t':Nat}{d':Drawn}{ch:List Addr}(I:Inv X pins σ H s)(u:Un (frs X.stack) ch H H' s.heap h')(hok:HOk X.prog X.w H' h')(hg:AllBare g')
  (hch:∀b∈ch,(b∈X.ex\/X.s₀.heap.objs.size<=b)/\b≠X.env.locals/\(∀x c,X.env.cells.lookup x=some c->c≠b)/\∀p∈X.pn++pins,p.1≠b) :
  Inv X pins σ H' {s with heap:=h',gens:=g',drawn:=d',toks:=t'}:=by
 obtain⟨m,⟨o,es,ep,ho,r⟩,_⟩:=id I.loc;obtain⟨sl,hL⟩:=u.any ho I.free λz=>(hch _ z).2.1 rfl
 exact I.step (ch:=ch) hch (λb o hL hb hc e n=>u.keep b o e n (λz=>(aG.mp (I.stkSub b z)).elim hL hb) hc) (λb o _ _ hc e n=>u.any e n hc) (λb o hc e n=>u.free b o e n hc) (λb o hc e=>u.there b o e hc) u.tups u.frzs u.tbls (λm' hm=>by
  obtain⟨o',es',ep',ho',r'⟩:=hm;rw[ho]at ho';cases ho';exact⟨_,es',ep',hL,r'⟩) hok hg
theorem Inv.turned{t':Nat}{it:Addr}(I:Inv X pins σ H s)(k:∀b o,b≠it->s.heap.get? b=some o->h'.get? b=some o)(hn:H it=none)(hL:it≠X.env.locals)
  (h1:it∈X.ex\/X.s₀.heap.objs.size<=it) (h2:∀x c,X.env.cells.lookup x=some c->c≠it) (h3:∀p∈X.pn++pins,p.1≠it):Inv X pins σ H {s with heap:=h',toks:=t'}:=by
 have nit:∀b u,H b=some u->b≠it:=λb u e z=>by rw[z,hn]at e;cases e
 refine I.step (g':=s.gens) (d':=s.drawn) (ch:=[it]) (λb hb=>?_) (λb o _ _ hc e _=>k b o (λz=>hc (by simp[z])) e) (λb o _ _ hc e _=>⟨o.slots,k b o (λz=>hc (by simp[z])) e⟩) (λ_ _ _ _ n=>n)
  (λb o hc e=>⟨o,k b o (λz=>hc (by simp[z])) e⟩) (λ_ _ e=>e) (λ_ _ _ e=>e) (λb ps e=>⟨#[],by rw[e];simp⟩) (λm hm=>?_) (λb u e=>?_) I.bare
 ·have e:b=it:=by simpa using hb
  subst e;exact⟨h1,hL,h2,h3⟩
 ·obtain⟨o,es,ep,ho,r⟩:=hm;exact⟨o,es,ep,k _ o (Ne.symm hL) ho,r⟩
 ·refine(I.hok b u e).stay (λc v hc q=>k c v ?_ q) (λ_ q=>q) λ_ _ q=>q
  rcases hc with z|z
  ·rw[z];exact nit b u e
  ·exact nit c _ z
theorem Inv.tok(I:Inv X pins σ H s)(t:Nat):Inv X pins σ H {s with toks:=t}:=I.un (h':=s.heap) (t':=t) Un.refl I.hok
theorem Inv.kept{t':Nat}(I:Inv X pins σ H s)(k:∀b u,s.heap.get? b=some u->h'.get? b=some u):Inv X pins σ H {s with heap:=h',toks:=t'}:=I.un (Un.kept k) (I.hok.kept k)
theorem Inv.laid{a:Addr}{o:HO}{t':Nat}(I:Inv X pins σ H s)(k:∀b u,s.heap.get? b=some u->h'.get? b=some u)(hp:s.heap.objs.size<=a)(new:zM X.prog X.w (upd H a o) h' a o) :
  Inv X pins σ (upd H a o) {s with heap:=h',toks:=t'}:=I.un (Un.laid k hp (I.hok.fresh hp)) (I.hok.laid k hp new)
theorem Inv.write{x e:Addr}{o:HO}{t':Nat}(I:Inv X pins σ H s)(mu:Mut (H x))(he:e=x\/H e=some (.own x))(k:∀b u,b≠e->s.heap.get? b=some u->h'.get? b=some u)(heo:∃u,h'.get? e=some u)
  (new:zM X.prog X.w (upd H x o) h' x o):Inv X pins σ (upd H x o) {s with heap:=h',toks:=t'}:=I.un (Un.write mu he k heo) (I.hok.write mu he k heo new)
theorem Inv.pins_of{pins':List (Addr×Obj)}(I:Inv X pins σ H s)(h:∀p∈pins',s.heap.get? p.1=some p.2/\H p.1=none/\p.1≠X.env.locals/\p.1∉X.fs/\∀v,p.2.data≠.cell v):Inv X pins' σ H s:=
 ⟨I.ok,I.os,I.bare,I.base,I.loc,I.cell,I.free,I.freeC,λp hp=>(List.mem_append.mp hp).elim (λz=>I.pin p (List.mem_append_left _ z)) (h p),I.hok,I.len⟩
theorem oG{N:List Str}(hN:N.Nodup){i j:Nat}{x:Str}(a:N[i]? = some x)(b:N[j]? = some x):i=j:=by
 obtain⟨h1,e1⟩:=List.getElem?_eq_some_iff.mp a;obtain⟨h2,e2⟩:=List.getElem?_eq_some_iff.mp b;exact(List.getElem_inj hN).mp (e1.trans e2.symm)
theorem rh{M:Model}{A:ax}{E:ae->af->Prop}{i:Nat}{x:Str}{v:V}{u:ae}{Q:Unit->af->Prop}(I:Inv X pins σ H s)(hN:X.N.Nodup)(hi:X.N[i]? = some x)(hx:Loc X.env.scope x)(r:RelV v u)
  (h:∀s',Inv X pins (σ.set i (some v)) H s'->(∃a,Heap.SameBut a s.heap s'.heap/\(a=X.env.locals\/X.env.cells.lookup x=some a))->Q () s') (hf:X.fn x=true\/X.env.scope.names.lookup x=some .local:=by first|exact .inl rfl|exact .inr rfl|assumption):aj M A (storeName X.env x u) Q E s:=by
 obtain⟨m,hn,hl⟩:=id I.loc;have hcls:(X.env.scope.kind==.class||(X.env.scope.kind==.module&&X.env.locals != X.env.globals))=false:=by rw[I.ok.kind];rfl
 have hiσ:i<σ.length:=by rw[I.len];exact(List.getElem?_eq_some_iff.mp hi).1
 have cne:=I.cne;have tracked:∀{a:Addr}{h':Heap},(∃o,s.heap.get? a=some o/\H a=none)->Heap.SameBut a s.heap h'->HOk X.prog X.w H h':=λ{a h'} ha hs b ob e=>by
  obtain⟨_,_,hfree⟩:=ha;refine(I.hok b ob e).stay (λc w' hc q=>(hs.2 c ?_).trans q) (λ_ q=>q) λ_ _ q=>q
  rintro rfl;rcases hc with rfl|hc
  ·rw[hfree]at e;cases e
  ·rw[hfree]at hc;cases hc
 rcases hx with hk|hk
 ·refine wpAny_storeName_local hk hn (λh' hn' hs=>?_) hcls;obtain⟨oL,_,_,hoL,_⟩:=id hn;refine h _ ⟨I.ok,I.os,I.bare,⟨λb o e n hb hx=>?_,λb o e n hb hx=>?_,I.base.free,λb o e hx=>?_,I.base.tups,I.base.frzs,I.base.tbls⟩,⟨_,hn',λj y v' e1 e2 e3=>?_⟩,λy c e=>?_,I.free,I.freeC,λp hp=>?_,tracked ⟨oL,hoL,I.free⟩ hs,by simpa using I.len⟩ ⟨_,hs,.inl rfl⟩
  ·exact(hs.2 b (aU (a8 (aF e) I.ok.above))).trans (I.base.keep b o e n hb hx)
  ·obtain⟨sl,e1⟩:=I.base.slot b o e n hb hx;exact⟨sl,(hs.2 b (aU (a8 (aF e) I.ok.above))).trans e1⟩
  ·obtain⟨o',e1⟩:=I.base.there b o e hx;exact⟨o',(hs.2 b (aU (a8 (aF e) I.ok.above))).trans e1⟩
  ·by_cases hj:j=i
   ·subst hj;rw[hi]at e1;cases e1;rw[List.getElem?_set_self hiσ]at e2;cases e2;exact⟨u,r,.inl ⟨hk,by simp⟩⟩
   ·rw[List.getElem?_set_ne (Ne.symm hj)]at e2;obtain⟨u',r',q⟩:=hl j y v' e1 e2 e3;refine⟨u',r',?_⟩;rcases q with ⟨k,e⟩|⟨k,c,e,z⟩
    ·refine .inl ⟨k,?_⟩;have:y≠x:=λe=>hj (oG hN e1 (e▸hi))
     simp[this,e]
    ·exact .inr ⟨k,c,e,z.sameBut hs (cne y c e)⟩
  ·obtain⟨w',z⟩:=I.cell y c e;exact⟨w',z.sameBut hs (cne y c e)⟩
  ·obtain⟨e,n,ne,nf,d⟩:=I.pin p hp;exact⟨(hs.2 p.1 ne).trans e,n,ne,nf,d⟩
 ·have hfn:X.fn x=true:=by
   rcases hf with z|z
   ·exact z
   ·rw[z]at hk;cases hk
  obtain⟨c,hc⟩:=I.ok.has x (.inl hk);obtain⟨w',z⟩:=I.cell x c hc;refine wpAny_storeName_cell I.ok.kind hk hc z (λh' hc' hs=>?_);obtain⟨oc,hoc,hocd⟩:=id z;refine h {s with heap:=h'} ⟨I.ok,I.os,I.bare,⟨λb o e n hb hx=>?_,λb o e n hb hx=>?_,I.base.free,λb o e hx=>?_,I.base.tups,I.base.frzs,I.base.tbls⟩,⟨m,hn.sameBut hs (Ne.symm (cne x c hc)),λj y v' e1 e2 e3=>?_⟩,λy c' e=>?_,I.free,I.freeC,λp hp=>?_,tracked ⟨oc,hoc,I.freeC x c hc⟩ hs,by simpa using I.len⟩ ⟨c,hs,.inr hc⟩
  ·exact(hs.2 b (aU (a8 (aF e) (I.ok.cab x c hfn hc)))).trans (I.base.keep b o e n hb hx)
  ·obtain⟨sl,e1⟩:=I.base.slot b o e n hb hx;exact⟨sl,(hs.2 b (aU (a8 (aF e) (I.ok.cab x c hfn hc)))).trans e1⟩
  ·obtain⟨o',e1⟩:=I.base.there b o e hx;exact⟨o',(hs.2 b (aU (a8 (aF e) (I.ok.cab x c hfn hc)))).trans e1⟩
  ·by_cases hj:j=i
   ·subst hj;rw[hi]at e1;cases e1;rw[List.getElem?_set_self hiσ]at e2;cases e2;exact⟨u,r,.inr ⟨.inl hk,c,hc,hc'⟩⟩
   ·rw[List.getElem?_set_ne (Ne.symm hj)]at e2;obtain⟨u',r',q⟩:=hl j y v' e1 e2 e3;refine⟨u',r',?_⟩;rcases q with q|⟨k,c',e,z'⟩
    ·exact .inl q
    ·refine .inr ⟨k,c',e,z'.sameBut hs ?_⟩;rintro rfl;exact hj (oG hN e1 (I.ok.inj _ _ _ e hc▸hi))
  ·by_cases hcc:c'=c
   ·subst hcc;exact⟨_,hc'⟩
   ·obtain⟨w2,z2⟩:=I.cell y c' e;exact⟨w2,z2.sameBut hs hcc⟩
  ·obtain⟨e,n,ne,nf,d⟩:=I.pin p hp;refine⟨(hs.2 p.1 ?_).trans e,n,ne,nf,d⟩;intro q;rw[q,hoc]at e;have q':oc=p.2:=bD e;exact d w' (by rw[<-q'];exact hocd)
theorem lj{M:Model}{A:ax}{E:ae->af->Prop}{i:Nat}{x:Str}{v:V}{u:ae}{Q:Unit->af->Prop}(I:Inv X pins σ H s)(hN:X.N.Nodup)(hi:X.N[i]? = some x)(hx:Loc X.env.scope x)(r:RelV v u)
  (h:∀s',Inv X pins (σ.set i (some v)) H s'->Q () s') (hf:X.fn x=true\/X.env.scope.names.lookup x=some .local:=by first|exact .inl rfl|exact .inr rfl|assumption):aj M A (storeName X.env x u) Q E s:=
 rh I hN hi hx r (λs' I' _=>h s' I') hf
theorem Inv.call'{s':af}{ch:List Addr}(I:Inv X pins σ H s)(ho:s'.os=s.os)(u:Un (frs X.stack) ch H H' s.heap s'.heap)(hok:HOk X.prog X.w H' s'.heap)(hg:AllBare s'.gens)
  (hch:∀b∈ch,(b∈X.ex\/X.s₀.heap.objs.size<=b)/\b≠X.env.locals/\(∀x c,X.env.cells.lookup x=some c->c≠b)/\∀p∈X.pn++pins,p.1≠b):Inv X pins σ H' s':=by
 obtain⟨h',g',d',t',o'⟩:=s';have e:o'=s.os:=ho;subst e;exact I.call (g':=g') (t':=t') (d':=d') u hok hg hch
end
abbrev XK:=ae->Option Addr->Hp->Prop
abbrev St:=List (Option V)
abbrev VK:=V->Hp->Prop
abbrev TE:=St->Hp->VK->Prop
abbrev TT:=St->Hp->(Bool->Hp->Prop)->Prop
abbrev TA:=St->Hp->(List V->Hp->Prop)->Prop
structure Ends where
 nx:St->Hp->Prop
 rt:VK
 bk:St->Hp->Prop:=λ_ _=>False
 ct:St->Hp->Prop:=λ_ _=>False
abbrev TS:=Ends->St->Hp->Prop
noncomputable def EP(X:Cx)(pins:List (Addr×Obj))(σ:St)(Q:VK)(u:ae)(s':af):Prop:=∃v H',Inv X pins σ H' s'/\RelV v u/\Q v H'
noncomputable def TP(X:Cx)(pins:List (Addr×Obj))(σ:St)(Q:Bool->Hp->Prop)(b:Bool)(s':af):Prop:=∃H',Inv X pins σ H' s'/\Q b H'
noncomputable def AP(X:Cx)(pins:List (Addr×Obj))(σ:St)(Q:List V->Hp->Prop)(us:List ae)(s':af):Prop:=∃vs H',Inv X pins σ H' s'/\Vals vs us/\Q vs H'
noncomputable def SP(X:Cx)(pins:List (Addr×Obj))(D:Ends)(f:Flow)(s':af):Prop:=
 match f with
 | .next=>∃σ' H',Inv X pins σ' H' s'/\D.nx σ' H'
 | .brk=>∃σ' H',Inv X pins σ' H' s'/\D.bk σ' H'
 | .cont=>∃σ' H',Inv X pins σ' H' s'/\D.ct σ' H'
 | .ret u=>∃v σ' H',Inv X pins σ' H' s'/\RelV v u/\D.rt v H'
noncomputable def PE(X:Cx)(e:Expr)(t:TE):Prop:=
 ∀(pins:List (Addr×Obj)) (s:af) (σ:St) (H:Hp) (Q:VK),Inv X pins σ H s->t σ H Q->aj (ak X.prog X.w) X.A (eval e X.env) (EP X pins σ Q) X.xe s
noncomputable def PT(X:Cx)(e:Expr)(t:TT):Prop:=
 ∀(pins:List (Addr×Obj)) (s:af) (σ:St) (H:Hp) (Q:Bool->Hp->Prop),Inv X pins σ H s->t σ H Q->aj (ak X.prog X.w) X.A (isTrue e X.env (eval e X.env)) (TP X pins σ Q) X.xe s
noncomputable def PW(X:Cx)(e:Expr)(t:TT):Prop:=
 ∀(whole:Sem ae) (pins:List (Addr×Obj)) (s:af) (σ:St) (H:Hp) (Q:Bool->Hp->Prop),Inv X pins σ H s->t σ H Q->aj (ak X.prog X.w) X.A (isTrue e X.env whole) (TP X pins σ Q) X.xe s
theorem PW.pt{X:Cx}{e:Expr}{t:TT}(h:PW X e t):PT X e t:=h _
noncomputable def PA(X:Cx)(es:List Expr)(t:TA):Prop:=
 ∀(pos:Pos) (pins:List (Addr×Obj)) (s:af) (σ:St) (H:Hp) (Q:List V->Hp->Prop),Inv X pins σ H s->t σ H Q->aj (ak X.prog X.w) X.A (spliced (backTo pos (aP es X.env))) (AP X pins σ Q) X.xe s
noncomputable def PS(X:Cx)(st:Stmt)(t:TS):Prop:=
 ∀(pins:List (Addr×Obj)) (s:af) (σ:St) (H:Hp) (D:Ends),Inv X pins σ H s->t D σ H->aj (ak X.prog X.w) X.A (exec st X.env) (SP X pins D) X.xe s
noncomputable def PSs(X:Cx)(st:List Stmt)(t:TS):Prop:=
 ∀(pins:List (Addr×Obj)) (s:af) (σ:St) (H:Hp) (D:Ends),Inv X pins σ H s->t D σ H->aj (ak X.prog X.w) X.A (execs st X.env) (SP X pins D) X.xe s
theorem thn{α:Type}{t:Sem α}{Q Q':α->af->Prop}{M:Model}{A:ax}{E:ae->af->Prop}{s:af}(h:aj M A t Q E s)(hQ:∀a s,Q a s->Q' a s):aj M A t Q' E s:=bI h hQ λ_ _ x=>x
section
variable{X:Cx}
theorem bin{a b:Expr}{ta tb:TE}(ha:PE X a ta)(hb:PE X b tb){pins:List (Addr×Obj)}{s:af}{σ:St}{H:Hp}{R:V->V->Hp->Prop}(I:Inv X pins σ H s)(h:ta σ H λx H1=>tb σ H1 λy H2=>R x y H2)
  {α:Type}{Q:α->af->Prop}{f:ae->ae->Sem α}
  (hf:∀v u s2 x y H2,Inv X pins σ H2 s2->RelV x v->RelV y u->R x y H2->aj (ak X.prog X.w) X.A (f v u) Q X.xe s2) :
  aj (ak X.prog X.w) X.A (eval a X.env) (λv s₁=>aj (ak X.prog X.w) X.A (eval b X.env) (λu s₂=>aj (ak X.prog X.w) X.A (f v u) Q X.xe s₂) X.xe s₁) X.xe s:=by
 refine thn (ha pins s σ H _ I h) λv s1 ⟨x,H1,I1,r1,q1⟩=>?_
 refine thn (hb pins s1 σ H1 _ I1 q1) λu s2 ⟨y,H2,I2,r2,q2⟩=>?_
 exact hf v u s2 x y H2 I2 r1 r2 q2
noncomputable def iA(i:Nat):TE:=λσ H Q=>∃v,σ[i]? = some (some v)/\Q v H
noncomputable def tC(v:V):TE:=λ_ H Q=>Q v H
theorem jf{i:Nat}{x:Str}{pos:Pos}(hN:X.N[i]? = some x)(hv:fN X.env.scope x)(hd:(x==("__debug__" : Str))=false:=by decide)(hcd:(x==("__classdict__" : Str))=false:=by decide):PE X (.Name x pos) (iA i):=by
 intro pins s σ H Q I h;obtain⟨v,e,h⟩:=h;obtain⟨m,hn,hl⟩:=I.loc;obtain⟨u,r,l⟩:=hl i x v hN e hv;have fin:EP X pins σ Q u s:=⟨v,H,I,r,h⟩
 rcases l with ⟨hk,hm⟩|⟨hk,c,hc,hcell⟩
 ·exact wpAny_Name (wpAny_loadName_local I.ok.kind hk hn hm fin) hd
 ·rcases hk with hk|hk
  ·exact wpAny_Name (wpAny_loadName_cell I.ok.kind hk hc hcell fin) hd
  ·exact wpAny_Name (wpAny_loadName_free I.ok.kind hk hc hcell fin hcd) hd
theorem h9{i j pos}:PE X (.Constant (.int i) j pos) (tC (.int i)):=λ_ _ _ H _ I h=>wpAny_Constant_int ⟨.int i,H,I.tok _,⟨_,rfl⟩,h⟩
theorem oS{b j pos}:PE X (.Constant (.bool b) j pos) (tC (.bl b)):=λ_ _ _ H _ I h=>Constant_bool ⟨.bl b,H,I,rfl,h⟩
theorem BH{j pos}:PE X (.Constant .none j pos) (tC .non):=λ_ _ _ H _ I h=>Constant_none ⟨.non,H,I,rfl,h⟩
theorem jQ{x j pos}:PE X (.Constant (.str x) j pos) (tC (.str x)):=λ_ _ _ H _ I h=>Calls.Constant_str ⟨.str x,H,I.tok _,⟨_,rfl⟩,h⟩
noncomputable def Gl(X:Cx)(x:Str):Prop:=X.env.kindOf x=some .globalImplicit
theorem gr{E:ae->af->Prop}{pins:List (Addr×Obj)}{s:af}{σ:St}{H:Hp}{x:Str}{u:ae}{pos:Pos}{Q:ae->af->Prop}(I:Inv X pins σ H s)(hg:Gl X x)(hm:X.mg x=some u)(h:Q u s)
  (hd:(x==("__debug__" : Str))=false:=by decide):aj (ak X.prog X.w) X.A (eval (.Name x pos) X.env) Q E s:=
 Calls.Name_function_global I.ok.kind hg (Calls.loadGlobal_global (by rw[I.ok.glob];exact I.mod.glob.keeps I.bk) hm h) hd
theorem fI{E:ae->af->Prop}{pins:List (Addr×Obj)}{s:af}{σ:St}{H:Hp}{x:Str}{u:ae}{pos:Pos}{Q:ae->af->Prop}(I:Inv X pins σ H s)(hg:Gl X x)(hm:X.mg x=none)(hv:bz x=some u)(h:Q u s)
  (hn:x≠"__name__":=by decide) (hd:(x==("__debug__" : Str))=false:=by decide):aj (ak X.prog X.w) X.A (eval (.Name x pos) X.env) Q E s:=by
 obtain⟨mb,h1,h2⟩:=I.mod.blt;exact Calls.Name_function_global I.ok.kind hg (Calls.loadGlobal_builtin (by rw[I.ok.glob];exact I.mod.glob.keeps I.bk) hm (by rw[I.ok.blt];exact h1.keeps I.bk) ((h2 x hn).trans hv) h) hd
theorem jO{x:Str}{v:V}{u:ae}{pos:Pos}(hg:Gl X x)(hm:X.mg x=some u)(r:RelV v u)(hd:(x==("__debug__" : Str))=false:=by decide):PE X (.Name x pos) (tC v):=
 λ_ _ _ H _ I h=>gr I hg hm ⟨v,H,I,r,h⟩ hd
theorem yO{x:Str}{v:V}{u:ae}{pos:Pos}(hg:Gl X x)(hm:X.mg x=none)(hv:bz x=some u)(r:RelV v u)(hn:x≠"__name__":=by decide)(hd:(x==("__debug__" : Str))=false:=by decide):PE X (.Name x pos) (tC v):=
 λ_ _ _ H _ I h=>fI I hg hm hv ⟨v,H,I,r,h⟩ hn hd
variable{a b:Expr}{ta tb:TE}{pos:Pos}
variable{tA tB':TT}{rest:List Expr}
noncomputable def Dn(t u:TT):TT:=λσ H Q=>t σ H λc H1=>if c=true then u σ H1 Q else Q false H1
noncomputable def tOr(t u:TT):TT:=λσ H Q=>t σ H λc H1=>if c=true then Q true H1 else u σ H1 Q
noncomputable def Cs(t:TT):TT:=λσ H Q=>t σ H λc H1=>Q (!c) H1
theorem vX(ha:PT X a tA):PW X (.BoolOp .And [a] pos) tA:=by
 intro wh pins s σ H Q I h;refine isTrue_and (thn (ha pins s σ H Q I h) λc s1 e=>?_);cases c with
 |true=>exact isTrue_and_nil e
 |false=>exact e
theorem Dx(ha:PT X a tA):PW X (.BoolOp .Or [a] pos) tA:=by
 intro wh pins s σ H Q I h;refine isTrue_or (thn (ha pins s σ H Q I h) λc s1 e=>?_);cases c with
 |false=>exact isTrue_or_nil e
 |true=>exact e
theorem Ay(ha:PT X a tA)(hb:PW X (.BoolOp .And (b::rest) pos) tB'):PW X (.BoolOp .And (a::b::rest) pos) (Dn tA tB'):=by
 intro wh pins s σ H Q I h;refine isTrue_and (thn (ha pins s σ H _ I h) λc s1 ⟨H1,I1,q1⟩=>?_);cases c with
 |true=>exact hb wh pins s1 σ H1 Q I1 q1
 |false=>exact⟨H1,I1,q1⟩
theorem AN(ha:PT X a tA)(hb:PW X (.BoolOp .Or (b::rest) pos) tB'):PW X (.BoolOp .Or (a::b::rest) pos) (tOr tA tB'):=by
 intro wh pins s σ H Q I h;refine isTrue_or (thn (ha pins s σ H _ I h) λc s1 ⟨H1,I1,q1⟩=>?_);cases c with
 |true=>exact⟨H1,I1,q1⟩
 |false=>exact hb wh pins s1 σ H1 Q I1 q1
theorem vo(ha:PT X a tA):PT X (.UnaryOp .Not a pos) (Cs tA):=by
 intro pins s σ H Q I h;exact isTrue_not (ha pins s σ H (λc H1=>Q (!c) H1) I h)
noncomputable def uQ(ta tb:TE):TE:=λσ H Q=>ta σ H λx H1=>∃c,x=.bl c/\if c=true then tb σ H1 Q else Q (.bl false) H1
noncomputable def A1(ta tb:TE):TE:=λσ H Q=>ta σ H λx H1=>∃c,x=.bl c/\if c=true then Q (.bl true) H1 else tb σ H1 Q
noncomputable def AI(ta:TE):TE:=λσ H Q=>ta σ H λx H1=>∃c,x=.bl c/\Q (.bl (!c)) H1
theorem y_{op}{t:TE}(h:PE X a t):PE X (.BoolOp op [a] pos) t:=λpins s σ H Q I hw=>BoolOp_one (h pins s σ H Q I hw)
theorem wZ(ha:PE X a ta)(hb:PE X (.BoolOp .And (b::rest) pos) tb):PE X (.BoolOp .And (a::b::rest) pos) (uQ ta tb):=by
 intro pins s σ H Q I h;refine BoolOp_and (thn (ha pins s σ H _ I h) λv s1 ⟨x,H1,I1,r1,q1⟩=>?_);obtain⟨c,rfl,q1⟩:=q1;cases r1;refine bB ?_;cases c with
 |true=>exact hb pins s1 σ H1 Q I1 q1
 |false=>exact⟨.bl false,H1,I1,rfl,q1⟩
theorem x9(ha:PE X a ta)(hb:PE X (.BoolOp .Or (b::rest) pos) tb):PE X (.BoolOp .Or (a::b::rest) pos) (A1 ta tb):=by
 intro pins s σ H Q I h;refine BoolOp_or (thn (ha pins s σ H _ I h) λv s1 ⟨x,H1,I1,r1,q1⟩=>?_);obtain⟨c,rfl,q1⟩:=q1;cases r1;refine bB ?_;cases c with
 |false=>exact hb pins s1 σ H1 Q I1 q1
 |true=>exact⟨.bl true,H1,I1,rfl,q1⟩
theorem tX(ha:PE X a ta):PE X (.UnaryOp .Not a pos) (AI ta):=by
 intro pins s σ H Q I h;refine UnaryOp_ (thn (ha pins s σ H _ I h) λv s1 ⟨x,H1,I1,r1,q1⟩=>?_);obtain⟨c,rfl,q1⟩:=q1;cases r1;exact not_of (bB ⟨.bl (!c),H1,I1,rfl,q1⟩)
noncomputable def tIf(t:TT)(ta tb:TE):TE:=λσ H Q=>t σ H λc H1=>if c=true then ta σ H1 Q else tb σ H1 Q
theorem xV{c:Expr}(hc:PT X c tA)(ha:PE X a ta)(hb:PE X b tb):PE X (.IfExp c a b pos) (tIf tA ta tb):=by
 intro pins s σ H Q I h;refine wpAny_IfExp (thn (hc pins s σ H _ I h) λd s1 ⟨H1,I1,q1⟩=>?_);cases d with
 |true=>exact ha pins s1 σ H1 Q I1 q1
 |false=>exact hb pins s1 σ H1 Q I1 q1
end
noncomputable def SqL(K:av)(H:Hp)(a:Addr)(xs:List V):Prop:=
 Rd H a (.lst xs) \/
  ∃(o:Obj) (its:Array ae) (n:Nat),K.lookup a=some o/\o.cls=.type "list"/\o.dict=none/\o.data=.seq its n/\its.size<=aI/\Vals xs its.toList
noncomputable def SqT(K:av)(H:Hp)(a:Addr)(xs:List V):Prop:=
 Rd H a (.tup xs) \/
  ∃(o:Obj) (its:Array ae) (n:Nat),K.lookup a=some o/\o.cls=.type "tuple"/\o.data=.seq its n/\its.size<=aI/\Vals xs its.toList
noncomputable def yN:ae->Option V
 | .none=>some .non
 | .bool b=>some (.bl b)
 | .int i _=>some (.int i)
 | .str x _=>some (.str x)
 | .bytes b _=>some (.byt b)
 | .float b _=>some (.flt b)
 | .ref a=>some (.ref a)
 | .type n=>some (.ty n)
 |_=>none
theorem RelV.abs{x:V}{u:ae}(r:RelV x u):yN u=some x:=by
 cases x with
 |non=>cases r;rfl
 |bl _=>cases r;rfl
 |int _=>obtain⟨t,rfl⟩:=r;rfl
 |str _=>obtain⟨t,rfl⟩:=r;rfl
 |byt _=>obtain⟨t,rfl⟩:=r;rfl
 |flt _=>obtain⟨t,rfl⟩:=r;rfl
 |ref _=>cases r;rfl
 |ty _=>cases r;rfl
theorem RelV.inj{x y:V}{u:ae}(r:RelV x u)(q:RelV y u):x=y:=bD (r.abs.symm.trans q.abs)
theorem Vals.inj{xs ys:List V}{us:List ae}(h:Vals xs us)(h':Vals ys us):xs=ys:=by
 induction h generalizing ys with
 |nil=>cases h';rfl
 |cons r t ih=>cases h' with
  |cons r' t'=>rw[r.inj r',ih t']
section
variable{X:Cx}{pins:List (Addr×Obj)}{σ:St}{H:Hp}{s:af}{a:Addr}{xs ys:List V}
theorem SqL.of{K:av}(h:H a=some (.lst xs)):SqL K H a xs:=.inl (.inl h)
theorem SqT.of{K:av}(h:H a=some (.tup xs)):SqT K H a xs:=.inl (.inl h)
theorem Inv.list(I:Inv X pins σ H s)(h:SqL X.K H a xs):∃its:List ae,Vals xs its/\PlainL s.heap a its.toArray/\xs.length<=sizeLine:=by
 rcases h with h|⟨o,its,n,hk,hc,hd,hs,hz,r⟩
 ·obtain⟨z,its,n,r,e⟩:=h.ok I.hok;exact⟨its,r,⟨_,n,e,rfl,rfl,rfl⟩,z⟩
 ·refine⟨its.toList,r,⟨o,n,I.kIn a o hk,hc,hd,by simpa using hs⟩,?_⟩;have e:=r.length;simp only[bZ]at e;lia
theorem Inv.tuple(I:Inv X pins σ H s)(h:SqT X.K H a xs):∃its:List ae,Vals xs its/\IsTup s.heap a its.toArray/\xs.length<=sizeLine:=by
 rcases h with h|⟨o,its,n,hk,hc,hs,hz,r⟩
 ·obtain⟨z,its,r,p⟩:=h.ok I.hok;exact⟨its,r,p,z⟩
 ·refine⟨its.toList,r,⟨o,I.kIn a o hk,hc,n,by simpa using hs⟩,?_⟩;have e:=r.length;simp only[bZ]at e;lia
theorem Inv.list_inj(I:Inv X pins σ H s)(h:SqL X.K H a xs)(h':SqL X.K H a ys):xs=ys:=by
 obtain⟨its,r,⟨o,n,e,_,_,d⟩,_⟩:=I.list h;obtain⟨its',r',⟨o',n',e',_,_,d'⟩,_⟩:=I.list h';rw[e]at e';cases e';rw[d]at d';injection d' with d1 _
 have:its=its':=by simpa using congrArg Array.toList d1
 subst this;exact r.inj r'
theorem Inv.tuple_inj(I:Inv X pins σ H s)(h:SqT X.K H a xs)(h':SqT X.K H a ys):xs=ys:=by
 obtain⟨its,r,⟨o,e,_,n,d⟩,_⟩:=I.tuple h;obtain⟨its',r',⟨o',e',_,n',d'⟩,_⟩:=I.tuple h';rw[e]at e';cases e';rw[d]at d';injection d' with d1 _
 have:its=its':=by simpa using congrArg Array.toList d1
 subst this;exact r.inj r'
end
abbrev Cx.wish(X:Cx)(E:ae->af->Prop):Cx:={X with xe:=E}
abbrev Cx.nox(X:Cx):Cx:=X.wish λ_ _=>False
theorem Cx.Ok.wish{X:Cx}(ok:X.Ok)(E:ae->af->Prop):(X.wish E).Ok:=
 ⟨ok.mod,ok.kind,ok.glob,ok.blt,ok.above,ok.inj,ok.has,ok.cab,ok.hd,ok.frames,ok.stk,ok.exf,ok.bs,ok.bsz,ok.noex,ok.exfs,ok.funs,ok.frf⟩
theorem Cx.Ok.unwish{X:Cx}{E:ae->af->Prop}(ok:(X.wish E).Ok):X.Ok:=
 ⟨ok.mod,ok.kind,ok.glob,ok.blt,ok.above,ok.inj,ok.has,ok.cab,ok.hd,ok.frames,ok.stk,ok.exf,ok.bs,ok.bsz,ok.noex,ok.exfs,ok.funs,ok.frf⟩
section
variable{X:Cx}{pins:List (Addr×Obj)}{σ:St}{H:Hp}{s:af}{E:ae->af->Prop}
theorem Inv.wish(I:Inv X pins σ H s)(E:ae->af->Prop):Inv (X.wish E) pins σ H s:=⟨I.ok.wish E,I.os,I.bare,I.base,I.loc,I.cell,I.free,I.freeC,I.pin,I.hok,I.len⟩
theorem Inv.unwish(I:Inv (X.wish E) pins σ H s):Inv X pins σ H s:=⟨I.ok.unwish,I.os,I.bare,I.base,I.loc,I.cell,I.free,I.freeC,I.pin,I.hok,I.len⟩
theorem SP.unwish{D:Ends}{f:Flow}{s':af}(h:SP (X.wish E) pins D f s'):SP X pins D f s':=by
 cases f with
 |next=>obtain⟨σ',H',I,q⟩:=h;exact⟨σ',H',I.unwish,q⟩
 |brk=>obtain⟨σ',H',I,q⟩:=h;exact⟨σ',H',I.unwish,q⟩
 |cont=>obtain⟨σ',H',I,q⟩:=h;exact⟨σ',H',I.unwish,q⟩
 |ret u=>obtain⟨v,σ',H',I,r,q⟩:=h;exact⟨v,σ',H',I.unwish,r,q⟩
end
section
variable{X:Cx}{st:Stmt}{rest:List Stmt}{t u:TS}{e:Expr}{te:TE}{pos:Pos}
noncomputable def gZ:TS:=λD σ H=>D.nx σ H
noncomputable def vq(t u:TS):TS:=λD σ H=>t {D with nx:=u D} σ H
theorem xv:PSs X [] gZ:=λ_ _ σ H _ I h=>wpAny_execs_nil ⟨σ,H,I,h⟩
theorem C_(h1:PS X st t)(h2:PSs X rest u):PSs X (st::rest) (vq t u):=by
 intro pins s σ H D I h;refine wpAny_execs_cons (thn (h1 pins s σ H {D with nx:=u D} I h) λf s1 q=>?_);cases f with
 |next=>
  obtain⟨σ',H',I',q⟩:=q;exact h2 pins s1 σ' H' D I' q
 |ret v=>exact q
 |brk=>exact q
 |cont=>exact q
noncomputable def sy:TS:=λD σ H=>D.bk σ H
noncomputable def xT:TS:=λD σ H=>D.ct σ H
theorem tU:PS X (.Pass pos) gZ:=λ_ _ σ H _ I h=>wpAny_Pass ⟨σ,H,I,h⟩
theorem xG:PS X (.Break pos) sy:=λ_ _ σ H _ I h=>wpAny_Break ⟨σ,H,I,h⟩
theorem Bn:PS X (.Continue pos) xT:=λ_ _ σ H _ I h=>wpAny_Continue ⟨σ,H,I,h⟩
theorem Inv.quiet{pins:List (Addr×Obj)}{σ:St}{H:Hp}{s:af}(I:Inv X pins σ H s):interactive X.env=false:=by simp[interactive,I.ok.kind]
noncomputable def u9(te:TE):TS:=λD σ H=>te σ H λ_ H1=>D.nx σ H1
theorem mC(he:PE X e te)(hs:swapsWith e none pos.line X.env=pure false:=by rfl):PS X (.Expr e pos) (u9 te):=by
 intro pins s σ H D I h;exact wpAny_Expr_any (thn (he pins s σ H _ I h) λv s1 ⟨x,H1,I1,r1,q1⟩=>⟨σ,H1,I1,q1⟩) I.quiet hs
noncomputable def xb(te:TE):TS:=λD σ H=>te σ H D.rt
theorem oA(he:PE X e te):PS X (.Return (some e) pos) (xb te):=by
 intro pins s σ H D I h;exact wpAny_Return_some (thn (he pins s σ H _ I h) λv s1 ⟨x,H1,I1,r1,q1⟩=>⟨x,σ,H1,I1,r1,q1⟩)
noncomputable def xj:TS:=λD _ H=>D.rt .non H
theorem rS:PS X (.Return none pos) xj:=λ_ _ σ H _ I h=>wpAny_Return_none ⟨.non,σ,H,I,rfl,h⟩
noncomputable def jo(c:TT)(t u:TS):TS:=λD σ H=>c σ H λb H1=>if b=true then t D σ H1 else u D σ H1
theorem CU{c:Expr}{a b:List Stmt}{tc:TT}(hc:PT X c tc)(ha:PSs X a t)(hb:PSs X b u):PS X (.If c a b pos) (jo tc t u):=by
 intro pins s σ H D I h;refine wpAny_If (thn (hc pins s σ H _ I h) λd s1 ⟨H1,I1,q1⟩=>?_);cases d with
 |true=>exact ha pins s1 σ H1 D I1 q1
 |false=>exact hb pins s1 σ H1 D I1 q1
end
abbrev TG:=V->St->Hp->(St->Hp->Prop)->Prop
abbrev TGs:=List V->St->Hp->(St->Hp->Prop)->Prop
noncomputable def PG(X:Cx)(target:Expr)(t:TG):Prop:=
 ∀(pins:List (Addr×Obj)) (s:af) (σ:St) (H:Hp) (v:V) (u:ae) (Q:St->Hp->Prop),Inv X pins σ H s->RelV v u->t v σ H Q ->
  aj (ak X.prog X.w) X.A (assign target X.env u) (λ_ s'=>∃σ' H',Inv X pins σ' H' s'/\Q σ' H') X.xe s
noncomputable def PGs(X:Cx)(ts:List Expr)(t:TGs):Prop:=
 ∀(pins:List (Addr×Obj)) (s:af) (σ:St) (H:Hp) (vs:List V) (us:List ae) (Q:St->Hp->Prop),Inv X pins σ H s->Vals vs us->t vs σ H Q ->
  aj (ak X.prog X.w) X.A (assignInOrder ((assignEach ts X.env).map (·.2)) us) (λ_ s'=>∃σ' H',Inv X pins σ' H' s'/\Q σ' H') X.xe s
abbrev lG:=V->V->V->Hp->(Hp->Prop)->Prop
noncomputable def mv(X:Cx)(t:lG):Prop:=
 ∀(pins:List (Addr×Obj)) (s:af) (σ:St) (H:Hp) (o i v:V) (ov iv u:ae) (Q:Hp->Prop),Inv X pins σ H s->RelV o ov->RelV i iv->RelV v u->t o i v H Q ->
  aj (ak X.prog X.w) X.A (setItem ov iv u) (λ_ s'=>∃H',Inv X pins σ H' s'/\Q H') X.xe s
section
variable{X:Cx}{pos:Pos}
noncomputable def ff(i:Nat):TG:=λv σ H Q=>Q (σ.set i (some v)) H
theorem u_{i:Nat}{x:Str}(hN:X.N.Nodup)(hi:X.N[i]? = some x)(hx:Loc X.env.scope x)(hf:X.fn x=true\/X.env.scope.names.lookup x=some .local:=by first|exact .inl rfl|exact .inr rfl|assumption):PG X (.Name x pos) (ff i):=by
 intro pins s σ H v u Q I r h;exact wpAny_assign_Name (lj I hN hi hx r (λs' I'=>⟨_,H,I',h⟩) hf)
noncomputable def rC:TGs:=λvs σ H Q=>vs=[]/\Q σ H
noncomputable def nO(t:TG)(u:TGs):TGs:=λvs σ H Q=>∃v r,vs=v::r/\t v σ H λσ' H'=>u r σ' H' Q
theorem B7:PGs X [] rC:=by
 intro pins s σ H vs us Q I r h;obtain⟨e,h⟩:=h;subst e;cases r;exact assignInOrder_nil ⟨σ,H,I,h⟩
theorem DV{e:Expr}{es:List Expr}{t:TG}{u:TGs}(h1:PG X e t)(h2:PGs X es u)
  (hs:(assignEach (e::es) X.env).map (·.2)=assign e X.env::(assignEach es X.env).map (·.2):=by rfl):PGs X (e::es) (nO t u):=by
 intro pins s σ H vs us Q I r h;obtain⟨v,vr,e1,h⟩:=h;subst e1;cases r with
 |cons r rr=>
  rw[hs];refine assignInOrder_cons (thn (h1 pins s σ H _ _ _ I r h) λ_ s1 ⟨σ1,H1,I1,q1⟩=>?_);exact h2 pins s1 σ1 H1 _ _ Q I1 rr q1
noncomputable def l5(K:av)(n:Nat)(t:TGs):TG:=λv σ H Q=>∃a xs,v=.ref a/\SqT K H a xs/\xs.length=n/\t xs σ H Q
theorem Cw{es:List Expr}{k:Nat}{t:TGs}{n:Nat}(hc:X.calm=true)(h:PGs X es t)
  (hn:(assignEach es X.env).length=n:=by rfl) (hst:(assignEach es X.env).findIdx? (·.1)=none:=by rfl):PG X (.Tuple es k pos) (l5 X.K n t):=by
 intro pins s σ H v u Q I r hw;obtain⟨a,xs,e1,hq,hl,hw⟩:=hw;subst e1;cases r;obtain⟨its,rv,ht,hz⟩:=I.tuple hq;refine assign_Tuple_tuple (I.ok.hd hc) ht (by simp[hn,<-hl,rv.length]) hst λh' hx=>?_
 have I1:Inv X pins σ H {s with heap:=h'}:=I.kept (t':=s.toks) λb o e=>hx b o (aU (aF e)) e
 exact h pins _ σ H xs _ Q I1 (by simpa using rv) hw
noncomputable def mi(to ti:TE)(t:lG):TG:=λv σ H Q=>to σ H λo H1=>ti σ H1 λi H2=>t o i v H2 λH3=>Q σ H3
theorem yV{o i:Expr}{to ti:TE}{t:lG}(ho:PE X o to)(hi:PE X i ti)(hs:mv X t)
  (ha:∀v,assign (.Subscript o i pos) X.env v=(do
   let ov <-holding [v] (eval o X.env)
   let iv <-holding [v,ov] (eval i X.env)
   standAt pos
   holding [v,ov,iv] (setItem ov iv v)
   release [v,ov,iv] []):=by intro _;rfl):PG X (.Subscript o i pos) (mi to ti t):=by
 intro pins s σ H v u Q I r h;rw[ha];refine ag (bV (thn (ho pins s σ H _ I h) λov s1 ⟨x,H1,I1,r1,q1⟩=>?_));refine ag (bV (thn (hi pins s1 σ H1 _ I1 q1) λiv s2 ⟨y,H2,I2,r2,q2⟩=>?_));refine ag (wpAny_standAt (ag (bV (thn (hs pins s2 σ H2 x y v ov iv u _ I2 r1 r2 r q2) λ_ s3 ⟨H3,I3,q3⟩=>?_))));exact wpAny_release ⟨σ,H3,I3,q3⟩
noncomputable def jI(te:TE)(g:TG):TS:=λD σ H=>te σ H λx H1=>g x σ H1 D.nx
theorem nD{tg e:Expr}{te:TE}{g:TG}(he:PE X e te)(hg:PG X tg g)(hs:swapsWithSole [tg] e pos.line X.env=pure false:=by rfl)(hw:swappedStores [tg] e X.env=pure none:=by rfl)
  (h1:(assignEach [tg] X.env).map (·.2)=[assign tg X.env]:=by rfl):PS X (.Assign [tg] e pos) (jI te g):=by
 intro pins s σ H D I h;refine wpAny_Assign_stores (thn (he pins s σ H _ I h) λv s1 ⟨x,H1,I1,r1,q1⟩=>?_) hs hw;rw[h1];exact thn (hg pins s1 σ H1 x v _ I1 r1 q1) λ_ s2 q=>q
theorem rp{i:Nat}{x:Str}{e:Expr}{te:TE}{pos':Pos}(hN:X.N.Nodup)(hi:X.N[i]? = some x)(hx:Loc X.env.scope x)(he:PE X e te)(hs:swapsWith e (some (.Name x pos')) pos.line X.env=pure false:=by rfl)(hf:X.fn x=true\/X.env.scope.names.lookup x=some .local:=by first|exact .inl rfl|exact .inr rfl|assumption) :
  PS X (.Assign [.Name x pos'] e pos) (jI te (ff i)):=by
 intro pins s σ H D I h;refine wpAny_Assign_Name (thn (he pins s σ H _ I h) λv s1 ⟨y,H1,I1,r1,q1⟩=>?_) hs;exact lj I1 hN hi hx r1 (λs2 I2=>⟨_,H1,I2,q1⟩) hf
end
section
variable{X:Cx}{pos:Pos}
end
structure It where
 go:Nat->Hp->Prop
 yld:Nat->Hp->V->Hp->Prop
 stop:Nat->Hp->Prop
noncomputable def cQ(X:Cx)(pins:List (Addr×Obj))(H:Hp)(b:Addr):Prop:=
 H b=none/\b≠X.env.locals/\b∉X.fs/\(b∈X.ex\/X.s₀.heap.objs.size<=b)/\(∀x c,X.env.cells.lookup x=some c->c≠b)/\∀p∈X.pn++pins,p.1≠b
theorem Inv.fpOk{X:Cx}{pins:List (Addr×Obj)}{σ:St}{H H':Hp}{s:af}{b:Addr}(I:Inv X pins σ H s)(hb:s.heap.objs.size<=b)(hn:H' b=none):cQ X pins H' b:=by
 refine⟨hn,Nat.ne_of_gt (a8 I.lt hb),I.nofs hb,.inr (aX I.sz hb),λx c e z=>?_,λp hp z=>?_⟩
 ·obtain⟨v,q⟩:=I.cell x c e;exact absurd (a8 q.lt (by rw[z];exact hb)) (bx _)
 ·exact absurd (a8 (aF (I.pin p hp).1) (by rw[z];exact hb)) (bx _)
structure Turn(P:ay)(w:au)(K:av)(tg:Expr)(J:It)(fp:List Addr)(it:Addr)(tn:Nat->Heap->Prop):Prop where
 mem:it∈fp
 obj:∀i h,tn i h->∀b∈fp,∃o,h.get? b=some o/\∀v,o.data≠.cell v
 keep:∀i h h',tn i h->(∀b∈fp,∀o,h.get? b=some o->h'.get? b=some o)->tn i h'
 item:∀(X:Cx),X.prog=P->X.w=w->X.K=K->X.calm=true->∀(i:Nat) (pins:List (Addr×Obj)) (s:af) (σ:St) (H:Hp) (E:ae->af->Prop),Inv X pins σ H s->(∀b∈fp,cQ X pins H b)->tn i s.heap->J.go i H ->
  aj (ak P w) X.A (pyNext (.ref it)) (λr s1=>∃u,r=some u /\
   aj (ak P w) X.A (letOwnedTupleGo tg (.ref it) u) (λ_ s2=>∃x H',Inv X pins σ H' s2/\RelV x u/\J.yld i H x H'/\tn (i+1) s2.heap/\∀b∈fp,H' b=none) E s1) E s
 done:∀(X:Cx),X.prog=P->X.w=w->X.K=K->X.calm=true->∀(i:Nat) (pins:List (Addr×Obj)) (s:af) (σ:St) (H:Hp) (E:ae->af->Prop),Inv X pins σ H s->(∀b∈fp,cQ X pins H b)->tn i s.heap->J.stop i H ->
  aj (ak P w) X.A (pyNext (.ref it)) (λr s1=>r=none/\Inv X pins σ H s1) E s
 self:∀(A:ax) (i:Nat) (s:af) (Q:ae->af->Prop) (E:ae->af->Prop),tn i s.heap->Q (.ref it) s->aj (ak P w) A (pyIter (.ref it)) Q E s
abbrev TI:=St->Hp->(It->Hp->Prop)->Prop
noncomputable def PIE(X:Cx)(pins:List (Addr×Obj))(σ:St)(tg:Expr)(R:It->Hp->Prop)(itv:ae)(s2:af):Prop:=
 ∃(it:Addr) (fp:List Addr) (tn:Nat->Heap->Prop) (J:It) (H':Hp),itv=.ref it/\Inv X pins σ H' s2/\Turn X.prog X.w X.K tg J fp it tn/\tn 0 s2.heap/\(∀b∈fp,cQ X pins H' b)/\R J H'
noncomputable def PI(X:Cx)(tg iter:Expr)(wi:TI):Prop:=
 ∀(pins:List (Addr×Obj)) (s:af) (σ:St) (H:Hp) (R:It->Hp->Prop),Inv X pins σ H s->wi σ H R ->
  aj (ak X.prog X.w) X.A (eval iter X.env) (λv s1=>aj (ak X.prog X.w) X.A (pyIter v) (PIE X pins σ tg R) X.xe s1) X.xe s
theorem iy{M:Model}{A:ax}{E:ae->af->Prop}{s:af}{tg:Expr}{it:Addr}{u:ae}{o:Obj}{n:String}{vs:Array ae}{Q:Unit->af->Prop}(ho:s.heap.get? it=some o)(hc:o.cls=.type n)(hd:o.data=.fields vs)
  (hn:["enumerate","zip","dict_itemiterator","dict_reverseitemiterator","odict_iterator","itertools.zip_longest","itertools.pairwise"].contains n=false) (hQ:Q () s):aj M A (letOwnedTupleGo tg (.ref it) u) Q E s:=by
 unfold letOwnedTupleGo;cases tg<;>first
  |exact ar hQ
  | (cases u<;>first
    |exact ar hQ
    | (refine ag (wpAny_load ho ?_)
       rw[hc,hd];show aj M A (if (["enumerate","zip","dict_itemiterator","dict_reverseitemiterator","odict_iterator","itertools.zip_longest","itertools.pairwise"].contains n&&vs[0]? == some (rawInt _))=true then _ else _) Q E s;rw[if_neg (by intro h;rw[hn,Bool.false_and]at h;cases h)];exact ar hQ))
noncomputable def Itl(K:av)(a:Addr):It:=
 ⟨λi H=>∃xs x,SqL K H a xs/\xs[i]? = some x,λi H x H'=>H'=H/\∀xs,SqL K H a xs->xs[i]? = some x,λi H=>∃xs,SqL K H a xs/\xs.length<=i⟩
noncomputable def Itt(K:av)(a:Addr):It:=
 ⟨λi H=>∃xs x,SqT K H a xs/\xs[i]? = some x,λi H x H'=>H'=H/\∀xs,SqT K H a xs->xs[i]? = some x,λi H=>∃xs,SqT K H a xs/\xs.length<=i⟩
noncomputable def Itr(lo:Int)(n:Nat):It:=⟨λi _=>i<n,λi H x H'=>H'=H/\x=.int (lo+i),λi _=>n<=i⟩
theorem AB{P:ay}{w:au}{K:av}{tg:Expr}(a it:Addr):Turn P w K tg (Itl K a) [it] it (λi h=>h.IsListIter it a i) where
 mem:=by simp
 obj:=λi h st b hb=>by
  have e:b=it:=by simpa using hb
  subst e;obtain⟨o,e,c,d⟩:=st;exact⟨o,e,λv z=>by rw[d]at z;cases z⟩
 keep:=λi h h' st k=>st.at λo e=>k it (by simp) o e
 item:=by
  intro X hP hw hK hc i pins s σ H E I hf st hg;subst hP hw hK;obtain⟨xs,x,hq,hx⟩:=hg;obtain⟨its,rv,p,hz⟩:=I.list hq;obtain⟨u,hu,ru⟩:=rv.get hx;obtain⟨f0,f1,f2,f3,f4,f5⟩:=hf it (by simp);refine wpAny_pyNext_list_item st p.isList (x:=u) (by simpa using hu) λh' st' sb=>?_
  have I1:Inv X pins σ H {s with heap:=h'}:=I.turned (t':=s.toks) (λb o hb e=>(sb.2 b hb).trans e) f0 f1 f3 f4 f5;obtain⟨o,e,c,d⟩:=id st';exact⟨u,rfl,iy (s:={s with heap:=h'}) e c d (by decide) ⟨x,H,I1,ru,⟨rfl,λys hy=>by rw[I.list_inj hy hq];exact hx⟩,st',λb hb=>(hf b hb).1⟩⟩
 done:=by
  intro X hP hw hK hc i pins s σ H E I hf st hg;subst hP hw hK;obtain⟨xs,hq,hx⟩:=hg;obtain⟨its,rv,p,hz⟩:=I.list hq;obtain⟨f0,f1,f2,f3,f4,f5⟩:=hf it (by simp);have hl:=rv.length;exact wpAny_pyNext_list_end (I.ok.hd hc) st p.isList (by simp;lia) λh' eb=>⟨rfl,I.turned (t':=s.toks) (λb o hb e=>eb b o hb e) f0 f1 f3 f4 f5⟩
 self:=λ_ _ _ _ _ st h=>wpAny_pyIter_listiter st h
theorem uT{P:ay}{w:au}{K:av}{tg:Expr}(a it:Addr):Turn P w K tg (Itt K a) [it] it (λi h=>h.IsTupleIter it a i) where
 mem:=by simp
 obj:=λi h st b hb=>by
  have e:b=it:=by simpa using hb
  subst e;obtain⟨o,e,c,d⟩:=st;exact⟨o,e,λv z=>by rw[d]at z;cases z⟩
 keep:=λi h h' st k=>st.at λo e=>k it (by simp) o e
 item:=by
  intro X hP hw hK hc i pins s σ H E I hf st hg;subst hP hw hK;obtain⟨xs,x,hq,hx⟩:=hg;obtain⟨its,rv,p,hz⟩:=I.tuple hq;obtain⟨u,hu,ru⟩:=rv.get hx;obtain⟨f0,f1,f2,f3,f4,f5⟩:=hf it (by simp);refine wpAny_pyNext_tuple_item st (show s.heap.IsTuple a its.toArray from p) (x:=u) (by simpa using hu) λh' st' sb=>?_
  have I1:Inv X pins σ H {s with heap:=h'}:=I.turned (t':=s.toks) (λb o hb e=>(sb.2 b hb).trans e) f0 f1 f3 f4 f5;obtain⟨o,e,c,d⟩:=id st';exact⟨u,rfl,iy (s:={s with heap:=h'}) e c d (by decide) ⟨x,H,I1,ru,⟨rfl,λys hy=>by rw[I.tuple_inj hy hq];exact hx⟩,st',λb hb=>(hf b hb).1⟩⟩
 done:=by
  intro X hP hw hK hc i pins s σ H E I hf st hg;subst hP hw hK;obtain⟨xs,hq,hx⟩:=hg;obtain⟨its,rv,p,hz⟩:=I.tuple hq;obtain⟨f0,f1,f2,f3,f4,f5⟩:=hf it (by simp);have hl:=rv.length;exact wpAny_pyNext_tuple_end (I.ok.hd hc) st (show s.heap.IsTuple a its.toArray from p) (by simp;lia) λh' eb=>⟨rfl,I.turned (t':=s.toks) (λb o hb e=>eb b o hb e) f0 f1 f3 f4 f5⟩
 self:=λ_ _ _ _ _ st h=>wpAny_pyIter_tupleiter st h
theorem vQ{P:ay}{w:au}{K:av}{tg:Expr}(it:Addr)(lo:Int)(n:Nat):Turn P w K tg (Itr lo n) [it] it (λi h=>IsRangeIter h it (lo+(i:Nat) * 1) ((n:Int)-(i:Nat)) 1) where
 mem:=by simp
 obj:=λi h st b hb=>by
  have e:b=it:=by simpa using hb
  subst e;exact⟨_,st,λv z=>by
   have z':Data.fields _=Data.cell v:=z;cases z'⟩
 keep:=λi h h' st k=>k it (by simp) _ st
 item:=by
  intro X hP hw hK hc i pins s σ H E I hf st hg;subst hP hw hK;obtain⟨f0,f1,f2,f3,f4,f5⟩:=hf it (by simp);have W:=Walks.range (prog:=X.prog) (w:=X.w) (I.ok.hd hc) it lo 1 n;refine W.item i s _ _ hg st λv h' tk hv st' kk=>?_
  obtain⟨t,rfl⟩:=hv;have I1:Inv X pins σ H {s with heap:=h',toks:=tk}:=I.turned (λb o hb e=>kk b o (by simpa using hb) e) f0 f1 f3 f4 f5;refine⟨_,rfl,iy (s:={s with heap:=h',toks:=tk}) (n:="range_iterator") st' rfl rfl (by decide) ⟨.int (lo+i),H,I1,⟨t,?_⟩,⟨rfl,rfl⟩,st',λb hb=>(hf b hb).1⟩⟩;rw[Int.mul_one]
 done:=by
  intro X hP hw hK hc i pins s σ H E I hf st hg;subst hP hw hK;obtain⟨f0,f1,f2,f3,f4,f5⟩:=hf it (by simp);exact wpAny_pyNext_range_end (I.ok.hd hc) st (by have:n<=i:=hg;lia) λh' eb=>⟨rfl,I.turned (t':=s.toks) (λb o hb e=>eb b o hb e) f0 f1 f3 f4 f5⟩
 self:=λ_ _ _ _ _ st h=>wpAny_pyIter_rangeiter st h
section
variable{X:Cx}{tg:Expr}
noncomputable def CY(K:av)(tl:TE):TI:=λσ H R=>tl σ H λx H1=>∃a,x=.ref a/\(∃xs,SqL K H1 a xs)/\R (Itl K a) H1
noncomputable def so(K:av)(tl:TE):TI:=λσ H R=>tl σ H λx H1=>∃a,x=.ref a/\(∃xs,SqT K H1 a xs)/\R (Itt K a) H1
theorem xc{l:Expr}{tl:TE}(hl:PE X l tl):PI X tg l (CY X.K tl):=by
 intro pins s σ H R I h;refine thn (hl pins s σ H _ I h) λv s1 ⟨x,H1,I1,r1,q1⟩=>?_
 obtain⟨a,e,⟨xs,hq⟩,q⟩:=q1;subst e;cases r1;obtain⟨its,rv,p,hz⟩:=I1.list hq;refine wpAny_pyIter_list p.isList ?_;refine⟨s1.heap.objs.size,[s1.heap.objs.size],_,_,H1,rfl,I1.kept (t':=s1.toks) λb o e=>Heap.get?_push_of_some _ e,AB a _,⟨_,Heap.get?_push_size _ rfl,rfl,rfl⟩,λb hb=>?_,q⟩;have e:b=s1.heap.objs.size:=by simpa using hb
 subst e;exact I1.fpOk (az _) (I1.hok.fresh (az _))
theorem Ae{l:Expr}{tl:TE}(hl:PE X l tl):PI X tg l (so X.K tl):=by
 intro pins s σ H R I h;refine thn (hl pins s σ H _ I h) λv s1 ⟨x,H1,I1,r1,q1⟩=>?_
 obtain⟨a,e,⟨xs,hq⟩,q⟩:=q1;subst e;cases r1;obtain⟨its,rv,p,hz⟩:=I1.tuple hq;refine wpAny_pyIter_tuple (show s1.heap.IsTuple a its.toArray from p) ?_;refine⟨s1.heap.objs.size,[s1.heap.objs.size],_,_,H1,rfl,I1.kept (t':=s1.toks) λb o e=>Heap.get?_push_of_some _ e,uT a _,⟨_,Heap.get?_push_size _ rfl,rfl,rfl⟩,λb hb=>?_,q⟩;have e:b=s1.heap.objs.size:=by simpa using hb
 subst e;exact I1.fpOk (az _) (I1.hok.fresh (az _))
theorem o4{pins:List (Addr×Obj)}{σ:St}{H:Hp}{s:af}{R:It->Hp->Prop}{E:ae->af->Prop}{lo hi:Int}{t u v:Tok}{tk:Nat}(I:Inv X pins σ H s)(h1:-(2^62)<=lo)(h2:lo<2^62)(h3:-(2^62)<=hi)(h4:hi<2^62)
  (q:R (Itr lo (hi-lo).toNat) H):aj (ak X.prog X.w) X.A (pyIter (.ref s.heap.objs.size)) (PIE X pins σ tg R) E {s with heap:=s.heap.push {cls:=.type "range",data:=.fields #[.int lo t,.int hi u,.int 1 v]},toks:=tk}:=by
 refine wpAny_pyIter_range (IsRange.new ..) (small_one h1 h2 h3 h4) ?_;have I1:Inv X pins σ H {s with heap:=s.heap.push {cls:=.type "range",data:=.fields #[.int lo t,.int hi u,.int 1 v]},toks:=tk}:=I.kept λb o e=>Heap.get?_push_of_some _ e
 refine⟨(s.heap.push {cls:=.type "range",data:=.fields #[.int lo t,.int hi u,.int 1 v]}).objs.size,[(s.heap.push {cls:=.type "range",data:=.fields #[.int lo t,.int hi u,.int 1 v]}).objs.size],_,_,H,rfl,
  I1.kept (t':=tk) λb o e=>Heap.get?_push_of_some _ e,vQ _ lo (hi-lo).toNat,?_,λb hb=>?_,q⟩
 ·have e1:lo+((0:Nat):Int) * 1=lo:=by simp
  have e2:(((hi-lo).toNat:Nat):Int)-((0:Nat):Int)=Builtin.Range.rangeSize lo hi 1:=by rw[rangeSize_one];split<;>lia
  show IsRangeIter _ _ (lo+((0:Nat):Int) * 1) ((((hi-lo).toNat:Nat):Int)-((0:Nat):Int)) 1;rw[e1,e2];exact Heap.get?_push_size _ rfl
 ·have e:b=(s.heap.push {cls:=.type "range",data:=.fields #[.int lo t,.int hi u,.int 1 v]}).objs.size:=by simpa using hb
  subst e;exact I1.fpOk (az _) (I1.hok.fresh (az _))
noncomputable def sC(ta:TA):TI:=λσ H R=>ta σ H λvs H1=>∃j:Int,vs=[.int j]/\-(2^62)<=j/\j<2^62/\R (Itr 0 j.toNat) H1
noncomputable def A_(ta:TA):TI:=λσ H R=>ta σ H λvs H1=>∃i j:Int,vs=[.int i,.int j]/\(-(2^62)<=i/\i<2^62/\-(2^62)<=j/\j<2^62)/\R (Itr i (j-i).toNat) H1
theorem wG{a:Expr}{ta:TA}{p pos:Pos}(hg:Gl X "range")(hm:X.mg "range" = none)(ha:PA X [a] ta)(hs:aP [a] X.env=[(false,eval a X.env)]:=by rfl):PI X tg (.Call (.Name "range" p) [a] [] pos) (sC ta):=by
 intro pins s σ H R I h;refine Call_ (fI I hg hm boot_range (eJ (thn (ha pos pins s σ H _ I h) λus s1 ⟨vs,H1,I1,r1,q1⟩=>?_) hs rfl));obtain⟨j,e,q1,q2,q⟩:=q1;subst e;cases r1 with
 |cons r rr=>
  cases rr;obtain⟨t,rfl⟩:=r;exact call_range_1 (o4 I1 (by lia) (by lia) q1 q2 (by simpa using q))
theorem DO{a b:Expr}{ta:TA}{p pos:Pos}(hg:Gl X "range")(hm:X.mg "range" = none)(ha:PA X [a,b] ta)(hs:aP [a,b] X.env=[(false,eval a X.env),(false,eval b X.env)]:=by rfl)(hs2:aP [b] X.env=[(false,eval b X.env)]:=by rfl) :
  PI X tg (.Call (.Name "range" p) [a,b] [] pos) (A_ ta):=by
 intro pins s σ H R I h;refine Call_ (fI I hg hm boot_range (eJ (thn (ha pos pins s σ H _ I h) λus s1 ⟨vs,H1,I1,r1,q1⟩=>?_) (by rw[hs,hs2]) (by rw[hs2];rfl)));obtain⟨i,j,e,⟨q1,q2,q3,q4⟩,q⟩:=q1;subst e;cases r1 with
 |cons r rr=>
  cases rr with
  |cons r' rr=>
   cases rr;obtain⟨t,rfl⟩:=r;obtain⟨t',rfl⟩:=r';exact call_range_2 (o4 I1 q1 q2 q3 q4 q)
noncomputable def vv(wi:TI)(g:TG)(tb:TS):TS:=λD σ H=>wi σ H λJ H1=>∃W:Nat->Nat->St->Hp->Prop,(∃m,W 0 m σ H1)/\∀i m σ H,W i m σ H ->
 (J.stop i H/\D.nx σ H)\/(J.go i H/\∃N:St->Hp->Prop,(∀σ' H',N σ' H'->∃m',m'<m/\W (i+1) m' σ' H')/\∀x H',J.yld i H x H'->g x σ H' λσ2 H2=>tb {D with nx:=N,ct:=N,bk:=D.nx} σ2 H2)
noncomputable def iB(fp:List Addr)(h:Heap):List (Addr×Obj):=fp.filterMap λb=>(h.get? b).map λo=>(b,o)
theorem jt{fp:List Addr}{h:Heap}{b:Addr}{o:Obj}(hb:b∈fp)(e:h.get? b=some o):(b,o)∈iB fp h:=List.mem_filterMap.mpr ⟨b,hb,by rw[e];rfl⟩
theorem yu{fp:List Addr}{h:Heap}{p:Addr×Obj}(hp:p∈iB fp h):p.1∈fp/\h.get? p.1=some p.2:=by
 obtain⟨b,hb,e⟩:=List.mem_filterMap.mp hp;cases q:h.get? b with
 |none=>rw[q]at e;cases e
 |some o=>
  rw[q]at e;have e':(b,o)=p:=bD e;subst e';exact⟨hb,q⟩
theorem Inv.pinned{pins:List (Addr×Obj)}{σ:St}{H:Hp}{s:af}{fp:List Addr}(I:Inv X pins σ H s)(hf:∀b∈fp,cQ X pins H b)(ho:∀b∈fp,∃o,s.heap.get? b=some o/\∀v,o.data≠.cell v):Inv X (pins++iB fp s.heap) σ H s:=
 I.pins_of λp hp=>(List.mem_append.mp hp).elim (λz=>I.pin p (bT _ z)) λz=>by
  obtain⟨hb,e⟩:=yu z;obtain⟨f0,f1,f2,_⟩:=hf p.1 hb;obtain⟨o,e',d⟩:=ho p.1 hb;rw[e]at e';cases e';exact⟨e,f0,f1,f2,d⟩
theorem Inv.unpinned{pins pl:List (Addr×Obj)}{σ:St}{H:Hp}{s:af}(I:Inv X (pins++pl) σ H s):Inv X pins σ H s:=I.pins_of λp hp=>I.pin p (bT _ (List.mem_append_left _ hp))
theorem DJ{iter:Expr}{body:List Stmt}{wi:TI}{g:TG}{tb:TS}{pos:Pos}(hp:PassesOwn (ak X.prog X.w) X.A X.env X.xe)(hc:X.calm=true)(hi:PI X tg iter wi)(hg:PG X tg g)(hb:PSs X body tb)
  (hs:∀x,foldedSetIterable iter X.env x=pure x:=by intro _;rfl):PS X (.For tg iter body [] pos) (vv wi g tb):=by
 intro pins s σ H D I h;refine wpAny_For (thn (hi pins s σ H _ I h) λv s1 h1=>thn h1 λitv s2 h2=>?_) hs;obtain⟨it,fp,tn,J,H2,e,I2,T,st2,f2,W,⟨m0,w0⟩,turn⟩:=h2;subst e
 -- what stays true of the iterator's objects through the loop
 have stat:∀{H':Hp},(∀b∈fp,H' b=none)->∀b∈fp,cQ X pins H' b:=λhn b hb=>⟨hn b hb,(f2 b hb).2⟩
 refine codeAny_forLoop_any (λn s'=>∃i σ' H',Inv X pins σ' H' s'/\tn i s'.heap/\(∀b∈fp,H' b=none)/\W i n σ' H') ?_ m0 ⟨0,σ,H2,I2,st2,λb hb=>(f2 b hb).1,w0⟩;rintro n s3 ⟨i,σ3,H3,I3,st3,fr3,w3⟩;rcases turn i n σ3 H3 w3 with ⟨stop,qn⟩|⟨go,N,hN,step⟩
 ·refine wpAny_passesOwn hp (thn (T.done X rfl rfl rfl hc i pins s3 σ3 H3 X.xe I3 (stat fr3) st3 stop) λr s4 ⟨hr,I4⟩=>?_);subst hr;exact wpAny_execs_nil ⟨σ3,H3,I4,qn⟩
 ·refine wpAny_passesOwn hp (thn (T.item X rfl rfl rfl hc i pins s3 σ3 H3 X.xe I3 (stat fr3) st3 go) λr s4 ⟨u,hr,h4⟩=>?_);subst hr;refine wpAny_passesOwn hp (thn h4 λ_ s5 ⟨x,H5,I5,r5,y5,st5,fr5⟩=>?_);have I5':=I5.pinned (stat fr5) (T.obj _ _ st5);refine wpAny_passesOwn hp (thn (hg _ s5 σ3 H5 x u _ I5' r5 (step x H5 y5)) λ_ s6 ⟨σ6,H6,I6,q6⟩=>?_);refine wpAny_passesOwn hp (thn (hb _ s6 σ6 H6 _ I6 q6) λf s7 q7=>?_);have again:∀{σ7:St}{H7:Hp},Inv X (pins++iB fp s5.heap) σ7 H7 s7->N σ7 H7->∃m,m<n/\∃i σ' H',Inv X pins σ' H' s7/\tn i s7.heap/\(∀b∈fp,H' b=none)/\W i m σ' H':=λ{σ7 H7} I7 n7=>by
   obtain⟨m',hm,w7⟩:=hN σ7 H7 n7;refine⟨m',hm,i+1,σ7,H7,I7.unpinned,T.keep _ _ _ st5 λb hb o e=>(I7.pin (b,o) (bT _ (bT _ (jt hb e)))).1,λb hb=>?_,w7⟩;obtain⟨o,e,d⟩:=T.obj _ _ st5 b hb;exact(I7.pin (b,o) (bT _ (bT _ (jt hb e)))).2.1
  cases f with
  |next=>obtain⟨σ7,H7,I7,n7⟩:=q7;exact again I7 n7
  |cont=>obtain⟨σ7,H7,I7,n7⟩:=q7;exact again I7 n7
  |brk=>obtain⟨σ7,H7,I7,q7⟩:=q7;exact⟨σ7,H7,I7.unpinned,q7⟩
  |ret v=>obtain⟨x7,σ7,H7,I7,r7,q7⟩:=q7;exact⟨x7,σ7,H7,I7.unpinned,r7,q7⟩
end
abbrev R2:=V->V->Hp->VK->Prop
noncomputable def OpR(X:Cx)(f:ae->ae->Sem ae)(r:R2):Prop:=
 ∀(pins:List (Addr×Obj)) (s:af) (σ:St) (H:Hp) (x y:V) (v u:ae) (Q:VK),Inv X pins σ H s->RelV x v->RelV y u->r x y H Q ->
  aj (ak X.prog X.w) X.A (f v u) (EP X pins σ Q) X.xe s
noncomputable def UnR(X:Cx)(f:ae->Sem ae)(r:V->Hp->VK->Prop):Prop:=
 ∀(pins:List (Addr×Obj)) (s:af) (σ:St) (H:Hp) (x:V) (v:ae) (Q:VK),Inv X pins σ H s->RelV x v->r x H Q ->
  aj (ak X.prog X.w) X.A (f v) (EP X pins σ Q) X.xe s
noncomputable def zm(X:Cx)(f:ae)(r:List V->Hp->VK->Prop):Prop:=
 ∀(pins:List (Addr×Obj)) (s:af) (σ:St) (H:Hp) (xs:List V) (us:List ae) (Q:VK),Inv X pins σ H s->Vals xs us->r xs H Q ->
  aj (ak X.prog X.w) X.A (call f us) (EP X pins σ Q) X.xe s
noncomputable def AD(X:Cx)(r:V->Hp->(Bool->Hp->Prop)->Prop):Prop:=
 ∀(pins:List (Addr×Obj)) (s:af) (σ:St) (H:Hp) (x:V) (v:ae) (Q:Bool->Hp->Prop),Inv X pins σ H s->RelV x v->r x H Q ->
  aj (ak X.prog X.w) X.A (truthy v) (TP X pins σ Q) X.xe s
noncomputable def tOp(r:R2)(ta tb:TE):TE:=λσ H Q=>ta σ H λx H1=>tb σ H1 λy H2=>r x y H2 Q
noncomputable def tUn(r:V->Hp->VK->Prop)(ta:TE):TE:=λσ H Q=>ta σ H λx H1=>r x H1 Q
noncomputable def rI(C:Int->Int->Prop)(g:Int->Int->V):R2:=λx y H Q=>∃i j,x=.int i/\y=.int j/\C i j/\Q (g i j) H
noncomputable def rI0(g:Int->Int->V):R2:=λx y H Q=>∃i j,x=.int i/\y=.int j/\Q (g i j) H
noncomputable def rU(g:Int->V):V->Hp->VK->Prop:=λx H Q=>∃i,x=.int i/\Q (g i) H
section
variable{X:Cx}{a b c:Expr}{ta tb tc:TE}{pos:Pos}
theorem lE(ha:PE X a ta)(hb:PE X b tb){pins:List (Addr×Obj)}{s:af}{σ:St}{H:Hp}{R:V->V->Hp->Prop}(I:Inv X pins σ H s)
  (h:ta σ H λx H1=>tb σ H1 λy H2=>R x y H2) {Q:ae->af->Prop}{f:ae->ae->Sem ae}
  (hf:∀v u s2 x y H2,Inv X pins σ H2 s2->RelV x v->RelV y u->R x y H2->aj (ak X.prog X.w) X.A (f v u) Q X.xe s2) :
  aj (ak X.prog X.w) X.A (eval a X.env) (λv s₁=>aj (ak X.prog X.w) X.A (eval b X.env) (λu s₂=>aj (ak X.prog X.w) X.A (f v u) Q X.xe s₂) X.xe s₁) X.xe s:=by
 refine thn (ha pins s σ H _ I h) λv s1 ⟨x,H1,I1,r1,q1⟩=>?_
 refine thn (hb pins s1 σ H1 _ I1 q1) λu s2 ⟨y,H2,I2,r2,q2⟩=>?_
 exact hf v u s2 x y H2 I2 r1 r2 q2
theorem p_{op:Operator}{r:R2}(ho:OpR X (binaryOp op) r)(ha:PE X a ta)(hb:PE X b tb):PE X (.BinOp a op b pos) (tOp r ta tb):=by
 intro pins s σ H Q I h;exact wpAny_BinOp (lE ha hb I h λv u s2 x y H2 I2 rx ry q=>ho pins s2 σ H2 x y v u Q I2 rx ry q)
theorem je{op:UnaryOp}{r:V->Hp->VK->Prop}(ho:UnR X (unaryOp op) r)(ha:PE X a ta):PE X (.UnaryOp op a pos) (tUn r ta):=by
 intro pins s σ H Q I h;exact UnaryOp_ (thn (ha pins s σ H _ I h) λv s1 ⟨x,H1,I1,r1,q1⟩=>ho pins s1 σ H1 x v Q I1 r1 q1)
theorem opI{f:ae->ae->Sem ae}{C:Int->Int->Prop}{g:Int->Int->Int}
  (rule:∀(i j:Int) (t u:Tok) (s:af) (Q:ae->af->Prop) (E:ae->af->Prop),C i j->Q (.int (g i j) s.toks) {s with toks:=s.toks+1}->aj (ak X.prog X.w) X.A (f (.int i t) (.int j u)) Q E s) :
  OpR X f (rI C λi j=>.int (g i j)):=by
 intro pins s σ H x y v u Q I rx ry h;obtain⟨i,j,rfl,rfl,hc,q⟩:=h;obtain⟨t,rfl⟩:=rx;obtain⟨t',rfl⟩:=ry;exact rule i j t t' s _ _ hc ⟨.int (g i j),H,I.tok _,⟨_,rfl⟩,q⟩
theorem oI{f:ae->ae->Sem ae}{g:Int->Int->Int}
  (rule:∀(i j:Int) (t u:Tok) (s:af) (Q:ae->af->Prop) (E:ae->af->Prop),Q (.int (g i j) s.toks) {s with toks:=s.toks+1}->aj (ak X.prog X.w) X.A (f (.int i t) (.int j u)) Q E s) :
  OpR X f (rI0 λi j=>.int (g i j)):=by
 intro pins s σ H x y v u Q I rx ry h;obtain⟨i,j,rfl,rfl,q⟩:=h;obtain⟨t,rfl⟩:=rx;obtain⟨t',rfl⟩:=ry;exact rule i j t t' s _ _ ⟨.int (g i j),H,I.tok _,⟨_,rfl⟩,q⟩
theorem iY{f:ae->ae->Sem ae}{g:Int->Int->Bool}
  (rule:∀(i j:Int) (t u:Tok) (s:af) (Q:ae->af->Prop) (E:ae->af->Prop),Q (.bool (g i j)) s->aj (ak X.prog X.w) X.A (f (.int i t) (.int j u)) Q E s) :
  OpR X f (rI0 λi j=>.bl (g i j)):=by
 intro pins s σ H x y v u Q I rx ry h;obtain⟨i,j,rfl,rfl,q⟩:=h;obtain⟨t,rfl⟩:=rx;obtain⟨t',rfl⟩:=ry;exact rule i j t t' s _ _ ⟨.bl (g i j),H,I,rfl,q⟩
noncomputable def sY(i j:Int):Prop:=0<=j/\j<=1000000/\i.natAbs<2^64
noncomputable def la(i j:Int):Prop:=(-(2^64)<i/\i<2^64)\/(-(2^64)<j/\j<2^64)
theorem la.ok{i j:Int}(h:la i j):IntMulOk i j:=by
 rcases h with ⟨h1,h2⟩|⟨h1,h2⟩
 ·exact .of_left (intBits_le_64 h1 h2)
 ·exact .of_right (intBits_le_64 h1 h2)
theorem Aj(k:Nat):(0:Int)<=2^k:=by
 rw[two_pow_cast];exact Int.natCast_nonneg _
theorem Dm:OpR X (binaryOp .Add) (rI0 λi j=>.int (i+j)):=oI λ_ _ _ _ _ _ _ q=>add_int q
theorem CA:OpR X (binaryOp .Sub) (rI0 λi j=>.int (i-j)):=oI λ_ _ _ _ _ _ _ q=>sub_int q
theorem Bv:OpR X (binaryOp .Mult) (rI la λi j=>.int (i * j)):=opI λ_ _ _ _ _ _ _ hc q=>mul_int q hc.ok
theorem wB:OpR X (binaryOp .Mod) (rI (λ_ j=>0<j) λi j=>.int (i%j)):=opI λi j _ _ _ _ _ hc q=>by
 have h1:(0:Int)<j:=hc;exact mod_int' (by lia) (by rw[Int.fmod_eq_emod_of_nonneg i (by lia)];exact q)
theorem vS:OpR X (binaryOp .Pow) (rI sY λi j=>.int (i^j.toNat)):=opI λ_ _ _ _ _ _ _ hc q=>pow_int_small hc.1 hc.2.1 hc.2.2 q
theorem sS:OpR X (binaryOp .RShift) (rI (λ_ j=>0<=j) λi j=>.int (i/2^j.toNat)):=opI λi j _ _ _ _ _ hc q=>
 rshift_int hc (by rw[Int.fdiv_eq_ediv_of_nonneg i (Aj _)];exact q)
theorem unI{f:ae->Sem ae}{g:Int->Int}
  (rule:∀(i:Int) (t:Tok) (s:af) (Q:ae->af->Prop) (E:ae->af->Prop),Q (.int (g i) s.toks) {s with toks:=s.toks+1}->aj (ak X.prog X.w) X.A (f (.int i t)) Q E s) :
  UnR X f (rU λi=>.int (g i)):=by
 intro pins s σ H x v Q I rx h;obtain⟨i,rfl,q⟩:=h;obtain⟨t,rfl⟩:=rx;exact rule i t s _ _ ⟨.int (g i),H,I.tok _,⟨_,rfl⟩,q⟩
theorem jb:UnR X (unaryOp .USub) (rU λi=>.int (-i)):=unI λ_ _ _ _ _ q=>neg_int q
end
section
variable{X:Cx}{a b c:Expr}{ta tb tc:TE}{pos:Pos}
theorem gD{pins:List (Addr×Obj)}{σ:St}{H:Hp}{s:af}{Q:VK}{k k':Bool}(I:Inv X pins σ H s)(q:Q (.bl k) H)(e:k=k'):EP X pins σ Q (.bool k') s:=by
 subst e;exact⟨.bl k,H,I,rfl,q⟩
theorem xX:OpR X (aW .Lt) (rI0 λi j=>.bl (decide (i<j))):=iY λ_ _ _ _ _ _ _ q=>lt_int q
theorem uk:OpR X (aW .LtE) (rI0 λi j=>.bl (decide (i<=j))):=iY λ_ _ _ _ _ _ _ q=>le_int q
theorem Bo:OpR X (aW .Gt) (rI0 λi j=>.bl (decide (j<i))):=iY λ_ _ _ _ _ _ _ q=>gt_int q
theorem tw:OpR X (aW .GtE) (rI0 λi j=>.bl (decide (j<=i))):=iY λ_ _ _ _ _ _ _ q=>ge_int q
theorem sE:OpR X (aW .In) (λx y H Q=>∃i j,x=.str i/\y=.str j/\Q (.bl (!(Builtin.Str.occurrences j i 0 j.length 1).isEmpty)) H):=by
 intro pins s σ H x y v u Q I rx ry h;obtain⟨i,j,rfl,rfl,q⟩:=h;obtain⟨t,rfl⟩:=rx;obtain⟨t',rfl⟩:=ry;exact in_str (gD I q rfl)
theorem vi:OpR X (aW .Is) (λx y H Q=>y=.non/\Q (.bl (decide (x=.non))) H):=by
 intro pins s σ H x y v u Q I rx ry h;obtain⟨rfl,q⟩:=h;cases ry;refine is_none_gen (gD I q ?_);cases x<;>first
  | (cases rx;rfl)
  | (obtain⟨t,rfl⟩:=rx;rfl)
theorem Bp:OpR X (aW .IsNot) (λx y H Q=>y=.non/\Q (.bl (!decide (x=.non))) H):=by
 intro pins s σ H x y v u Q I rx ry h;obtain⟨rfl,q⟩:=h;cases ry;refine isnot_none_gen (gD I q ?_);cases x<;>first
  | (cases rx;rfl)
  | (obtain⟨t,rfl⟩:=rx;rfl)
theorem wc:OpR X (aW .NotIn) (λx y H Q=>∃i j,x=.str i/\y=.str j/\Q (.bl (!(!(Builtin.Str.occurrences j i 0 j.length 1).isEmpty))) H):=by
 intro pins s σ H x y v u Q I rx ry h;obtain⟨i,j,rfl,rfl,q⟩:=h;obtain⟨t,rfl⟩:=rx;obtain⟨t',rfl⟩:=ry;exact notIn_str (gD I q rfl)
theorem OpR.or{f:ae->ae->Sem ae}{r r':R2}(h:OpR X f r)(h':OpR X f r'):OpR X f (λx y H Q=>r x y H Q\/r' x y H Q):=by
 intro pins s σ H x y v u Q I rx ry q;rcases q with q|q
 ·exact h pins s σ H x y v u Q I rx ry q
 ·exact h' pins s σ H x y v u Q I rx ry q
theorem vY{op:CmpOp}{r:R2}(ho:OpR X (aW op) r)(ha:PE X a ta)(hb:PE X b tb)(hm:behindInMarks op b=false):PE X (.Compare a [op] [b] pos) (tOp r ta tb):=by
 intro pins s σ H Q I h;exact wpAny_Compare1 (lE ha hb I h λv u s2 x y H2 I2 rx ry q=>ho pins s2 σ H2 x y v u Q I2 rx ry q) hm
noncomputable def jU(t:TE):TT:=λσ H Q=>t σ H λx H'=>∃k,x=.bl k/\Q k H'
theorem wX{op:CmpOp}{r:R2}(ho:OpR X (aW op) r)(ha:PE X a ta)(hb:PE X b tb)(hm:behindInMarks op b=false):PT X (.Compare a [op] [b] pos) (jU (tOp r ta tb)):=by
 intro pins s σ H Q I h;refine wpAny_isTrue_Compare1 (thn (ha pins s σ H _ I h) λv s1 ⟨x,H1,I1,r1,q1⟩=>thn (hb pins s1 σ H1 _ I1 q1) λu s2 ⟨y,H2,I2,r2,q2⟩=>
  thn (ho pins s2 σ H2 x y v u _ I2 r1 r2 q2) λc s3 ⟨z,H3,I3,r3,k,e,q3⟩=>?_) hm
 subst e;cases r3;exact bB ⟨H3,I3,q3⟩
noncomputable def o8(r r':R2)(ta tb tc:TE):TE:=λσ H Q=>ta σ H λx H1=>tb σ H1 λy H2=>r x y H2 λz H3=>∃k,z=.bl k /\
 (if k=true then tc σ H3 λw' H4=>r' y w' H4 Q else Q (.bl false) H3)
theorem Dz{op op':CmpOp}{r r':R2}(ho:OpR X (aW op) r)(ho':OpR X (aW op') r')(ha:PE X a ta)(hb:PE X b tb)(hc:PE X c tc)
  (hm:lastMarks [op,op'] [b,c]=false:=by with_unfolding_all rfl):PE X (.Compare a [op,op'] [b,c] pos) (o8 r r' ta tb tc):=by
 intro pins s σ H Q I h;refine Compare_chain (thn (ha pins s σ H _ I h) λv s1 ⟨x,H1,I1,r1,q1⟩=>chain_link (thn (hb pins s1 σ H1 _ I1 q1) λu s2 ⟨y,H2,I2,r2,q2⟩=>
  thn (ho pins s2 σ H2 x y v u _ I2 r1 r2 q2) λd s3 ⟨z,H3,I3,r3,k,e,q3⟩=>?_)) hm
 subst e;cases r3;refine bB ?_;cases k with
 |false=>exact ite_ff ⟨.bl false,H3,I3,rfl,q3⟩
 |true=>exact ite_tt (chain_last (thn (hc pins s3 σ H3 _ I3 q3) λw' s4 ⟨z',H4,I4,r4,q4⟩=>ho' pins s4 σ H4 y z' u w' Q I4 r2 r4 q4))
theorem Dj{op op':CmpOp}{r r':R2}(ho:OpR X (aW op) r)(ho':OpR X (aW op') r')(ha:PE X a ta)(hb:PE X b tb)(hc:PE X c tc)
  (hm:lastMarks [op,op'] [b,c]=false:=by with_unfolding_all rfl):PT X (.Compare a [op,op'] [b,c] pos) (jU (o8 r r' ta tb tc)):=by
 intro pins s σ H Q I h;refine isTrue_chain (thn (ha pins s σ H _ I h) λv s1 ⟨x,H1,I1,r1,q1⟩=>test_link (thn (hb pins s1 σ H1 _ I1 q1) λu s2 ⟨y,H2,I2,r2,q2⟩=>
  thn (ho pins s2 σ H2 x y v u _ I2 r1 r2 q2) λd s3 ⟨z,H3,I3,r3,k,e,q3⟩=>?_)) hm
 subst e;cases r3;refine bB ?_;cases k with
 |false=>
  obtain⟨k',e',q'⟩:=q3;cases e';exact ite_ff ⟨H3,I3,q'⟩
 |true=>
  refine ite_tt (test_last (thn (hc pins s3 σ H3 _ I3 q3) λw' s4 ⟨z',H4,I4,r4,q4⟩=>thn (ho' pins s4 σ H4 y z' u w' _ I4 r2 r4 q4) λd' s5 ⟨z2,H5,I5,r5,k2,e2,q5⟩=>?_));subst e2;cases r5;exact bB ⟨H5,I5,q5⟩
noncomputable def kR(K:av)(x:V)(H:Hp)(k:Bool):Prop:=
 match x with
 | .non=>k=false
 | .bl b=>k=b
 | .int i=>k=(i != 0)
 | .str y=>y.length<=aI/\k=((y.length:Int) != 0)
 | .byt y=>y.size<=aI/\k=((y.size:Int) != 0)
 | .ref p=>(∃xs,SqL K H p xs/\k = !xs.isEmpty)\/(∃xs,SqT K H p xs/\k = !xs.isEmpty)\/∃kvs,H p=some (.dK kvs)/\k = !kvs.isEmpty
 |_=>False
theorem yi{κ:Type}{kvs:List (κ×V)}{vs:List (κ×ae)}(r:KV kvs vs):(!vs.isEmpty) = !kvs.isEmpty:=by
 cases r<;>rfl
theorem mh{xs:List V}{its:List ae}(r:Vals xs its):(!its.toArray.isEmpty) = !xs.isEmpty:=by
 cases r<;>simp
theorem fo:(aI:Nat)<2^63:=by rw[bp];decide
theorem DK:AD X (λx H Q=>∃k,kR X.K x H k/\Q k H):=by
 intro pins s σ H x v Q I rx h;obtain⟨k,e,q⟩:=h;have hl:=fo;have hs:aI=16777216:=bp;cases x with
 |non=>
  cases rx;have e':k=false:=e;subst e';exact truthy_none ⟨H,I,q⟩
 |bl b=>
  cases rx;have e':k=b:=e;subst e';exact bB ⟨H,I,q⟩
 |int i=>
  obtain⟨t,rfl⟩:=rx;have e':k=(i != 0):=e;subst e';exact PySem.P.truthy_int ⟨H,I,q⟩
 |str y=>
  obtain⟨t,rfl⟩:=rx;obtain⟨hy,e'⟩:y.length<=aI/\k=((y.length:Int) != 0):=e;subst e';exact PySem.P.truthy_str (by lia) ⟨H,I.tok _,q⟩
 |byt y=>
  obtain⟨t,rfl⟩:=rx;obtain⟨hy,e'⟩:y.size<=aI/\k=((y.size:Int) != 0):=e;subst e';exact PySem.W.truthy_bytes (by lia) ⟨H,I.tok _,q⟩
 |ref p=>
  cases rx;have e':(∃xs,SqL X.K H p xs/\k = !xs.isEmpty)\/(∃xs,SqT X.K H p xs/\k = !xs.isEmpty)\/∃kvs,H p=some (.dK kvs)/\k = !kvs.isEmpty:=e;rcases e' with ⟨xs,hx,e'⟩|⟨xs,hx,e'⟩|⟨kvs,hx,e'⟩
  ·subst e';obtain⟨its,r,pl,hz⟩:=I.list hx;have hlen:=r.length;exact wpAny_truthy_list pl.isList (by simp only[aL];lia) ⟨H,I.tok _,by rw[mh r];exact q⟩
  ·subst e';obtain⟨its,r,pl,hz⟩:=I.tuple hx;have hlen:=r.length;exact truthy_tuple pl (by simp only[aL];lia) ⟨H,I.tok _,by rw[mh r];exact q⟩
  ·subst e';obtain⟨hz,hS,vs,r,m⟩:kvs.length<=aI/\(p==sysModules)=false/\∃vs,KV kvs vs/\s.heap.DictOf (lH X.prog X.w) p vs:=I.hok p _ hx;have hlen:kvs.length=vs.length:=Paired.length r;exact wpAny_truthy_dict hS m (by lia) ⟨H,I.tok _,by rw[yi r];exact q⟩
 |_=>exact(show False from e).elim
theorem r8(ha:PE X a ta)(he:∀whole,isTrue a X.env whole=(do let v <-whole;standAt a.pos;holding [v] (truthy v))) :
  PT X a (λσ H Q=>ta σ H λx H'=>∃k,kR X.K x H' k/\Q k H'):=by
 intro pins s σ H Q I h;exact isTrue_plain (thn (ha pins s σ H _ I h) λv s1 ⟨x,H1,I1,r1,q1⟩=>DK pins s1 σ H1 x v Q I1 r1 q1) (he _)
theorem rG:OpR X (binaryOp .Add) (λx y H Q=>∃i j,x=.str i/\y=.str j/\i.length+j.length<=aI/\Q (.str (i++j)) H):=by
 intro pins s σ H x y v u Q I rx ry h;obtain⟨i,j,rfl,rfl,hz,q⟩:=h;obtain⟨t,rfl⟩:=rx;obtain⟨t',rfl⟩:=ry;exact add_str (λt' tk=>⟨.str (i++j),H,I.tok _,⟨_,rfl⟩,q⟩) hz
theorem vals1{x:V}{us:List ae}(r:Vals [x] us):∃u,us=[u]/\RelV x u:=by
 cases r with
 |cons r1 r2=>cases r2;exact⟨_,rfl,r1⟩
theorem vals2{x y:V}{us:List ae}(r:Vals [x,y] us):∃u w',us=[u,w']/\RelV x u/\RelV y w':=by
 cases r with
 |cons r1 r2=>
  cases r2 with
  |cons r3 r4=>cases r4;exact⟨_,_,rfl,r1,r3⟩
theorem uw(hc:X.calm=true):zm X (.builtin "max") (λxs H Q=>∃i j,xs=[.int i,.int j]/\Q (.int (if j>i then j else i)) H):=by
 intro pins s σ H xs us Q I r h;obtain⟨i,j,rfl,q⟩:=h;obtain⟨u,w',rfl,⟨t,rfl⟩,⟨t',rfl⟩⟩:=vals2 r;refine max_two_ints (I.ok.hd hc) λh' tk k=>⟨_,H,I.kept k,?_,q⟩
 by_cases hj:j>i
 ·rw[if_pos hj,if_pos hj];exact⟨_,rfl⟩
 ·rw[if_neg hj,if_neg hj];exact⟨_,rfl⟩
theorem wR(hc:X.calm=true):zm X (.builtin "min") (λxs H Q=>∃i j,xs=[.int i,.int j]/\Q (.int (if j<i then j else i)) H):=by
 intro pins s σ H xs us Q I r h;obtain⟨i,j,rfl,q⟩:=h;obtain⟨u,w',rfl,⟨t,rfl⟩,⟨t',rfl⟩⟩:=vals2 r;refine min_two_ints (I.ok.hd hc) λh' tk k=>⟨_,H,I.kept k,?_,q⟩
 by_cases hj:j<i
 ·rw[if_pos hj,if_pos hj];exact⟨_,rfl⟩
 ·rw[if_neg hj,if_neg hj];exact⟨_,rfl⟩
theorem w_:zm X (.type "int") (λxs H Q=>(∃i,xs=[.int i]/\Q (.int i) H)\/∃k,xs=[.bl k]/\Q (.int (if k then 1 else 0)) H):=by
 intro pins s σ H xs us Q I r h;rcases h with ⟨i,rfl,q⟩|⟨k,rfl,q⟩
 ·obtain⟨u,rfl,t,rfl⟩:=vals1 r;exact call_int_int ⟨.int i,H,I,⟨_,rfl⟩,q⟩
 ·obtain⟨u,rfl,r1⟩:=vals1 r;cases r1;exact call_int_bool ⟨.int (if k then 1 else 0),H,I.tok _,⟨_,rfl⟩,q⟩
theorem uM:zm X (.type "str") (λxs H Q=>∃i,xs=[.int i]/\i.natAbs.log2<1920/\Q (.str (toString i)) H):=by
 intro pins s σ H xs us Q I r h;obtain⟨i,rfl,hz,q⟩:=h;obtain⟨u,rfl,t,rfl⟩:=vals1 r;exact PySem.P.str_of_int hz ⟨.str _,H,I.tok _,⟨_,rfl⟩,q⟩
end
structure jT(h:Heap)(x dx C:Addr)(mA:Str->Option ae):Prop where
 obj:h.get? x=some (PySem.W.instObj C dx)
 ns:h.Ns1 dx mA
 ne:dx≠x
theorem tP{h:Heap}{dx:Addr}{mA:Str->Option ae}(n:h.Ns1 dx mA):∃od,h.get? dx=some od/\∀name,PySem.W.lookIn name od=some (mA name):=by
 obtain⟨o,es,ep,ho,hd,hk,_,hm⟩:=n;refine⟨o,ho,λname=>?_⟩;have e:=hm name;unfold nsFind findBy at e;rw[<-Array.find?_toList]at e;unfold PySem.W.lookIn;rw[hd];dsimp only;split
 ·rename_i y q
  rw[q]at e;exact congrArg some e
 ·rename_i q
  rw[q]at e;have a:es.toList.any (·.refKey)=false:=by
   rw[List.any_eq_false];intro y hy;obtain⟨z,t,hkey⟩:=hk y (Array.mem_toList_iff.mp hy);simp[DictEntry.refKey,hkey]
  have a':¬ es.toList.any (·.refKey)=true:=by rw[a];exact b6
  rw[if_neg a'];exact congrArg some e
theorem jT.look{h:Heap}{x dx C:Addr}{mA:Str->Option ae}(I:jT h x dx C mA):∃od,PySem.W.InstAt h x (PySem.W.instObj C dx) C (some od)/\∀name,PySem.W.lookIn name od=some (mA name):=
 let ⟨od,ho,hl⟩:=tP I.ns
 ⟨od,⟨I.obj,rfl,rfl,ho⟩,hl⟩
section
variable{prog:ay}{w:au}{A:ax}{E:ae->af->Prop}{s:af}{K:av}{x dx C f:Addr}{mA:Str->Option ae}{name:Str}{v:ae}
end
section
variable{P:ay}{w:au}{H H':Hp}{h h':Heap}{a C dx:Addr}{fs fs':List (Str×V)}
theorem A0(hok:HOk P w H h)(e:H a=some (.ins C dx fs)):∃mA,jT h a dx C mA/\(∀f,lN (fs.lookup f) (mA f))/\PySem.Within mA (fs.map (·.1))/\fs.length<=1000/\H dx=some (.own a):=by
 obtain⟨d,z,ne,ob,mA,n,r,q⟩:=(show zM P w H h a (.ins C dx fs)from hok a _ e)
 exact⟨mA,⟨ob,n,ne⟩,r,q,z,d⟩
end
structure Cls(K:av)(C:Addr):Prop where
 pg:PySem.W.plainGet K C Str.empty=true
 hd:PySem.W.hasDictIn K C=true
 po:PySem.W.plainOver K C=true
 sa:PySem.W.findIn K (.ref C) "__setattr__" = some (some (.builtin "object.__setattr__"))
theorem Cls.get{K:av}{C:Addr}(c:Cls K C)(f:Str):PySem.W.plainGet K C f=true:=c.pg
section
variable{X:Cx}{pins:List (Addr×Obj)}{σ:St}{H:Hp}{s:af}{a C dx:Addr}{fs:List (Str×V)}{f:Str}{v:V}{A:ax}{E:ae->af->Prop}
end
section
variable{X:Cx}{o e value:Expr}{f:Str}{pos pos' tpos:Pos}{ta tv:TE}
end
section
variable{X:Cx}{pins:List (Addr×Obj)}{σ:St}{H:Hp}{s:af}{A:ax}{E:ae->af->Prop}{Q:ae->af->Prop}{c:ae}{b:Bool}
inductive cZ(K:av)(H:Hp):V->ae->Prop where
 |non:cZ K H .non (.type "NoneType")
 |bl (x:Bool):cZ K H (.bl x) (.type "bool")
 |int (i:Int):cZ K H (.int i) (.type "int")
 |str (x:Str):cZ K H (.str x) (.type "str")
 |flt (x:UInt64):cZ K H (.flt x) (.type "float")
 |lst {a:Addr}{xs:List V} (e:H a=some (.lst xs)):cZ K H (.ref a) (.type "list")
 |frz {a:Addr}{o:Obj}{xs:List V} (e:H a=some (.frz o (.lst xs))):cZ K H (.ref a) (.type "list")
 |tup {a:Addr}{xs:List V} (e:H a=some (.tup xs)):cZ K H (.ref a) (.type "tuple")
 |dK {a:Addr}{kvs:List (Key×V)} (e:H a=some (.dK kvs)):cZ K H (.ref a) (.type "dict")
 |dT {a:Addr}{kvs:List (List Key×V)} (e:H a=some (.dT kvs)):cZ K H (.ref a) (.type "dict")
 |ins {a C dx:Addr}{fs:List (Str×V)} (e:H a=some (.ins C dx fs)) (cl:Cls K C) (ha:PySem.W.findIn K (.ref C) "__class__" = some (some (.builtin "object.__class__")))
   (hn:PySem.W.specialIn K (.builtin "object.__class__") "__get__" = some (some (.builtin "getset_descriptor.__get__"))) (htk:PySem.W.takesIn K (.builtin "object.__class__")=some true)
   (hm:PySem.W.mroIn K C (.type "object")=some true):cZ K H (.ref a) (.ref C)
theorem fW{x:V}{u t:ae}(I:Inv X pins σ H s)(rx:RelV x u)(ty:cZ X.K H x t)(e:bc X.K t c=some b)(h:∀tk,Q (.bool b) {s with toks:=tk}) :
  aj (ak X.prog X.w) A (call (.builtin "isinstance") [u,c]) Q E s:=by
 cases ty with
 |non=>cases (show u=bA from rx);exact bC PySem.W.kitx_none I.kIn True.intro e (λz=>nomatch z) h
 |bl y=>cases (show u=bu y from rx);exact bC PySem.W.kitx_bool I.kIn True.intro e (λz=>nomatch z) h
 |int i=>obtain⟨t,q⟩:=(show ∃t,u=ae.int i t from rx);cases q;exact bC PySem.W.kitx_int I.kIn True.intro e (λz=>nomatch z) h
 |str y=>obtain⟨t,q⟩:=(show ∃t,u=ae.str y t from rx);cases q;exact bC PySem.W.kitx_str I.kIn True.intro e (λz=>nomatch z) h
 |flt y=>obtain⟨t,q⟩:=(show ∃t,u=ae.float y t from rx);cases q;exact bC PySem.W.kitx_float I.kIn True.intro e (λz=>nomatch z) h
 | @lst a xs ea=>
  cases (show u=bf a from rx);obtain⟨_,_,n,_,h1⟩:=(show zM X.prog X.w H s.heap a (.lst xs)from I.hok a _ ea)
  exact bC PySem.W.kitx_list I.kIn ⟨_,h1,rfl⟩ e (λz=>nomatch z) h
 | @frz a ob xs ea=>
  cases (show u=bf a from rx);obtain⟨_,_,_,n,_,h1⟩:=(show zM X.prog X.w H s.heap a (.frz ob (.lst xs))from I.hok a _ ea)
  exact bC PySem.W.kitx_list I.kIn ⟨_,h1,rfl⟩ e (λz=>nomatch z) h
 | @tup a xs ea=>
  cases (show u=bf a from rx);obtain⟨_,_,_,p⟩:=(show zM X.prog X.w H s.heap a (.tup xs)from I.hok a _ ea)
  obtain⟨o,h1,h2,_⟩:=p;exact bC PySem.W.kitx_tuple I.kIn ⟨o,h1,h2⟩ e (λz=>nomatch z) h
 | @dK a kvs ea=>
  cases (show u=bf a from rx);obtain⟨_,_,vs,_,p⟩:=(show zM X.prog X.w H s.heap a (.dK kvs)from I.hok a _ ea)
  obtain⟨o,es,ep,h1,h2,_⟩:=p;exact bC PySem.W.kitx_dict I.kIn ⟨o,h1,h2.1⟩ e (λz=>nomatch z) h
 | @dT a kvs ea=>
  cases (show u=bf a from rx);obtain⟨_,_,xs,_,o,es,ep,h1,h2,_⟩:=(show zM X.prog X.w H s.heap a (.dT kvs)from I.hok a _ ea)
  exact bC PySem.W.kitx_dict I.kIn ⟨o,h1,h2.1⟩ e (λz=>nomatch z) h
 | @ins a C dx fs ea cl ha hn htk hm=>
  cases (show u=bf a from rx);obtain⟨mA,O,_⟩:=A0 I.hok ea;obtain⟨od,J,_⟩:=O.look;exact bC (PySem.W.kitx_own (cl.get _) cl.hd ha hn htk hm) I.kIn J e (λz=>nomatch z) h
end
structure bW(k:Nat)(A:ax):Prop where
 hd:A.handled=none
 dp:A.depth+3 * k+5<recursionLimit
 un:A.units+16 * k+200<cLine
theorem bW.deeper{k:Nat}{A:ax}(r:bW (k+1) A)(env:Env):bW k (A.deeper env):=
 ⟨r.hd,by have:=r.dp;show A.depth+1+3 * k+5<_;lia,by have:=r.un;show A.units+3+16 * k+200<_;lia⟩
theorem bW.depth{k:Nat}{A:ax}(r:bW k A):A.depth<recursionLimit:=by have:=r.dp;lia
theorem bW.units{k:Nat}{A:ax}(r:bW k A):A.units+64<cLine:=by have:=r.un;lia
noncomputable def fX:TA:=λ_ H Q=>Q [] H
noncomputable def fw(ta:TE)(tr:TA):TA:=λσ H Q=>ta σ H λx H1=>tr σ H1 λxs H2=>Q (x::xs) H2
section
variable{X:Cx}{e:Expr}{es:List Expr}{te:TE}{t:TA}{pos:Pos}
theorem zK:PA X [] fX:=λ_ _ _ _ H Q I h=>Calls.spliced_nil ⟨[],H,I,.nil,h⟩
theorem zr(ha:PE X e te)(hr:PA X es t)(hs:aP (e::es) X.env=(false,eval e X.env)::aP es X.env:=by rfl):PA X (e::es) (fw te t):=by
 intro pos pins s σ H Q I h;rw[hs];show aj _ _ (spliced ((false,eval e X.env)::backTo pos (aP es X.env))) _ _ s;refine Calls.spliced_cons (thn (ha pins s σ H _ I h) λu s1 ⟨x,H1,I1,r1,q1⟩=>?_);exact thn (hr pos pins s1 σ H1 _ I1 q1) λus s2 ⟨xs,H2,I2,r2,q2⟩=>⟨x::xs,H2,I2,.cons r1 r2,q2⟩
noncomputable def Di(t:TA):TE:=λσ H Q=>t σ H λxs H1=>xs.length<=aI/\∀p,H1 p=none->Q (.ref p) (upd H1 p (.tup xs))
noncomputable def Ci(t:TA):TE:=λσ H Q=>t σ H λxs H1=>xs.length<=aI/\∀p,H1 p=none->Q (.ref p) (upd H1 p (.lst xs))
theorem uY{x1}(h:PA X es t):PE X (.Tuple es x1 pos) (Di t):=by
 intro pins s σ H Q I hq;refine wpAny_Tuple_spliced (thn (h pos pins s σ H _ I hq) λus s1 ⟨xs,H1,I1,r,z,q⟩=>⟨by rw[<-r.length];exact z,?_⟩);have hf:H1 s1.heap.objs.size=none:=I1.hok.fresh (az _);refine⟨.ref s1.heap.objs.size,upd H1 s1.heap.objs.size (.tup xs),I1.laid (t':=s1.toks) (λb u e=>Heap.get?_push_of_some _ e) (az _) ?_,rfl,q _ hf⟩;exact⟨z,us,r,⟨_,Heap.get?_push_size _ rfl,rfl,_,rfl⟩⟩
theorem vM(h:PA X es t):PE X (.List es pos) (Ci t):=by
 intro pins s σ H Q I hq;refine wpAny_List_spliced (thn (h pos pins s σ H _ I hq) λus s1 ⟨xs,H1,I1,r,z,q⟩=>⟨by rw[<-r.length];exact z,?_⟩);have hf:H1 s1.heap.objs.size=none:=I1.hok.fresh (az _);refine⟨.ref s1.heap.objs.size,upd H1 s1.heap.objs.size (.lst xs),I1.laid (t':=s1.toks) (λb u e=>Heap.get?_push_of_some _ e) (az _) ?_,rfl,q _ hf⟩;exact⟨z,us,0,r,Heap.get?_push_size _ rfl⟩
end
abbrev Sp:=List V->Hp->VK->XK->Prop
abbrev CXT:=List Env->Hp->af->XK->ae->af->Prop
structure fG(P:ay)(w:au)(K:av)(mg:Str->Option ae)(base:Heap)(A:ax)(outer:List Env)(s:af)(H:Hp):Prop where
 frames:A.frames=some outer
 mod:Mod K mg base
 bs:∀b o,base.get? b=some o->s.heap.get? b=some o/\H b=none
 bsz:base.objs.size<=s.heap.objs.size
 funs:s.heap.FunFrames base outer
 frf:∀b∈frs outer,H b=none
 hok:HOk P w H s.heap
 bare:AllBare s.gens
noncomputable def CE(outer:List Env)(P:ay)(w:au)(H:Hp)(s:af)(Q:VK)(u:ae)(s':af):Prop:=
 ∃v H',s'.os=s.os/\AllBare s'.gens/\Un (frs outer) [] H H' s.heap s'.heap/\HOk P w H' s'.heap/\RelV v u/\Q v H'
noncomputable def CR(CX:CXT)(outer:List Env)(P:ay)(w:au)(H:Hp)(s:af)(Q:VK)(E:XK)(r:Result)(s':af):Prop:=
 match r with
 | .ok (.ret u)=>CE outer P w H s Q u s'
 | .ok _=>False
 | .error e=>CX outer H s E e s'
structure eV(P:ay)(w:au)(K:av)(mg:Str->Option ae)(base:Heap)(CX:CXT)(k:Nat)(f:Addr)(fd:bw)(ps:List Str)(sp:Sp):Prop where
 len:∀vs H Q E,sp vs H Q E->vs.length=ps.length
 run:∀(A:ax) (outer:List Env) (s:af) (H:Hp) (args:Args) (us:List ae) (vs:List V) (Q:VK) (E:XK),bW k A->fG P w K mg base A outer s H->BindsTo s fd args (ps.zip us)->Vals vs us->sp vs H Q E ->
  codeAny (ak P w) A (.call (.ref f) args) (CR CX outer P w H s Q E) s
section
variable{X:Cx}{pins:List (Addr×Obj)}{σ:St}{H:Hp}{s s':af}
theorem Inv.env0(I:Inv X pins σ H s):fG X.prog X.w X.K X.mg X.base X.A X.stack s H:=
 ⟨I.ok.frames,I.ok.mod,I.bs,aX I.ok.bsz I.sz,I.stack,I.stkFree,I.hok,I.bare⟩
theorem Inv.after{Q:VK}{u:ae}(I:Inv X pins σ H s)(h:CE X.stack X.prog X.w H s Q u s'):EP X pins σ Q u s':=by
 obtain⟨v,H',os,bare,un,hok,r,q⟩:=h;obtain⟨hh,g,d,t,os'⟩:=s';obtain rfl:os'=s.os:=os;exact⟨v,H',I.call (h':=hh) (g':=g) (d':=d) (t':=t) (ch:=[]) un hok bare (λb z=>absurd z (by simp)),r,q⟩
end
noncomputable def kL(sp:Sp)(dvs:List V)(E:XK)(t:TA):TE:=λσ H Q=>t σ H λvs H1=>sp (vs++dvs) H1 Q E
noncomputable def Binds(K:av)(fd:bw)(ps:List Str)(ds:List ae):Prop:=
 ∀(s:af) (us:List ae),K.In s.heap->(us++ds).length=ps.length->BindsTo s fd ⟨us,[]⟩ (ps.zip (us++ds))
theorem Binds.all{K:av}{fd:bw}{ps:List Str}(h:∀us:List ae,us.length=ps.length->bindArgs fd ⟨us,[]⟩=pure (ps.zip us)):Binds K fd ps []:=λs us _ hl=>by
 rw[List.append_nil]at hl ⊢;exact .of_eq (h us hl)
noncomputable def Passes(CX:CXT)(X:Cx)(E:XK):Prop:=∀(pins:List (Addr×Obj)) (σ:St) (H:Hp) (s:af) (e:ae) (s':af),Inv X pins σ H s->CX X.stack H s E e s'->X.xe e s'
section
variable{X:Cx}{CX:CXT}{k:Nat}{f C:Addr}{fd:bw}{ps:List Str}{sp:Sp}{dvs:List V}{ds:List ae}{E:XK}{x m:Str}{p pos apos:Pos}{e o:Expr}{es:List Expr}{ta:TE}{t:TA}
theorem x6{pins:List (Addr×Obj)}{σ:St}{H:Hp}{s:af}{Q:VK}{us:List ae}{vs:List V}(F:eV X.prog X.w X.K X.mg X.base CX k f fd ps sp)(hr:bW k X.A)(hb:Binds X.K fd ps ds)(hd:Vals dvs ds)(hx:Passes CX X E)
  (I:Inv X pins σ H s) (r:Vals vs us) (h:sp (vs++dvs) H Q E):aj (ak X.prog X.w) X.A (call (.ref f) us) (EP X pins σ Q) X.xe s:=by
 have r2:Vals (vs++dvs) (us++ds):=r.append hd;have hl:(us++ds).length=ps.length:=by rw[<-r2.length];exact F.len _ _ _ _ h
 refine wpAny_call (cb (F.run X.A X.stack s H ⟨us,[]⟩ (us++ds) (vs++dvs) Q E hr I.env0 (hb s us I.kIn hl) r2 h) λr s' hq=>?_);cases r with
 |error e=>exact hx pins σ H s e s' I hq
 |ok fl=>
  cases fl with
  |ret u=>exact I.after hq
  |next=>exact aS hq
  |brk=>exact aS hq
  |cont=>exact aS hq
theorem yP(F:eV X.prog X.w X.K X.mg X.base CX k f fd ps sp)(hr:bW k X.A)(hg:Gl X x)(hm:X.mg x=some (.ref f))(hk:b9 X.K (.ref f)=true)(hb:Binds X.K fd ps ds)(hd:Vals dvs ds)(hx:Passes CX X E)
  (ha:PA X (e::es) t) (hdb:(x==("__debug__" : Str))=false:=by decide) (he:aP (e::es) X.env=(false,eval e X.env)::aP es X.env:=by rfl) (hpl:(backTo pos (aP es X.env)).any (·.1)=false:=by rfl) :
  PE X (.Call (.Name x p) (e::es) [] pos) (kL sp dvs E t):=by
 intro pins s σ H Q I h;refine wpAny_Call_Name_kw (gr I hg hm ?_ hdb);refine PySem.W.callWith_K (h₀:=X.base) I.ok.mod.kin hk (thn (ha pos pins s σ H _ I h) λus s1 ⟨vs,H1,I1,r,q⟩=>⟨I1.kIn,?_⟩) he hpl;exact x6 F hr hb hd hx I1 r q
end
section
variable{X:Cx}{CX:CXT}{k:Nat}{f C:Addr}{fd:bw}{ps ks:List Str}{sp:Sp}{E:XK}{x m:Str}{p pos apos kpos:Pos}{e o:Expr}{es:List Expr}{kws:List Keyword}{te ta:TE}{t tk:TA}{nm:Option Str}
variable{g:List ae->List ae->List ae}{gV:List V->List V->List V}
end
structure fF(N P:List Str)(sc:aO):Prop where
 kind:sc.kind=.function
 co:sc.isCoroutine=false
 gen:sc.isGenerator=false
 nd:N.Nodup
 pre:N.take P.length=P
 par:∀x∈P,sc.names.lookup x=some .local\/sc.names.lookup x=some .cell
 nofree:∀y∈sc.names,y.2≠.free
theorem rq{kindOf:Str->Option aM}{x:Str}:∀{binds:List (Str×ae)}{m:Str->Option ae},(∀v,(x,v)∉binds)->bindL kindOf binds m x=m x
 | [],_,_=>rfl
 | (n,v)::r,m,h=>by
  unfold bindL;rw[rq λw hw=>h w (aJ _ hw)];split
  ·have:x≠n:=by rintro rfl;exact h v aK
   simp[this]
  ·rfl
theorem mL{kindOf:Str->Option aM}{x:Str}:∀{binds:List (Str×ae)}{m:Str->Option ae},(∀v,(x,v)∉binds)->bindC kindOf binds m x=m x
 | [],_,_=>rfl
 | (n,v)::r,m,h=>by
  unfold bindC;rw[mL λw hw=>h w (aJ _ hw)];split
  ·rfl
  ·have:x≠n:=by rintro rfl;exact h v aK
   simp[this]
theorem mq{kindOf:Str->Option aM}{x:Str}{v:ae}:∀{P:List Str}{vs:List ae}{i:Nat}{m:Str->Option ae},P.Nodup->P[i]? = some x->vs[i]? = some v->kindOf x=some .local ->
  bindL kindOf (P.zip vs) m x=some v
 | [],_,_,_,_,h,_,_=>by simp at h
 |_::_,[],_,_,_,_,h,_=>by simp at h
 |p::P,w::vs,0,m,nd,h1,h2,hk=>by
  simp at h1 h2;subst h1;subst h2;show bindL kindOf ((p,w)::P.zip vs) m p=_;unfold bindL;rw[rq λv hv=>(List.nodup_cons.mp nd).1 (List.of_mem_zip hv).1,if_pos hk];simp
 |p::P,w::vs,i+1,m,nd,h1,h2,hk=>by
  show bindL kindOf ((p,w)::P.zip vs) m x=_;unfold bindL;exact mq (i:=i) (List.nodup_cons.mp nd).2 (by simpa using h1) (by simpa using h2) hk
theorem m9{kindOf:Str->Option aM}{x:Str}{v:ae}:∀{P:List Str}{vs:List ae}{i:Nat}{m:Str->Option ae},P.Nodup->P[i]? = some x->vs[i]? = some v->kindOf x≠some .local ->
  bindC kindOf (P.zip vs) m x=some v
 | [],_,_,_,_,h,_,_=>by simp at h
 |_::_,[],_,_,_,_,h,_=>by simp at h
 |p::P,w::vs,0,m,nd,h1,h2,hk=>by
  simp at h1 h2;subst h1;subst h2;show bindC kindOf ((p,w)::P.zip vs) m p=_;unfold bindC;rw[mL λv hv=>(List.nodup_cons.mp nd).1 (List.of_mem_zip hv).1,if_neg hk];simp
 |p::P,w::vs,i+1,m,nd,h1,h2,hk=>by
  show bindC kindOf ((p,w)::P.zip vs) m x=_;unfold bindC;exact m9 (i:=i) (List.nodup_cons.mp nd).2 (by simpa using h1) (by simpa using h2) hk
noncomputable def start(N:List Str)(vs:List V):St:=vs.map some++bF (N.length-vs.length) none
noncomputable def dD(CX:CXT)(P:ay)(w:au)(K:av)(mg:Str->Option ae)(base:Heap)(N:List Str)(qual:Str)(scope:aO)(f:Addr)(cd:ae)(A:ax)(outer:List Env)(s:af)(H:Hp)(E:XK):Cx where
 prog:=P
 w:=w
 K:=K
 mg:=mg
 base:=base
 A:=A.deeper (envOfC qual scope s.heap.objs.size f cd)
 N:=N
 s₀:=s
 H₀:=H
 env:=envOfC qual scope s.heap.objs.size f cd
 outer:=outer
 stack:=envOfC qual scope s.heap.objs.size f cd::outer
 ex:=[]
 calm:=true
 fn:=λ_=>true
 pn:=[]
 xe:=λe s'=>aj (ak P w) (A.deeper (envOfC qual scope s.heap.objs.size f cd)) (leaving (envOfC qual scope s.heap.objs.size f cd) e) (λ_ s''=>CX outer H s E e s'') (λe' s''=>CX outer H s E e' s'') s'
theorem jk{sc:aO}{n:Nat}{x:Str}(h:sc.names.lookup x=some .cell):∃c,(aY n sc.names []).lookup x=some c:=by
 have q:=PySem.W.cellsFrom_some sc.names n [] (.inl h);exact Option.isSome_iff_exists.mp q
theorem rP{CX:CXT}{P:ay}{w:au}{K:av}{mg:Str->Option ae}{base:Heap}{N ps:List Str}{qual:Str}{scope:aO}{f:Addr}{cd:ae}{A:ax}{outer:List Env}{s s1:af}{H:Hp}{E:XK}{us:List ae}{vs:List V}
  (S:fF N ps scope) (hd:A.handled=none) (e0:fG P w K mg base A outer s H) (hl:vs.length=ps.length) (r:Vals vs us)
  (x:InCallC s s.heap.objs.size (bindL (envOfC qual scope s.heap.objs.size f cd).kindOf (ps.zip us) λ_=>none) (aY (s.heap.objs.size+1) scope.names []) (bindC (envOfC qual scope s.heap.objs.size f cd).kindOf (ps.zip us) λ_=>none) s1) :
  Inv (dD CX P w K mg base N qual scope f cd A outer s H E) [] (start N vs) H s1:=by
 have hpl:ps.length<=N.length:=by have:=congrArg List.length S.pre;rw[dv]at this;lia
 obtain⟨h1,tk,rfl,hk⟩:=x.done;have noA:∀b:Addr,b∉(dD CX P w K mg base N qual scope f cd A outer s H E).ex:=λb z=>absurd (show b∈([]:List Addr)from z) (by simp)
 refine⟨⟨e0.mod,S.kind,rfl,rfl,az _,λy z c h1 h2=>?_,λy hy=>?_,λy c _ h=>?_,λ_=>hd,ax.frames_deeper e0.frames,.inr ⟨rfl,rfl⟩,λb z=>absurd z (noA b),e0.bs,e0.bsz,λb _ _=>noA b,λb z=>absurd z (noA b),e0.funs,e0.frf⟩,
  rfl,e0.bare,Un.kept hk,⟨_,x.toInCall.ns,λi y v h1 h2 h3=>?_⟩,λy c h=>⟨_,x.cell y c h⟩,e0.hok.fresh (az _),λy c h=>?_,λp hp=>absurd (show p∈([]:List (Addr×Obj))from hp) (by simp),e0.hok.kept hk,?_⟩
 ·exact name_of_addr x.apart (b5 h1) (b5 h2)
 ·have hy:scope.names.lookup y=some .cell\/scope.names.lookup y=some .free:=hy;rcases hy with hy|hy
  ·exact jk hy
  ·exact absurd rfl (S.nofree _ (b5 hy))
 ·exact Nat.le_of_lt (x.above y c (b5 h))
 ·have hi:i<vs.length:=by
   unfold start at h2;by_cases hi:i<vs.length
   ·exact hi
   ·rw[List.getElem?_append_right (by simpa using hi)]at h2;rw[List.getElem?_replicate]at h2;split at h2<;>cases h2
  have ha:vs[i]? = some v:=by
   unfold start at h2;rw[List.getElem?_append_left (by simpa using hi),List.getElem?_map]at h2;cases e:vs[i]? with
   |none=>rw[e]at h2;cases h2
   |some a=>rw[e]at h2;cases h2;rfl
  obtain⟨u,hu,rv⟩:=r.get ha;have hp:ps[i]? = some y:=by
   rw[<-S.pre,List.getElem?_take_of_lt (by lia)];exact h1
  have ndP:ps.Nodup:=by rw[<-S.pre];exact S.nd.sublist (List.take_sublist _ _)
  refine⟨u,rv,?_⟩;rcases S.par y (List.mem_of_getElem? hp)with k|k
  ·exact .inl ⟨k,mq ndP hp hu k⟩
  ·obtain⟨c,e⟩:=jk (n:=s.heap.objs.size+1) k;refine .inr ⟨.inl k,c,e,?_⟩;have q:=x.cell y c e;rw[m9 ndP hp hu (by show scope.names.lookup y≠_;rw[k];decide)]at q;exact q
 ·exact e0.hok.fresh (Nat.le_of_lt (x.above y c (b5 h)))
 ·unfold start;show _=N.length;rw[List.length_append,aV,List.length_replicate];lia
theorem tF{CX:CXT}{P:ay}{w:au}{K:av}{mg:Str->Option ae}{base:Heap}{k:Nat}{f:Addr}{name qual:Str}{params:Arguments}{body:List Stmt}{scope:aO}{dV kV doc pm cdv ct oc:ae}{an od:Option Addr}
  {osl:Array (Option ae)}{N ps:List Str}{sp:Sp} (lk:K.lookup f=some ⟨oc,od,.func (bN name qual params body scope dV kV doc pm an cdv ct),osl⟩) (hcd:PySem.W.codeIn K cdv qual=true) (S:fF N ps scope)
  (len:∀vs H Q E,sp vs H Q E->vs.length=ps.length)
  (hbody:∀(A:ax) (outer:List Env) (s:af) (H:Hp) (vs:List V) (Q:VK) (E:XK),bW k (A.deeper (envOfC qual scope s.heap.objs.size f cdv))->sp vs H Q E ->
   ∃t,PSs (dD CX P w K mg base N qual scope f cdv A outer s H E) body t/\t {nx:=λ_ H'=>Q .non H',rt:=Q} (start N vs) H) :
  eV P w K mg base CX (k+1) f (bN name qual params body scope dV kV doc pm an cdv ct) ps sp:=by
 refine⟨len,λA outer s H args us vs Q E hr e0 hb r hsp=>?_⟩;have hl:=len _ _ _ _ hsp;have KX:K.In s.heap:=e0.mod.kin.keeps λb o e=>(e0.bs b o e).1
 have lim:s.heap.NoLimit:=e0.mod.nolimit.keeps λb o e=>(e0.bs b o e).1
 have hkind:∀y∈ps.zip us,scope.names.lookup y.1=some .local\/(scope.names.lookup y.1=some .cell/\((aY (s.heap.objs.size+1) scope.names []).lookup y.1).isSome=true):=λ⟨n,v⟩ hy=>by
  rcases S.par n (List.of_mem_zip hy).1 with q|q
  ·exact .inl q
  ·exact .inr ⟨q,PySem.W.cellsFrom_some _ _ _ (.inl q)⟩
 refine codeAny_call_function hr.depth (KX _ _ lk) rfl S.co S.gen rfl (PySem.W.codeRec_of KX hcd) (hb _ _ _ _ ?_);refine wpAny_newFunctionEnv_cells S.kind hkind λenv he s1 x=>?_
 subst he;refine⟨lim.keeps x.toInCall.keep,codeAny_func ?_⟩;obtain⟨t,ht,hq⟩:=hbody A outer s H vs Q E (hr.deeper _) hsp;have I:Inv (dD CX P w K mg base N qual scope f cdv A outer s H E) [] (start N vs) H s1:=rP S hr.hd e0 hl r x;refine bI (ht [] s1 (start N vs) H _ I hq) (λfl s' hs=>?_) λe s' hs=>hs
 have fin:∀{σ':St}{H':Hp}{v:V}{u:ae},Inv (dD CX P w K mg base N qual scope f cdv A outer s H E) [] σ' H' s'->RelV v u->Q v H'->CE outer P w H s Q u s':=
  λ{σ' H' v u} J rv q=>⟨v,H',J.os,J.bare,J.base,J.hok,rv,q⟩
 cases fl with
 |ret u=>
  obtain⟨v,σ',H',J,rv,q⟩:=hs;exact fin J rv q
 |next=>
  obtain⟨σ',H',J,q⟩:=hs;exact fin (v:=V.non) (u:=bA) J rfl q
 |brk=>
  obtain⟨_,_,_,q⟩:=hs;exact aS q
 |cont=>
  obtain⟨_,_,_,q⟩:=hs;exact aS q
section
variable{X:Cx}{x:Str}{p pos:Pos}{e:Expr}{es:List Expr}{t:TA}{id T:String}{r:List V->Hp->VK->Prop}
noncomputable def tCB(r:List V->Hp->VK->Prop)(t:TA):TE:=λσ H Q=>t σ H λvs H1=>r vs H1 Q
theorem lg(hc:zm X (.builtin id) r)(hg:Gl X x)(hm:X.mg x=none)(hv:bz x=some (.builtin id))(ha:PA X (e::es) t)(hn:x≠"__name__":=by decide)(hdb:(x==("__debug__" : Str))=false:=by decide)
  (he:aP (e::es) X.env=(false,eval e X.env)::aP es X.env:=by rfl) (hpl:(backTo pos (aP es X.env)).any (·.1)=false:=by rfl):PE X (.Call (.Name x p) (e::es) [] pos) (tCB r t):=by
 intro pins s σ H Q I h;refine wpAny_Call_Name_kw (fI I hg hm hv ?_ hn hdb);exact PyProof.Rows.callWith_builtin1 (thn (ha pos pins s σ H _ I h) λus s1 ⟨vs,H1,I1,r1,q1⟩=>hc pins s1 σ H1 vs us Q I1 r1 q1) he hpl
theorem gC(hc:zm X (.type T) r)(hg:Gl X x)(hm:X.mg x=none)(hv:bz x=some (.type T))(ha:PA X (e::es) t)(hn:x≠"__name__":=by decide)(hdb:(x==("__debug__" : Str))=false:=by decide)
  (he:aP (e::es) X.env=(false,eval e X.env)::aP es X.env:=by rfl) (hpl:(backTo pos (aP es X.env)).any (·.1)=false:=by rfl):PE X (.Call (.Name x p) (e::es) [] pos) (tCB r t):=by
 intro pins s σ H Q I h;refine wpAny_Call_Name_kw (fI I hg hm hv ?_ hn hdb);exact eJ (thn (ha pos pins s σ H _ I h) λus s1 ⟨vs,H1,I1,r1,q1⟩=>hc pins s1 σ H1 vs us Q I1 r1 q1) he hpl
end
end L2
namespace HT
open PySem PyProof.Rows
noncomputable def lexLt:List Int->List Int->Bool
 | [],[]=>false
 | [],_::_=>true
 |_::_,[]=>false
 |x::xs,y::ys=>if x=y then lexLt xs ys else decide (x<y)
theorem sM(x y:Int)(xs ys:List Int):lexLt (x::xs) (y::ys)=if x=y then lexLt xs ys else decide (x<y):=rfl
theorem uO:lexLt [] []=false:=rfl
theorem yU(y:Int)(ys:List Int):lexLt [] (y::ys)=true:=rfl
theorem wN(x:Int)(xs:List Int):lexLt (x::xs) []=false:=rfl
theorem B_(A:ax)(s:af)(a:Int)(t:Tok)(c:Int)(u:Tok):∃e,SeqAt.EqAt A s (.int a t) (.int c u) e/\(e=true↔a=c):=
 ⟨(a==c),SeqAt.EqAt.int_int a t c u,by simp⟩
theorem vP(A:ax)(s:af)(a:Int)(t:Tok)(c:Int)(u:Tok)(prog:ay)(w:au)(E:ae->af->Prop)(Q:ae->af->Prop)(h:Q (.bool (decide (a<c))) s) :
  aj (ak prog w) A (richCompare .Lt (.int a t) (.int c u)) Q E s:=
 (PyProof.Rows.lt_int h:aj (ak prog w) A (aW .Lt (.int a t) (.int c u)) Q E s)
section
open PySem.SeqAt
open PySem.AutoSeq1 (wpAny_loadPart')
open PySem.MeetsSeq PySem.MeetsSeq2 PySem.MeetsSeq3
theorem ya(l b:Addr)(items items2:Array ae)(n n2:Nat)(dd dd2:Option Addr)(sl sl2:Array (Option ae))(ns ms:List Int)(hi:a9 items.toList ns)(hj:a9 items2.toList ms) :
  Meets (Builtin.«tuple.__lt__» ⟨[.ref l,.ref b],[]⟩)
   (λ_ R s=>s.heap.get? l=some {cls:=.type "tuple",dict:=dd,data:=.seq items n,slots:=sl}/\s.heap.get? b=some {cls:=.type "tuple",dict:=dd2,data:=.seq items2 n2,slots:=sl2} /\
    R (.ok (.ret (.bool (lexLt ns ms)))) s):=
 .of_wp λprog w A R s h=>by
  obtain⟨hp,g,d,tk,os⟩:=s;obtain⟨hl,hb,h⟩:=h;have f2:=AutoSeq1.sub_tuple_tuple;have z1:items.size=ns.length:=by rw[<-hi.length];simp
  have z2:items2.size=ms.length:=by rw[<-hj.length];simp
  wp_walk using wpAny_loadPart' hl,wpAny_loadPart' hb,wpAny_forIn_list _ (λrest b s'=>b.1=none/\s'=⟨hp,g,d,tk,os⟩/\∃(vs ws:List ae) (ns' ms':List Int),rest=vs.zip ws /\
   a9 vs ns'/\a9 ws ms'/\ns'.length+items2.size=ms'.length+items.size/\R (.ok (.ret (.bool (lexLt ns' ms')))) ⟨hp,g,d,tk,os⟩) _
  case turn=>
   rintro⟨y,x⟩ rest b s' ⟨hb',rfl,vs,ws,ns',ms',hz,hvi,hwi,hlen,hR⟩;cases hvi with
   |nil=>rw[List.zip_nil_left]at hz;cases hz
   |cons a t hvi'=>
    cases hwi with
    |nil=>rw[List.zip_nil_right]at hz;cases hz
    |cons c u hwi'=>
     rw[List.zip_cons_cons]at hz;injection hz with hyx hrest
     injection hyx with hy hx
     subst hy hx;rw[sM]at hR;simp only[bU]at hlen;obtain⟨e,he,hiff⟩:=B_ A.in1 ⟨hp,g,d,tk,os⟩ a t c u;refine ag (he prog w _ _ ?_);cases e with
     |true=>
      rw[if_pos (hiff.mp rfl)]at hR
      wp_walk
      exact⟨rfl,rfl,_,_,_,_,hrest,hvi',hwi',by lia,hR⟩
     |false=>
      rw[if_neg (λq=>absurd (hiff.mpr q) b6)]at hR;have hri:=vP A.in1 ⟨hp,g,d,tk,os⟩ a t c u prog w
      wp_walk using hri
      exact⟨_,rfl,by simpa using hR⟩
  case fin=>
   rintro⟨b1,b2⟩ s' ⟨hb',rfl,vs,ws,ns',ms',hz,hvi,hwi,hlen,hR⟩;simp only at hb';subst hb';have hv:lexLt ns' ms'=decide (items.size<items2.size):=by
    cases hvi with
    |nil=>
     cases hwi with
     |nil=>
      simp only[List.length_nil]at hlen;rw[uO];exact(decide_eq_false (by lia)).symm
     |cons c u hw=>
      simp only[List.length_nil,bU]at hlen;rw[yU];exact(decide_eq_true (by lia)).symm
    |cons a t hv=>
     cases hwi with
     |nil=>
      simp only[List.length_nil,bU]at hlen;rw[wN];exact(decide_eq_false (by lia)).symm
     |cons c u hw=>
      rw[List.zip_cons_cons]at hz;cases hz
   rw[hv]at hR
   wp_walk
   exact⟨_,rfl,by simpa[Builtin.Tuple.tupleCompareSizes]using hR⟩
  case h=>
   exact⟨rfl,rfl,items.toList,items2.toList,ns,ms,rfl,hi,hj,by lia,h⟩
end
section
variable{prog:ay}{w:au}{A:ax}{E:ae->af->Prop}{s:af}
theorem uh{l b:Addr}{items items2:Array ae}{ns ms:List Int}{Q:ae->af->Prop}(hl:IsTup s.heap l items)(hb:IsTup s.heap b items2)(hi:a9 items.toList ns)(hj:a9 items2.toList ms)
  (hu:A.units<cLine) (h:Q (.bool (lexLt ns ms)) s):aj (ak prog w) A (aW .Lt (.ref l) (.ref b)) Q E s:=by
 obtain⟨⟨cls,dd,data,sl⟩,ho,hc,n,hd⟩:=id hl;obtain⟨⟨cls2,dd2,data2,sl2⟩,ho2,hc2,n2,hd2⟩:=id hb;simp only at hc hd hc2 hd2;subst hc hd hc2 hd2;exact richCompare_meets_room (op:=.Lt) ⟨_,ho,rfl⟩ ⟨_,ho2,rfl⟩ PySem.F.slot_tuple_lt PySem.F.entry_tuple_lt (PySem.F.args_tuple_lt_2 _ _) (ya l b items items2 n n2 dd dd2 sl sl2 ns ms hi hj)
  ⟨ho,ho2,show bu (lexLt ns ms)≠ae.notImplemented/\Q (.bool (lexLt ns ms)) s from ⟨(λx=>nomatch x),h⟩⟩ hu
theorem CP{t b:Addr}{vs ws:List ae}{Q:ae->af->Prop}(ht:IsTup s.heap t vs.toArray)(hb:IsTup s.heap b ws.toArray)(hv:vs≠[])
  (h1:ws=[]->Q (.ref t) s) (h2:ws≠[]->Q (.ref s.heap.objs.size) {s with heap:=s.heap.push {cls:=.type "tuple",data:=.seq (vs++ws).toArray}})
  (hsz:vs.length+ws.length<=aI):aj (ak prog w) A (binaryOp .Add (.ref t) (.ref b)) Q E s:=by
 obtain⟨⟨cls,dd,data,sl⟩,ho,hc,n,hd⟩:=id ht;obtain⟨⟨cls2,dd2,data2,sl2⟩,ho2,hc2,n2,hd2⟩:=id hb;simp only at hc hd hc2 hd2;subst hc hd hc2 hd2;have e:vs.toArray++ws.toArray=(vs++ws).toArray:=by simp
 by_cases hw:ws=[]
 ·exact concat_meets ⟨_,ho,rfl⟩ ⟨_,ho2,rfl⟩ noFill_tuple_add seq_tuple_add PySem.F.slot_tuple_add PySem.F.entry_tuple_add (PySem.F.args_tuple_add_2 _ _)
   (tuple_addW1 t b vs.toArray ws.toArray n n2 dd dd2 sl sl2 (by simpa using hv) (by simp[hw])) ⟨ho,ho2,h1 hw⟩
 ·refine concat_meets ⟨_,ho,rfl⟩ ⟨_,ho2,rfl⟩ noFill_tuple_add seq_tuple_add PySem.F.slot_tuple_add PySem.F.entry_tuple_add (PySem.F.args_tuple_add_2 _ _)
   (tuple_addW2 t b vs.toArray ws.toArray n n2 dd dd2 sl sl2 (by simpa using hv) (by simpa using hw) (by rw[aL,aL];exact hsz)) ⟨ho,ho2,?_⟩
  rw[e];exact h2 hw
noncomputable def sIx(n d:Nat):Option Int->Nat
 |none=>d
 |some v=>if v<0 then (v+(n:Int)).toNat else min v.toNat n
theorem BZ(n d:Nat):sIx n d none=d:=rfl
theorem i8(n d k:Nat):sIx n d (some (k:Int))=min k n:=by
 show (if (k:Int)<0 then ((k:Int)+(n:Int)).toNat else min (k:Int).toNat n)=min k n;rw[if_neg (by lia),Int.toNat_natCast]
theorem rT(n d:Nat)(hd:d<=n)(o:Option Int):sIx n d o<=n:=by
 cases o with
 |none=>exact hd
 |some v=>
  show (if v<0 then (v+(n:Int)).toNat else min v.toNat n)<=n;by_cases hv:v<0
  ·rw[if_pos hv];lia
  ·rw[if_neg hv];exact Nat.min_le_right _ _
theorem rN(v:Int)(n d:Nat):(if v<0 then max (v+(n:Int)) 0 else min v (n:Int))=((sIx n d (some v):Nat):Int):=by
 show (if v<0 then max (v+(n:Int)) 0 else min v (n:Int))=(((if v<0 then (v+(n:Int)).toNat else min v.toNat n):Nat):Int)
 by_cases hv:v<0
 ·simp only[if_pos hv];lia
 ·simp only[if_neg hv];lia
theorem xM(lo hi:Option Int)(n:Nat):dJ lo hi 1 (n:Int)=(((sIx n 0 lo:Nat):Int),((sIx n n hi:Nat):Int)):=by
 have h1:¬ ((1:Int)<0):=by lia
 unfold dJ;simp only[h1,if_false];refine Prod.ext ?_ ?_
 ·cases lo with
  |none=>rfl
  |some v=>exact rN v n 0
 ·cases hi with
  |none=>rfl
  |some v=>exact rN v n n
theorem BW(i j:Nat):cM (i:Int) (j:Int) 1=j-i:=by
 unfold cM;have h1:(1:Int)>0:=by lia
 simp only[h1,if_true,Int.ediv_one];split<;>lia
theorem lW{v:ae}{o:Option Int}{Q:Option Int->af->Prop}(p:IsPart v o)(h:Q o s):aj (ak prog w) A (Builtin.Slice.slicePartIndex v) Q E s:=by
 cases p with
 |none=>exact slicePart_none h
 |int i t=>exact slicePart_int h
theorem pI{sl:Addr}{vl vu:ae}{lo hi:Option Int}{n:Nat}{Q:Int×Int×Nat->af->Prop}(hs:s.heap.IsSliceOf sl vl vu .none)(pl:IsPart vl lo)(pu:IsPart vu hi)
  (h:Q (((sIx n 0 lo:Nat):Int),1,sIx n n hi-sIx n 0 lo) s):aj (ak prog w) A (Builtin.Slice.sliceApplied (.ref sl) (pure (n:Int))) Q E s:=by
 obtain⟨os,hos,hcs,hds⟩:=id hs;unfold Builtin.Slice.sliceApplied Builtin.Slice.sliceFields;refine ag (ag (bq hos hds (x:=vl) rfl (ag (bq hos hds (x:=vu) rfl (ag (bq hos hds (x:=.none) rfl (ar ?_)))))));refine ag (slicePart_none ?_);show aj _ _ (if ((1:Int)==0)=true then _ else _) _ _ s;rw[if_neg (by decide)];refine ag (lW pl (ag (lW pu (ag (ar ?_)))));show aj _ _ (match dJ lo hi 1 (n:Int)with|(lo,hi)=>pure (lo,(1:Int),cM lo hi 1)) _ _ s;rw[xM lo hi n];show aj _ _ (pure (((sIx n 0 lo:Nat):Int),(1:Int),cM ((sIx n 0 lo:Nat):Int) ((sIx n n hi:Nat):Int) 1)) _ _ s;rw[BW];exact ar h
theorem vR(xs:Array ae)(i k:Nat):((aR k).filterMap λ(m:Nat)=>xs[((i:Int)+(m:Int) * 1).toNat]?).toArray=((xs.toList.drop i).take k).toArray:=by
 have e:(λ(m:Nat)=>xs[((i:Int)+(m:Int) * 1).toNat]?)=λm=>xs[i+m]?:=by
  funext m;have:((i:Int)+(m:Int) * 1).toNat=i+m:=by lia
  rw[this]
 rw[e];have:=pick_run xs i k;rw[List.filterMap_map]at this;have e2:((λx=>xs[x]?)∘λx=>i+x)=λm=>xs[i+m]?:=rfl
 rw[e2]at this;rw[this]
theorem xN{t sl:Addr}{items:Array ae}{vl vu:ae}{lo hi:Option Int}{Q:ae->af->Prop}(ht:IsTup s.heap t items)(hs:s.heap.IsSliceOf sl vl vu .none)(pl:IsPart vl lo)(pu:IsPart vu hi)
  (hw:¬ (sIx items.size 0 lo=0/\sIx items.size items.size hi=items.size))
  (h:Q (.ref s.heap.objs.size) {s with heap:=s.heap.push {cls:=.type "tuple",data:=.seq ((items.toList.drop (sIx items.size 0 lo)).take (sIx items.size items.size hi-sIx items.size 0 lo)).toArray}})
  (hsz:items.size<=aI):aj (ak prog w) A (getItem (.ref t) (.ref sl)) Q E s:=by
 have htake:sizeOk (.seq ((items.toList.drop (sIx items.size 0 lo)).take (sIx items.size items.size hi-sIx items.size 0 lo)).toArray):=by
  show ((items.toList.drop (sIx items.size 0 lo)).take (sIx items.size items.size hi-sIx items.size 0 lo)).toArray.size<=aI;rw[aL,dv,List.length_drop,bZ];lia
 have hj:sIx items.size items.size hi<=items.size:=rT _ _ (az _) hi;obtain⟨os,hos,hcs,hds⟩:=id hs;have hTs:s.TypeIs (.ref sl) "slice":=⟨os,hos,hcs⟩
 unfold getItem
 try with_reducible refine bV ?_
 first|refine ag (ar ?_)|skip
 refine ag (wpAny_sequenceKey ht.typeIs (by decide) ?_);refine ag (wpAny_callSpecial?_slot (name:=ah "__getitem__") ht.typeIs dI
  (bK dI ht.typeIs entry_tuple_getitem ?_ (args_tuple_getitem _ _)))
 show aj _ _ (Builtin.Tuple.tupleItemsOf (.ref t)>>=_) _ _ s;refine ag (tupleItemsOf_ ht ?_);refine ag (wpAny_typeOf hTs ?_);rw[if_pos (by decide)];refine ag (pI hs pl pu ?_);have hno:¬ ((((sIx items.size 0 lo:Nat):Int)==0&&(1:Int)==1&&(sIx items.size items.size hi-sIx items.size 0 lo)==items.size)=true):=by
  intro q;rw[aH,aH]at q;have q1:((sIx items.size 0 lo:Nat):Int)=0:=eq_of_beq q.1.1;have q2:sIx items.size items.size hi-sIx items.size 0 lo=items.size:=eq_of_beq q.2;exact hw ⟨by lia,by lia⟩
 show aj _ _ (if (((sIx items.size 0 lo:Nat):Int)==0&&(1:Int)==1&&(sIx items.size items.size hi-sIx items.size 0 lo)==items.size)=true then _ else _) _ _ s;rw[if_neg hno,vR]
 first
  |exact ag (m:=bY _) (bt (ar ⟨_,rfl,ar h⟩) htake)
  |exact ag (m:=bY _) (bt (ag (ar (ar ⟨_,rfl,ar h⟩))) htake)
  |exact ag (ag (m:=bY _) (bt (ar (ar ⟨_,rfl,ar h⟩)) htake))
  |exact ag (ag (m:=bY _) (bt (ar ⟨_,rfl,ar h⟩) htake))
end
end HT
namespace L2
open PySem PySem.Spec PyProof.Rows
abbrev TO:=St->Hp->(Option Int->Hp->Prop)->Prop
noncomputable def PO(X:Cx)(e:Option Expr)(t:TO):Prop:=
 ∀(pins:List (Addr×Obj)) (s:af) (σ:St) (H:Hp) (Q:Option Int->Hp->Prop),Inv X pins σ H s->t σ H Q ->
  aj (ak X.prog X.w) X.A (evalPart e X.env) (λu s'=>∃o H',Inv X pins σ H' s'/\IsPart u o/\Q o H') X.xe s
noncomputable def wI:TO:=λ_ H Q=>Q none H
noncomputable def vH(t:TE):TO:=λσ H Q=>t σ H λx H1=>∃i,x=.int i/\Q (some i) H1
theorem intsAre_of{ns:List Int}:∀{us:List ae},Vals (ns.map V.int) us->a9 us ns:=by
 induction ns with
 |nil=>intro us r;rw[List.map_nil]at r;cases r;exact .nil
 |cons n ns ih=>
  intro us r;rw[a7]at r;cases r with
  |cons r1 r2=>
   obtain⟨t,e⟩:=r1;subst e;exact .cons n t (ih r2)
section
variable{X:Cx}{e:Expr}{te:TE}{lo hi:Option Expr}{tl th:TO}{pos p2:Pos}
theorem Ak:PO X none wI:=by
 intro pins s σ H Q I h;rw[evalPart_none];exact ar ⟨none,H,I,.none,h⟩
theorem uN(h:PE X e te):PO X (some e) (vH te):=by
 intro pins s σ H Q I hw;rw[evalPart_some];refine thn (h pins s σ H _ I hw) λu s1 ⟨x,H1,I1,r1,q1⟩=>?_
 obtain⟨i,rfl,q⟩:=q1;obtain⟨t,rfl⟩:=r1;exact⟨some i,H1,I1,.int i t,q⟩
noncomputable def SlR(X:Cx)(r:V->Option Int->Option Int->Hp->VK->Prop):Prop:=
 ∀(pins:List (Addr×Obj)) (s:af) (σ:St) (H:Hp) (x:V) (v vl vu:ae) (lo hi:Option Int) (sl:Addr) (Q:VK),Inv X pins σ H s->RelV x v->s.heap.IsSliceOf sl vl vu .none->IsPart vl lo->IsPart vu hi->r x lo hi H Q ->
  ∃T id,typeLookup (.type T) "__getitem__" = pure (some (.builtin id))/\s.TypeIs v T/\aj (ak X.prog X.w) X.A (getItem v (.ref sl)) (EP X pins σ Q) X.xe s
noncomputable def tSl(r:V->Option Int->Option Int->Hp->VK->Prop)(te:TE)(tl th:TO):TE:=λσ H Q=>te σ H λx H1=>tl σ H1 λl H2=>th σ H2 λu H3=>r x l u H3 Q
theorem BB{r:V->Option Int->Option Int->Hp->VK->Prop}(hr:SlR X r)(he:PE X e te)(hl:PO X lo tl)(hu:PO X hi th):PE X (.Subscript e (.Slice lo hi none p2) pos) (tSl r te tl th):=by
 intro pins s σ H Q I h;refine Subscript_ (thn (he pins s σ H _ I h) λv s1 ⟨x,H1,I1,r1,q1⟩=>?_);refine wpAny_Slice (thn (hl pins s1 σ H1 _ I1 q1) λvl s2 ⟨l,H2,I2,pl,q2⟩=>thn (hu pins s2 σ H2 _ I2 q2) λvu s3 ⟨u,H3,I3,pu,q3⟩=>?_);rw[evalPart_none];refine ar ?_;have I4:Inv X pins σ H3 {s3 with heap:=s3.heap.push {cls:=.type "slice",data:=.fields #[vl,vu,.none]}}:=I3.kept (t':=s3.toks) λb ob q=>Heap.get?_push_of_some _ q
 obtain⟨T,id,hT,ht,hg⟩:=hr pins {s3 with heap:=s3.heap.push {cls:=.type "slice",data:=.fields #[vl,vu,.none]}} σ H3 x v vl vu l u s3.heap.objs.size Q I4 r1 (Heap.IsSliceOf.new ..) pl pu q3;show aj (ak X.prog X.w) X.A (subscriptTail e (.Slice lo hi none p2) v (.ref s3.heap.objs.size)) (EP X pins σ Q) X.xe {s3 with heap:=s3.heap.push {cls:=.type "slice",data:=.fields #[vl,vu,.none]}};exact tail_any (ops:=[.ref s3.heap.objs.size,v]) ht hT hg (by with_unfolding_all rfl)
noncomputable def eR(xs:List V)(lo hi:Option Int):List V:=(xs.drop (HT.sIx xs.length 0 lo)).take (HT.sIx xs.length xs.length hi-HT.sIx xs.length 0 lo)
theorem nF(xs:List V)(lo hi:Option Int):(eR xs lo hi).length<=xs.length:=by
 unfold eR;rw[dv,List.length_drop];lia
noncomputable def xQ(K:av):V->Option Int->Option Int->Hp->VK->Prop:=λx lo hi H Q=>∃a xs,x=.ref a/\SqT K H a xs /\
 ¬ (HT.sIx xs.length 0 lo=0/\HT.sIx xs.length xs.length hi=xs.length)/\∀p,H p=none->Q (.ref p) (upd H p (.tup (eR xs lo hi)))
theorem sZ:SlR X (xQ X.K):=by
 intro pins s σ H x v vl vu lo hi sl Q I rx hs pl pu h;obtain⟨a,xs,rfl,hx,hw,q⟩:=h;cases rx;obtain⟨its,r,ht,hz⟩:=I.tuple hx;have hlen:its.toArray.size=xs.length:=by rw[aL];exact r.length.symm
 refine⟨"tuple",_,dI.lookup,ht.typeIs,?_⟩;refine HT.xN ht hs pl pu (by rw[hlen];exact hw) ?_ (by rw[hlen];exact hz);rw[hlen];refine⟨.ref s.heap.objs.size,_,I.laid (t':=s.toks) (o:=.tup (eR xs lo hi)) (λb ob q=>Heap.get?_push_of_some _ q) (az _) ?_,rfl,q _ (I.hok.fresh (az _))⟩;exact⟨aX (nF xs lo hi) hz,_,(r.drop (HT.sIx xs.length 0 lo)).take (HT.sIx xs.length xs.length hi-HT.sIx xs.length 0 lo),IsTup.new _ _⟩
noncomputable def BM(K:av):R2:=λx y H Q=>∃a b ns ms,x=.ref a/\y=.ref b/\SqT K H a (ns.map V.int)/\SqT K H b (ms.map V.int)/\Q (.bl (HT.lexLt ns ms)) H
theorem DC(hu:X.A.units<cLine):OpR X (aW .Lt) (BM X.K):=by
 intro pins s σ H x y v u Q I rx ry h;obtain⟨a,b,ns,ms,rfl,rfl,ha,hb,q⟩:=h;cases rx;cases ry;obtain⟨its,r1,p1,_⟩:=I.tuple ha;obtain⟨its2,r2,p2,_⟩:=I.tuple hb;have i1:a9 its.toArray.toList ns:=intsAre_of r1;have i2:a9 its2.toArray.toList ms:=intsAre_of r2;exact HT.uh p1 p2 i1 i2 hu ⟨.bl (HT.lexLt ns ms),H,I,rfl,q⟩
noncomputable def yw(K:av):R2:=λx y H Q=>∃a b xs ys,x=.ref a/\y=.ref b/\SqT K H a xs/\SqT K H b ys/\xs≠[]/\xs.length+ys.length<=aI /\
 (ys=[]->Q (.ref a) H)/\(ys≠[]->∀p,H p=none->Q (.ref p) (upd H p (.tup (xs++ys))))
theorem Vals.nil_iff{xs:List V}{us:List ae}(r:Vals xs us):us=[]↔xs=[]:=by
 cases r with
 |nil=>simp
 |cons _ _=>simp
theorem ui:OpR X (binaryOp .Add) (yw X.K):=by
 intro pins s σ H x y v u Q I rx ry h;obtain⟨a,b,xs,ys,rfl,rfl,ha,hb,hx,hz,q1,q2⟩:=h;cases rx;cases ry;obtain⟨its,r1,p1,_⟩:=I.tuple ha;obtain⟨its2,r2,p2,_⟩:=I.tuple hb;refine HT.CP p1 p2 (λz=>hx (r1.nil_iff.mp z)) (λz=>⟨.ref a,H,I,rfl,q1 (r2.nil_iff.mp z)⟩) (λz=>?_) (by rw[<-r1.length,<-r2.length];exact hz);refine⟨.ref s.heap.objs.size,_,I.laid (t':=s.toks) (o:=.tup (xs++ys)) (λb ob q=>Heap.get?_push_of_some _ q) (az _) ?_,rfl,q2 (λw=>z (r2.nil_iff.mpr w)) _ (I.hok.fresh (az _))⟩;exact⟨by rw[List.length_append];exact hz,_,r1.append r2,IsTup.new _ _⟩
end
noncomputable def ixN(n:Nat)(i:Int):Option Nat:=if 0<=i then (if i<n then some i.toNat else none)else if -(n:Int)<=i then some (i+n).toNat else none
noncomputable def atI{α:Type}(xs:List α)(i:Int):Option α:=(ixN xs.length i).bind λj=>xs[j]?
theorem nh{n:Nat}{i:Int}{j:Nat}(h:ixN n i=some j):seqIndex? i n=some j/\j<n/\-(n:Int)<=i/\i<n:=by
 unfold ixN at h;by_cases h0:0<=i
 ·rw[if_pos h0]at h;by_cases h1:i<n
  ·rw[if_pos h1]at h;have e:i.toNat=j:=bD h;exact⟨by rw[seqIndex_of h0 h1,e],by lia,by lia,h1⟩
  ·rw[if_neg h1]at h;cases h
 ·rw[if_neg h0]at h;by_cases h1:-(n:Int)<=i
  ·rw[if_pos h1]at h;have e:(i+n).toNat=j:=bD h;exact⟨by rw[seqIndex_neg (by lia) h1,e],by lia,h1,by lia⟩
  ·rw[if_neg h1]at h;cases h
theorem lJ{α:Type}{xs:List α}{i:Int}{v:α}(h:atI xs i=some v):∃j,seqIndex? i xs.length=some j/\xs[j]? = some v/\j<xs.length/\-(xs.length:Int)<=i/\i<xs.length:=by
 unfold atI at h;cases e:ixN xs.length i with
 |none=>rw[e]at h;cases h
 |some j=>
  rw[e]at h;obtain⟨h1,h2,h3,h4⟩:=nh e;exact⟨j,h1,h,h2,h3,h4⟩
noncomputable def rH(b:Expr):Prop:=∀o i,subscripted b false o i=operate [o,i] (getItem o i)
noncomputable def IxR(X:Cx)(r:R2):Prop:=
 ∀(value slice:Expr) (pins:List (Addr×Obj)) (s:af) (σ:St) (H:Hp) (x y:V) (v u:ae) (Q:VK),Inv X pins σ H s->RelV x v->RelV y u->r x y H Q ->
  subscripted slice false v u=operate [v,u] (getItem v u)->aj (ak X.prog X.w) X.A (subscriptTail value slice v u) (EP X pins σ Q) X.xe s
noncomputable def MtR(X:Cx)(id:String)(r:V->List V->Hp->VK->Prop):Prop:=
 ∀(pins:List (Addr×Obj)) (s:af) (σ:St) (H:Hp) (x:V) (xs:List V) (v:ae) (us:List ae) (Q:VK),Inv X pins σ H s->RelV x v->Vals xs us->r x xs H Q ->
  aj (ak X.prog X.w) X.A (call (.builtin id) (v::us)) (EP X pins σ Q) X.xe s
section
variable{X:Cx}{a b:Expr}{ta tb:TE}{pos:Pos}
theorem IxR.or{r r':R2}(h:IxR X r)(h':IxR X r'):IxR X (λx y H Q=>r x y H Q\/r' x y H Q):=by
 intro value slice pins s σ H x y v u Q I rx ry q hs;rcases q with q|q
 ·exact h value slice pins s σ H x y v u Q I rx ry q hs
 ·exact h' value slice pins s σ H x y v u Q I rx ry q hs
theorem DW{r:R2}(hr:IxR X r)(ha:PE X a ta)(hb:PE X b tb)(hs:rH b):PE X (.Subscript a b pos) (tOp r ta tb):=by
 intro pins s σ H Q I h;exact Subscript_ (lE ha hb I h λv u s2 x y H2 I2 rx ry q=>hr a b pins s2 σ H2 x y v u Q I2 rx ry q (hs _ _))
noncomputable def ni(K:av):R2:=λx y H Q=>∃p xs i v,x=.ref p/\y=.int i/\SqL K H p xs/\atI xs i=some v/\Q v H
noncomputable def pj(K:av):R2:=λx y H Q=>∃p xs i v,x=.ref p/\y=.int i/\SqT K H p xs/\atI xs i=some v/\Q v H
noncomputable def rg:R2:=λx y H Q=>∃z i c,x=.str z/\y=.int i/\z.length<=aI/\atI z.cps.toList i=some c/\Q (.str ⟨#[c]⟩) H
theorem Dt:IxR X (ni X.K):=by
 intro value slice pins s σ H x y v u Q I rx ry h hs;obtain⟨p,xs,i,z,rfl,rfl,hq,he,q⟩:=h;cases rx;obtain⟨t,rfl⟩:=ry;obtain⟨its,r,pl,hz⟩:=I.list hq;obtain⟨j,h1,h2,h3,h4,h5⟩:=lJ he;obtain⟨w,ew,rw'⟩:=r.get h2;have hl:=r.length;have hn:=fo;have fin:EP X pins σ Q w s:=⟨z,H,I,rw',q⟩
 by_cases h0:0<=i
 ·have hj:i.toNat=j:=by
   rw[seqIndex_of h0 h5]at h1;exact bD h1
  exact item_listR pl.isList h0 (by lia) (by rw[hj];simpa using ew) fin hs
 ·have hj:(i+(its.toArray.size:Int)).toNat=j:=by
   rw[seqIndex_neg (by lia) h4]at h1;rw[aL,<-hl];exact bD h1
  exact subscriptTail_builtinR (x:=w) pl.isList.typeIs slot_list_getitem.lookup
   (wpAny_getItem_list_neg (Q:=λr s'=>r=w/\EP X pins σ Q r s') pl.isList (by lia) (by rw[aL]<;>lia) (by lia) (by rw[hj];simpa using ew) ⟨rfl,fin⟩) hs
theorem Cg:IxR X (pj X.K):=by
 intro value slice pins s σ H x y v u Q I rx ry h hs;obtain⟨p,xs,i,z,rfl,rfl,hq,he,q⟩:=h;cases rx;obtain⟨t,rfl⟩:=ry;obtain⟨its,r,pl,hz⟩:=I.tuple hq;obtain⟨j,h1,h2,h3,h4,h5⟩:=lJ he;obtain⟨w,ew,rw'⟩:=r.get h2;have hl:=r.length;have hn:=fo;have fin:EP X pins σ Q w s:=⟨z,H,I,rw',q⟩
 exact subscriptTail_builtinR (x:=w) pl.typeIs slot_tuple_getitem.lookup
  (getItem_tuple (j:=j) (Q:=λr s'=>r=w/\EP X pins σ Q r s') pl (by lia) (by lia) (by rw[aL,<-hl];exact h1) (by simpa using ew) ⟨rfl,fin⟩) hs
theorem uK:IxR X rg:=by
 intro value slice pins s σ H x y v u Q I rx ry h hs;obtain⟨z,i,c,rfl,rfl,hz,he,q⟩:=h;obtain⟨t,rfl⟩:=rx;obtain⟨t',rfl⟩:=ry;obtain⟨j,h1,h2,h3,h4,h5⟩:=lJ he;have hl:z.cps.toList.length=z.length:=by simp[Str.length]
 rw[hl]at h1 h4 h5;have hn:=fo;exact tail_any (typeIs_str s z t) slot_str_getitem.lookup (getItem_str (c:=c) (by
  have e1:decide (i < -(2^63:Int))=false:=decide_eq_false (by lia);have e2:decide (i >= 2^63)=false:=decide_eq_false (by lia);rw[e1,e2,Bool.or_false]) (by rw[h1];simpa using h2) ⟨.str ⟨#[c]⟩,H,I.tok _,⟨_,rfl⟩,q⟩) hs
theorem Cb(its:List ae)(n j:Nat)(u:ae):Obj.mapSeq (·.setIfInBounds j u) {cls:=.type "list",data:=.seq its.toArray n}={cls:=.type "list",data:=.seq (its.set j u).toArray n}:=by
 simp[Obj.mapSeq]
theorem Inv.lst{pins:List (Addr×Obj)}{σ:St}{H:Hp}{s:af}{p:Addr}{xs:List V}(I:Inv X pins σ H s)(h:H p=some (.lst xs)) :
  ∃(its:List ae) (n:Nat),Vals xs its/\s.heap.get? p=some {cls:=.type "list",data:=.seq its.toArray n}/\xs.length<=sizeLine:=by
 obtain⟨z,its,n,r,e⟩:=I.hok p _ h;exact⟨its,n,r,e,z⟩
theorem Inv.lstUpd{pins:List (Addr×Obj)}{σ:St}{H:Hp}{s:af}{p:Addr}{xs ys:List V}{its its':List ae}{n n':Nat}{f:Obj->Obj}(I:Inv X pins σ H s)(h:H p=some (.lst xs))
  (ho:s.heap.get? p=some {cls:=.type "list",data:=.seq its.toArray n}) (hf:f {cls:=.type "list",data:=.seq its.toArray n}={cls:=.type "list",data:=.seq its'.toArray n'}) (r:Vals ys its') (hz:ys.length<=aI) (t:Nat) :
  Inv X pins σ (upd H p (.lst ys)) {s with heap:=s.heap.update p f,toks:=t}:=by
 have e:(s.heap.update p f).get? p=some {cls:=.type "list",data:=.seq its'.toArray n'}:=by
  rw[Heap.get?_update_self f ho (by rw[hf]<;>rfl),hf]
 refine I.write (x:=p) (e:=p) (by rw[h];trivial) (.inl rfl) (λb u hb q=>(Heap.get?_update_other _ _ (Ne.symm hb)).trans q) ⟨_,e⟩ ?_;exact⟨hz,its',n',r,e⟩
noncomputable def rJ:V->V->V->Hp->(Hp->Prop)->Prop:=λo i v H Q=>∃p xs k j,o=.ref p/\i=.int k/\H p=some (.lst xs)/\ixN xs.length k=some j/\Q (upd H p (.lst (xs.set j v)))
theorem set_list:mv X rJ:=by
 intro pins s σ H o i v ov iv u Q I ro ri rv h;obtain⟨p,xs,k,j,rfl,rfl,hp,hj,q⟩:=h;cases ro;obtain⟨t,rfl⟩:=ri;obtain⟨its,n,r,ho,hz⟩:=I.lst hp;obtain⟨h1,h2,h3,h4⟩:=nh hj;have hl:=r.length;have hn:=fo;have I':Inv X pins σ (upd H p (.lst (xs.set j v))) {s with heap:=s.heap.update p (Obj.mapSeq (·.setIfInBounds j u))}:=
  I.lstUpd hp ho (Cb its n j u) (r.set rv j) (by rw[List.length_set];exact hz) s.toks
 by_cases h0:0<=k
 ·have hk:k.toNat=j:=by
   rw[seqIndex_of h0 h4]at h1;exact bD h1
  exact PySem.W.ki_setAt ho h0 (by lia) (by rw[aL,<-hl];exact h4) (by rw[hk];exact⟨_,I',q⟩)
 ·have hk:(k+(its.toArray.size:Int)).toNat=j:=by
   rw[seqIndex_neg (by lia) h3]at h1;rw[aL,<-hl];exact bD h1
  exact PySem.W.ki_setBack ho (by lia) (by rw[aL,<-hl];exact h3) (by lia) (by rw[hk];exact⟨_,I',q⟩)
theorem yf(lo hi:Option Int)(n:Nat):(sliceBounds lo hi none n).1=((HT.sIx n 0 lo:Nat):Int)/\(sliceBounds lo hi none n).2.1=((HT.sIx n n hi:Nat):Int)/\(sliceBounds lo hi none n).2.2=1:=by
 refine⟨?_,?_,rfl⟩
 ·cases lo with
  |none=>simp[sliceBounds,HT.sIx]
  |some i=>
   simp only[sliceBounds,HT.sIx,Option.getD_none,show (1:Int)>0 by decide,if_true];by_cases h:i<0
   ·simp only[h,if_true]<;>lia
   ·simp only[h,if_false]<;>lia
 ·cases hi with
  |none=>simp[sliceBounds,HT.sIx]
  |some i=>
   simp only[sliceBounds,HT.sIx,Option.getD_none,show (1:Int)>0 by decide,if_true];by_cases h:i<0
   ·simp only[h,if_true]<;>lia
   ·simp only[h,if_false]<;>lia
theorem y9(its:List ae)(lo hi:Option Int):slicePick its.toArray lo hi none=((its.drop (HT.sIx its.length 0 lo)).take (HT.sIx its.length its.length hi-HT.sIx its.length 0 lo)).toArray:=by
 obtain⟨h1,h2,h3⟩:=yf lo hi its.toArray.size;unfold slicePick;rw[h1,h2,h3];simp only[sliceRange_one,pick_run,aL]<;>rfl
noncomputable def yJ(K:av):V->Option Int->Option Int->Hp->VK->Prop:=λx lo hi H Q=>∃a xs,x=.ref a/\SqL K H a xs/\∀p,H p=none->Q (.ref p) (upd H p (.lst (eR xs lo hi)))
theorem vV:SlR X (yJ X.K):=by
 intro pins s σ H x v vl vu lo hi sl Q I rx hs pl pu h;obtain⟨a,xs,rfl,hx,q⟩:=h;cases rx;obtain⟨its,r,ht,hz⟩:=I.list hx;have hlen:=r.length;refine⟨"list",_,slot_list_getitem.lookup,ht.isList.typeIs,?_⟩;refine wpAny_getItem_list_slice ht.isList hs pl pu .none (by simp) ?_ (by rw[aL]<;>lia);rw[y9,<-hlen];refine⟨.ref s.heap.objs.size,_,I.laid (t':=s.toks) (o:=.lst (eR xs lo hi)) (λb ob q=>Heap.get?_push_of_some _ q) (az _) ?_,rfl,q _ (I.hok.fresh (az _))⟩;exact⟨aX (nF xs lo hi) hz,_,0,(r.drop (HT.sIx xs.length 0 lo)).take (HT.sIx xs.length xs.length hi-HT.sIx xs.length 0 lo),Heap.get?_push_size _ rfl⟩
theorem CI:zm X (.builtin "len") (λxs H Q=>∃p ys,xs=[.ref p]/\(SqL X.K H p ys\/SqT X.K H p ys)/\Q (.int ys.length) H):=by
 intro pins s σ H xs us Q I r h;obtain⟨p,ys,rfl,hq,q⟩:=h;obtain⟨u,rfl,rx⟩:=vals1 r;cases rx;have hn:=fo;rcases hq with hq|hq
 ·obtain⟨its,r',pl,hz⟩:=I.list hq;have hlen:=r'.length;exact Calls.call_len_list pl.isList (by simp only[aL]<;>lia) ⟨.int ys.length,H,I.tok _,⟨s.toks+1,by rw[aL,hlen]⟩,q⟩
 ·obtain⟨its,r',pl,hz⟩:=I.tuple hq;have hlen:=r'.length;exact len_tuple pl (by simp only[aL]<;>lia) ⟨.int ys.length,H,I.tok _,⟨s.toks+1,by rw[aL,hlen]⟩,q⟩
theorem Bu:zm X (.builtin "len") (λxs H Q=>∃z,xs=[.str z]/\z.length<=aI/\Q (.int z.length) H):=by
 intro pins s σ H xs us Q I r h;obtain⟨z,rfl,hz,q⟩:=h;obtain⟨u,rfl,t,rfl⟩:=vals1 r;have hn:=fo;exact len_str (by lia) ⟨.int z.length,H,I.tok _,⟨_,rfl⟩,q⟩
theorem zm.or{f:ae}{r r':List V->Hp->VK->Prop}(h:zm X f r)(h':zm X f r'):zm X f (λxs H Q=>r xs H Q\/r' xs H Q):=by
 intro pins s σ H xs us Q I rs q;rcases q with q|q
 ·exact h pins s σ H xs us Q I rs q
 ·exact h' pins s σ H xs us Q I rs q
theorem tJ:zm X (.type "list") (λxs H Q=>∃p ys,xs=[.ref p]/\(SqL X.K H p ys\/SqT X.K H p ys)/\∀l,H l=none->Q (.ref l) (upd H l (.lst ys))):=by
 intro pins s σ H xs us Q I r h;obtain⟨p,ys,rfl,hq,q⟩:=h;obtain⟨u,rfl,rx⟩:=vals1 r;cases rx;have fin:∀(its:List ae),Vals ys its->ys.length<=aI->∀(h':Heap) (c':Nat),(∀b o',s.heap.get? b=some o'->h'.get? b=some o') ->
   h'.get? s.heap.objs.size=some {cls:=.type "list",dict:=none,data:=.seq its.toArray c',slots:=#[]}->EP X pins σ Q (.ref s.heap.objs.size) {s with heap:=h'}:=λits r' hz h' c' kp e=>
  ⟨.ref s.heap.objs.size,_,I.laid (t':=s.toks) kp (az _) (show zM X.prog X.w _ h' _ (.lst ys)from ⟨hz,its,c',r',e⟩),rfl,q _ (I.hok.fresh (az _))⟩
 rcases hq with hq|hq
 ·obtain⟨its,r',pl,hz⟩:=I.list hq;have hlen:=r'.length;obtain⟨o,ho,hc,n,hd⟩:=pl.isList;exact call_list_seq p (.inl rfl) ho hc hd (λh' c' kp e=>fin its r' hz h' c' kp e) (by simp only[aL]<;>lia)
 ·obtain⟨its,r',pl,hz⟩:=I.tuple hq;have hlen:=r'.length;obtain⟨o,ho,hc,n,hd⟩:=pl;exact call_list_seq p (.inr rfl) ho hc hd (λh' c' kp e=>fin its r' hz h' c' kp e) (by simp only[aL]<;>lia)
theorem vD:zm X (.type "tuple") (λxs H Q=>∃p ys,xs=[.ref p]/\((SqL X.K H p ys/\∀l,H l=none->Q (.ref l) (upd H l (.tup ys)))\/(SqT X.K H p ys/\Q (.ref p) H))):=by
 intro pins s σ H xs us Q I r h;obtain⟨p,ys,rfl,h⟩:=h;obtain⟨u,rfl,rx⟩:=vals1 r;cases rx;rcases h with ⟨hq,q⟩|⟨hq,q⟩
 ·obtain⟨its,r',pl,hz⟩:=I.list hq;have hlen:=r'.length;refine call_tuple_list pl.isList (λh' kp=>?_) (by simp only[aL]<;>lia);have I1:Inv X pins σ H {s with heap:=h'}:=I.kept (t':=s.toks) kp;have I2:Inv X pins σ (upd H h'.objs.size (.tup ys)) {s with heap:=h'.push {cls:=.type "tuple",data:=.seq its.toArray}}:=
   I1.laid (t':=s.toks) (λb o e=>Heap.get?_push_of_some _ e) (az _) (show zM X.prog X.w _ _ _ (.tup ys)from ⟨hz,its,r',IsTup.new _ _⟩)
  exact⟨.ref h'.objs.size,_,I2,rfl,q _ (I1.hok.fresh (az _))⟩
 ·obtain⟨its,r',pl,hz⟩:=I.tuple hq;exact call_tuple_same pl ⟨.ref p,H,I,rfl,q⟩
noncomputable def tyV(K:av)(T:String)(x:V)(H:Hp):Prop:=match x with
 | .str _=>T = "str"
 | .int _=>T = "int"
 | .ref p=>(T = "list"/\∃xs,SqL K H p xs)\/(T = "tuple"/\∃o,K.lookup p=some o/\o.cls=.type "tuple"/\o.dict=none) \/
   (T = "dict"/\((∃kvs,H p=some (.dK kvs))\/∃kvs,H p=some (.dT kvs)))\/(T = "set"/\∃S n,H p=some (.set S n))
 |_=>False
theorem Be{pins:List (Addr×Obj)}{σ:St}{H:Hp}{s:af}{T:String}{x:V}{v:ae}(I:Inv X pins σ H s)(r:RelV x v)(ty:tyV X.K T x H) :
  s.TypeIs v T/\∀a,v=.ref a->∃ob,s.heap.get? a=some ob/\ob.dict=none:=by
 cases x with
 |str z=>
  obtain⟨t,rfl⟩:=r;cases (show T = "str" from ty);exact⟨typeIs_str s z t,λ_ e=>nomatch e⟩
 |int i=>
  obtain⟨t,rfl⟩:=r;cases (show T = "int" from ty);exact⟨typeIs_int s i t,λ_ e=>nomatch e⟩
 |ref p=>
  cases r;rcases ty with ⟨rfl,xs,hq⟩|⟨rfl,o,hk,hc,hd⟩|⟨rfl,hk⟩|⟨rfl,S,n,hk⟩
  ·obtain⟨its,_,pl,_⟩:=I.list hq;refine⟨pl.isList.typeIs,λa e=>?_⟩;cases e;obtain⟨o,n,e,c,hd,_⟩:=pl;exact⟨o,e,hd⟩
  ·refine⟨⟨o,I.kIn p o hk,hc⟩,λa e=>?_⟩;cases e;exact⟨o,I.kIn _ o hk,hd⟩
  ·have z:∃o,s.heap.get? p=some o/\o.ExactDict:=by
    rcases hk with ⟨kvs,hk⟩|⟨kvs,hk⟩
    ·obtain⟨_,_,_,_,o,_,_,e,ex,_⟩:=I.hok p _ hk;exact⟨o,e,ex⟩
    ·obtain⟨_,_,_,_,o,_,_,e,ex,_⟩:=I.hok p _ hk;exact⟨o,e,ex⟩
   obtain⟨o,e,ex⟩:=z;refine⟨⟨o,e,ex.1⟩,λa e2=>?_⟩;cases e2;exact⟨o,e,ex.2.1⟩
  ·obtain⟨o,_,_,_,e,ex,_⟩:=I.hok p _ hk;refine⟨⟨o,e,ex.1⟩,λa e2=>?_⟩;cases e2;exact⟨o,e,ex.2.1⟩
 |_=>exact aS ty
noncomputable def tBM(K:av)(T:String)(r:V->List V->Hp->VK->Prop)(to:TE)(t:TA):TE:=λσ H Q=>to σ H λx H1=>tyV K T x H1/\t σ H1 λxs H2=>r x xs H2 Q
variable{o e:Expr}{es:List Expr}{to:TE}{t:TA}{name:Str}{apos cpos:Pos}{T id:String}{r:V->List V->Hp->VK->Prop}
theorem gv(pa:PlainAttrs T)(slot:Slot T name id)(hty:typeOf (.builtin id)=pure (.type "method_descriptor"))(hm:MtR X id r)(ho:PE X o to)(ha:PA X (e::es) t)
  (hbase:attributeBase o name X.env (eval o X.env)=eval o X.env:=by rfl)
  (hfew:((backTo cpos (aP (e::es) X.env)).all (λx=>!x.1)&&(backToKw cpos (keywordEach [] X.env)).all (λx=>x.1.isSome)
   && decide ((e::es).length+([]:List Keyword).length+(if ([]:List Keyword).isEmpty then 0 else 1)<30))=true:=by rfl)
  (hline:(apos.endLine==cpos.line)=true:=by rfl) (hs:aP (e::es) X.env=(false,eval e X.env)::aP es X.env:=by rfl) (hplain:(backTo cpos (aP es X.env)).any (·.1)=false:=by rfl) :
  PE X (.Call (.Attribute o name apos) (e::es) [] cpos) (tBM X.K T r to t):=by
 intro pins s σ H Q I h;refine wpAny_Call_method_late hbase hfew hline rfl (thn (ho pins s σ H _ I h) λv s1 ⟨x,H1,I1,r1,ty,q1⟩=>?_);obtain⟨h1,h2⟩:=Be I1 r1 ty;refine⟨T,id,pa,slot,hty,h1,h2,?_⟩;have hA:=ha cpos pins s1 σ H1 _ I1 q1;rw[hs]at hA ⊢;refine Calls.callWith_builtin (by show (false||(backTo cpos (aP es X.env)).any (·.1))=false;rw[hplain]<;>rfl) (Calls.evalArgs_plain ?_);exact thn hA λus s2 ⟨vs,H2,I2,r2,q2⟩=>hm pins s2 σ H2 x vs v us Q I2 r1 r2 q2
/- xs.append(e), list.index on a module's tuple .. are MtR facts of 06m -/
end
noncomputable def MtM(X:Cx)(id:String)(r:V->List V->Hp->VK->Prop):Prop:=
 ∀(pins:List (Addr×Obj)) (s:af) (σ:St) (H:Hp) (x:V) (xs:List V) (v:ae) (us:List ae) (Q:VK),Inv X pins σ H s->RelV x v->Vals xs us->r x xs H Q ->
  aj (ak X.prog X.w) X.A (call (.builtin id) (v::us)) (EP X pins σ Q) X.xe s
theorem Vals.one{x:V}{us:List ae}(h:Vals [x] us):∃u,us=[u]/\RelV x u:=by
 cases h with
 |cons r h=>cases h;exact⟨_,rfl,r⟩
theorem Vals.two{x y:V}{us:List ae}(h:Vals [x,y] us):∃u v,us=[u,v]/\RelV x u/\RelV y v:=by
 cases h with
 |cons r h=>cases h with
  |cons q h=>cases h;exact⟨_,_,rfl,r,q⟩
theorem Vals.zero:∀{us:List ae},Vals [] us->us=[]
 |_,.nil=>rfl
section
variable{X:Cx}{pins:List (Addr×Obj)}{σ:St}{H:Hp}{s:af}{l b:Addr}{xs ys zs:List V}
theorem Inv.lset{its its':List ae}{n:Nat}{f:Array ae->Array ae}{t':Nat}(I:Inv X pins σ H s)(hH:H l=some (.lst xs))
  (e:s.heap.get? l=some {cls:=.type "list",data:=.seq its.toArray n}) (hf:f its.toArray=its'.toArray) (hv:Vals ys its') (hz:ys.length<=aI) :
  Inv X pins σ (upd H l (.lst ys)) {s with heap:=s.heap.update l (Obj.mapSeq f),toks:=t'}:=by
 have q:=PySem.IsL.update e f;rw[hf]at q;refine I.write (x:=l) (e:=l) (by rw[hH];exact trivial) (.inl rfl) (λb' u hb hu=>(Heap.get?_update_other s.heap (Obj.mapSeq f) (Ne.symm hb)).trans hu) ⟨_,q⟩ ?_;exact⟨hz,its',_,hv,q⟩
theorem Inv.lnew{its:List ae}{t':Nat}(I:Inv X pins σ H s)(hv:Vals ys its)(hz:ys.length<=aI) :
  Inv X pins σ (upd H s.heap.objs.size (.lst ys)) {s with heap:=s.heap.push {cls:=.type "list",data:=.seq its.toArray},toks:=t'}:=
 I.laid (λ_ _ q=>Heap.get?_push_of_some _ q) (az _) ⟨hz,its,0,hv,Heap.get?_push_size _ rfl⟩
theorem Inv.fresh(I:Inv X pins σ H s):H s.heap.objs.size=none:=I.hok.fresh (az _)
theorem Inv.lstM(I:Inv X pins σ H s)(hH:H l=some (.lst xs)):xs.length<=aI/\∃(its:List ae) (n:Nat),Vals xs its/\xs.length=its.length/\s.heap.get? l=some {cls:=.type "list",data:=.seq its.toArray n}:=by
 obtain⟨z,its,n,r,e⟩:=I.hok l _ hH;exact⟨z,its,n,r,r.length,e⟩
end
section
variable{X:Cx}
noncomputable def uI:V->List V->Hp->VK->Prop:=λx vs H Q=>∃l xs y,x=.ref l/\vs=[y]/\H l=some (.lst xs)/\xs.length<aI/\Q .non (upd H l (.lst (xs++[y])))
theorem p9:MtM X "list.append" uI:=by
 intro pins s σ H x vs v us Q I rx rv h;obtain⟨l,xs,y,rfl,rfl,hH,hz,q⟩:=h;cases rx;obtain⟨u,rfl,ru⟩:=rv.one;obtain⟨z,its,n,r,hl,e⟩:=I.lstM hH;refine call_meets F.slot_list_append ⟨_,e,rfl⟩ F.entry_list_append (F.args_list_append_2 _ _) (PySem.list_append l its.toArray n u (by rw[aL];lia)) ⟨e,?_⟩;refine⟨.non,_,I.lset (its':=its++[u]) hH e (by simp) (r.append (.cons ru .nil)) ?_,rfl,q⟩;rw[List.length_append,List.length_singleton];lia
end
section
variable{prog:ay}{w:au}{A:ax}{E:ae->af->Prop}{s:af}
set_option maxRecDepth 100000 in
end
section
variable{X:Cx}
end
end L2
namespace Att
open PySem PySem.W PySem.Calls PyProof.Rows
theorem De{P:Params}{h:Heap}:∀(ns:List Int) (vs:List ae),WellAll P h vs (ns.map WData.int)->a9 vs ns:=by
 intro ns
 induction ns with
 |nil=>
  intro vs w;rw[List.map_nil]at w;cases w;exact .nil
 |cons n ns ih=>
  intro vs w;rw[a7]at w;cases w with
  |cons a b=>
   cases a;exact .cons _ _ (ih _ b)
theorem DF{l:OpenLaw}{n:Nat}(hn:l.most=some n){P:Params}{h:Heap}{args:List WData}{vals:List ae}
  (hpre:l.row.toRowW.claim.pre args=true) (hwl:WellAll P h vals args) :
  ∃a vs ns,vals=[bf a]/\args=[WData.list (ns.map WData.int)]/\h.get? a=some {cls:=.type "list",data:=.seq vs.toArray}/\a9 vs ns/\ns.length<=n:=by
 have hsh:WShape.hasAll [] args [.list .int]=true:=(pre_splitW hpre).1;have hc:l.pre.holds [] {args:=args}=true:=(pre_splitW hpre).2;obtain⟨d,r,rfl,h1,h2⟩:=hasAllW_cons hsh;obtain rfl:=hasAllW_nil h2;obtain⟨xs,rfl,h3⟩:=hasW_list h1;obtain⟨ns,rfl⟩:=items_int h3;have hlen:ns.length<=n:=by
  unfold OpenLaw.pre at hc;have h4:(WTm.not (.lt (.lit (.int (n:Int))) (.len (.arg 0)))).holds [] {args:=[.list (ns.map .int)]}=true:=by
   have h4:=(holds_andW hc).1;rw[hn]at h4;exact h4
  have h5:=condW_of h4 (w_not (w_lt w_lit (w_len_list (w_arg rfl))));rw[aV]at h5;refine dw λq=>?_
  have q':(n:Int)<((ns.length:Nat):Int):=by lia
  first
   | (rw[decide_eq_true q']at h5;exact absurd h5 (by decide))
   | (simp at h5;lia)
 cases hwl with
 |cons w1 w2=>
  cases w2;cases w1 with
  |list ho hall=>exact⟨_,_,ns,rfl,rfl,ho,De ns _ hall,hlen⟩
theorem tB(l:OpenLaw)(args:List WData):l.row.toRowW.claim.post args (.bool true) args=true:=
 postW_of (r:=l.row.toRowW) (X:=(true==true))
  (show WShape.has [] (.bool true) .bool=true by first|rfl|decide|simp[WShape.has,WShape.arms,WShape.armsAll])
  (show (WTm.eq .res (.lit (.bool true))).value [] {args:=args,res:=some (.bool true),after:=args}=some (.bool (true==true))from w_eq_bool (w_res rfl) w_lit) rfl
theorem B5{l:OpenLaw}{n:Nat}{q:ay}{loose:List Str}{XP:(Str->Option ae)->Heap->Prop}{YP:au->Heap->Prop}{d:DefRec}
  (hn:l.most=some n) (hdf:d.params.defaults=[])
  (call:∀(w:au) (s₀ s₁:af) (mg mb:Str->Option ae) (fa:Addr) (o:Obj) (pm cd doc:ae) (a:Addr) (vs:List ae) (ns:List Int),
   Ground q loose [] XP w s₀ mg mb s₁.heap->YP w s₁.heap ->
   s₁.heap.get? fa=some o->o.data=.func (docDef d.name d.params d.body d.scope pm cd doc)->s₁.heap.CodeRec cd d.name->mg d.name=some (.ref fa) ->
   s₁.heap.get? a=some {cls:=.type "list",data:=.seq vs.toArray}->a9 vs ns->ns.length<=n->s₁.gens = #[] ->
   codeAny (ak l.prog w) callerA (.call (.ref fa) ⟨[.ref a],[]⟩) (λr s'=>r=.ok (.ret (.bool true))/\OldK s₁.heap s'.heap/\s'.os=s₁.os/\AllBare s'.gens) s₁) :
  WalkO q loose XP YP l.row.toRowW d [] (λf vs=>PySem.call f vs):=by
 intro w s₀ s₁ mg mb G Y fa o pm cd doc dV kV ho hd hcd hD hmg hg args vals as hpre hlay hrd hwl hlo;obtain rfl:dV=.none:=Dflts.none hD hdf;obtain rfl:kV=.none:=Dflts.noKw hD;obtain⟨a,vs,ns,rfl,rfl,hobj,hints,hlen⟩:=DF hn hpre hwl;refine enter_call (cb (call w s₀ s₁ mg mb fa o pm cd doc a vs ns G Y ho (fd_plain hd) hcd hmg hobj hints hlen hg) λr s' hq=>?_);obtain⟨rfl,h2,h3,h4⟩:=hq;exact⟨.inl ⟨.bool true,.bool true,[],rfl,λ_=>rfl,.bool true,tB l _,λ_=>⟨List.Pairwise.nil,λ_ hm=>(nomatch hm)⟩⟩,h2,h3,h4⟩
section
variable{prog:ay}{w:au}{A:ax}{E:ae->af->Prop}{s:af}{K:Frag}
end
end Att
namespace L2
open PySem PySem.Spec PyProof.Rows
theorem nJ:∀{vs:List ae}{ns:List Int},a9 vs ns->Vals (ns.map V.int) vs
 |_,_,.nil=>.nil
 |_,_,.cons n t h=>.cons ⟨t,rfl⟩ (nJ h)
noncomputable def ka(H:Hp):Prop:=∀b,H b=none\/∃o xs,H b=some (.frz o (.lst xs))
theorem B'{P:ay}{w:au}{K:av}{mg mb:Str->Option ae}{CX:CXT}{k:Nat}{fa a:Addr}{fd:bw}{x:Str}{sp:Sp}{s₁:af}{vs:List ae}{ns:List Int}
  (KX:K.In s₁.heap) (hns:s₁.heap.Ns ao mg) (hb:s₁.heap.Ns builtinsNs mb) (hbb:∀x:Str,x≠"__name__"->mb x=bz x) (hlim:s₁.heap.NoLimit) (hg:s₁.gens = #[])
  (ha:s₁.heap.get? a=some {cls:=.type "list",data:=.seq vs.toArray}) (hi:a9 vs ns) (hl:ns.length<=aI) (hr:bW k callerA)
  (F:∀base:Heap,K.In base->base.Ns ao mg->eV P w K mg base CX k fa fd [x] sp) (hbind:∀(s:af) (u:ae),BindsTo s fd ⟨[u],[]⟩ [(x,u)])
  (hsp:∀H:Hp,ka H->SqL K H a (ns.map V.int)->sp [.ref a] H (λv _=>v=.bl true) λ_ _ _=>False)
  (hCX:∀H e s',CX [] H s₁ (λ_ _ _=>False) e s'->False) :
  codeAny (ak P w) callerA (.call (.ref fa) ⟨[.ref a],[]⟩) (λr s'=>r=.ok (.ret (.bool true))/\OldK s₁.heap s'.heap/\s'.os=s₁.os/\AllBare s'.gens) s₁:=by
 have rv:=nJ hi;have lenV:=hi.length
 -- from an abstract heap in which nothing but the script may be tracked
 have core:∀H:Hp,ka H->SqL K H a (ns.map V.int)->HOk P w H s₁.heap->(∀b,H b≠none->b=a)->(H a≠none->K.lookup a=none) ->
   codeAny (ak P w) callerA (.call (.ref fa) ⟨[.ref a],[]⟩) (λr s'=>r=.ok (.ret (.bool true))/\OldK s₁.heap s'.heap/\s'.os=s₁.os/\AllBare s'.gens) s₁:=by
  intro H hO hS hok hA hK;have base_of:∀{b:Addr}{o:Obj},s₁.heap.get? b=some o->H b=none->(eB s₁.heap H).get? b=some o:=λe n=>xk e n
  have noA:∀{b:Addr}{o:Obj}{es:Array DictEntry}{ep:Nat},s₁.heap.get? b=some o->o.data=.dict es ep->H b=none:=λ{b o es ep} e d=>by
   cases q:H b with
   |none=>rfl
   |some u=>
    have e':b=a:=hA b (by rw[q];simp);subst e';rw[ha]at e;cases e;have d':Data.seq vs.toArray _=Data.dict es ep:=d;cases d'
  have nsK:∀{b:Addr}{m:Str->Option ae},s₁.heap.Ns b m->(eB s₁.heap H).Ns b m:=λ{b m} ⟨o,es,ep,e,d,r⟩=>⟨o,es,ep,base_of e (noA e d),d,r⟩
  have hKb:K.In (eB s₁.heap H):=λb o e=>base_of (KX b o e) (by
   cases q:H b with
   |none=>rfl
   |some u=>
    have e':b=a:=hA b (by rw[q];simp);subst e';rw[hK (by rw[q];simp)]at e;cases e)
  have hM:Mod K mg (eB s₁.heap H):=⟨hKb,nsK hns,⟨mb,nsK hb,hbb⟩,let ⟨mc,h1,h2⟩:=hlim;⟨mc,nsK h1,h2⟩⟩
  have e0:fG P w K mg (eB s₁.heap H) callerA [] s₁ H:=⟨rfl,hM,λb o e=>s_ e,Nat.le_of_eq (CN _ _),trivial,λb hb=>absurd (show b∈([]:List Addr)from hb) (by simp),hok,.of_eq hg⟩
  refine cb ((F _ hKb (nsK hns)).run callerA [] s₁ H ⟨[.ref a],[]⟩ [.ref a] [.ref a] _ _ hr e0 (hbind s₁ (.ref a)) (.cons rfl .nil) (hsp H hO hS)) λr s' h=>?_
  cases r with
  |error e=>exact(hCX H e s' h).elim
  |ok fl=>
   cases fl with
   |next=>exact aS h
   |brk=>exact aS h
   |cont=>exact aS h
   |ret u=>
    obtain⟨v,H',os,bare,un,hok',r',q⟩:=h;have q':v=.bl true:=q;subst q';obtain rfl:u=bu true:=r';refine⟨rfl,OldK.of_keep λb o e=>?_,os,bare⟩;cases q:H b with
    |none=>exact un.keep b o e q (by intro z;exact absurd (show b∈([]:List Addr)from z) (by simp)) (by simp)
    |some u=>
     rcases hO b with z|⟨ob,xs,z⟩
     ·rw[q]at z;cases z
     ·have z2:=un.frzs b ob _ z;obtain⟨e1,_⟩:=hok b _ z;obtain⟨e2,_⟩:=hok' b _ z2;rw[e]at e1;cases e1;exact e2
 cases hk:K.lookup a with
 |some o=>
  -- the script is one of the module's own objects
  have e:=KX a o hk;rw[ha]at e;cases e;refine core (λ_=>none) (λ_=>.inl rfl) (.inr ⟨_,vs.toArray,_,hk,rfl,rfl,rfl,by rw[aL,lenV];exact hl,by simpa using rv⟩) (λb u z=>by have z':(none:Option HO)=some u:=z;cases z') (λb z=>absurd rfl z) λz=>absurd rfl z
 |none=>
  refine core (λb=>if b=a then some (.frz {cls:=.type "list",data:=.seq vs.toArray} (.lst (ns.map V.int)))else none) (λb=>?_) (.inl (.inr ⟨{cls:=.type "list",data:=.seq vs.toArray},if_pos rfl⟩)) (λb u z=>?_) (λb z=>?_) λ_=>hk
  ·by_cases hb:b=a
   ·exact .inr ⟨_,_,if_pos hb⟩
   ·exact .inl (if_neg hb)
  ·by_cases hb:b=a
   ·have z':=(if_pos hb).symm.trans z;cases z';subst hb;exact⟨ha,by rw[aV];exact hl,vs,_,rv,ha⟩
   ·have z':=(if_neg hb).symm.trans z;cases z'
  ·by_cases hb:b=a
   ·exact hb
   ·exact absurd (if_neg hb) z
theorem Bs{l:PySem.W.OpenLaw}{n k:Nat}{q:ay}{loose:List Str}{XP:(Str->Option ae)->Heap->Prop}{YP:au->Heap->Prop}{d:DefRec}{K:Params->av}{CX:au->CXT}{sp:au->Sp}{x:Str}
  (hn:l.most=some n) (hn2:n<=aI) (hdf:d.params.defaults=[]) (hr:bW k callerA)
  (hY:∀(w:au) (h:Heap),YP w h->(K w.params).In h)
  (F:∀(w:au) (mg:Str->Option ae) (fa:Addr) (h:Heap),(K w.params).In h->h.Ns ao mg->mg d.name=some (.ref fa) ->
   ∃fd:bw,(∀(s:af) (u:ae),BindsTo s fd ⟨[u],[]⟩ [(x,u)]) /\
    ∀base:Heap,(K w.params).In base->base.Ns ao mg->eV l.prog w (K w.params) mg base (CX w) k fa fd [x] (sp w))
  (hsp:∀(w:au) (H:Hp) (a:Addr) (ns:List Int),ns.length<=n->ka H->SqL (K w.params) H a (ns.map V.int)->sp w [.ref a] H (λv _=>v=.bl true) λ_ _ _=>False)
  (hCX:∀(w:au) (H:Hp) (s:af) (e:ae) (s':af),CX w [] H s (λ_ _ _=>False) e s'->False) :
  PySem.W.WalkO q loose XP YP l.row.toRowW d [] (λf vs=>PySem.call f vs):=by
 refine Att.B5 hn hdf λw s₀ s₁ mg mb fa o pm cd doc a vs ns G Y ho hd hcd hmg hobj hints hlen hg=>?_
 have KX:=hY w _ Y;obtain⟨fd,hb,hF⟩:=F w mg fa _ KX G.T.g hmg;exact B' KX G.T.g G.T.b G.T.builtins G.T.nolimit hg hobj hints (aX hlen hn2) hr hF hb (λH hO hS=>hsp w H a ns hlen hO hS) λH e s'=>hCX w H s₁ e s'
end L2
/- THE LAST THEOREM (shape; LID, My.* are yours):
   My.Adr: a structure of the addresses that your layer names (classes, functions); My.Txt K t: a structure (Prop) of the equations over K;
   My.txt_mk : {K} {implicit addresses ..} (e1 : nsIn K mainGlobals "law" = some (some (.ref f))) (e2 : K.lookup f = some ⟨oc, od, .func (fnOf "law" "law" params body scope dV kV doc pm an cdv ct), sl⟩) (e3 : codeIn K cdv "law" = true) .. : ∃ t, My.Txt K t
set_option maxRecDepth 100000 in
set_option maxHeartbeats 0 in
theorem PySem.Challenge.cw_LID_holds : PySem.Challenge.rw_LID.Holds := by
 w_on; o_law; k_head; (case hw => w_witness2)
 k_fill
 refine L2.walk_of (l := PySem.Challenge.rw_LID) (n := 63) (k := 40) (x := "script") (CX := fun w => ..) (sp := fun _ => My.sp_law) rfl (by decide) rfl ⟨rfl, by decide, by decide⟩ (fun w h Y => PySem.W.kIn_of Y) ?F ?S ?C
 case F =>
  intro w mg fa h KX G hmg;have T : ∃ t, My.Txt (L2.KOf KX) t := by
   dsimp only [L2.KOf]                          -- K must stand as «<heap const> w.params» for k_is
   refine' My.txt_mk ?e1 ?e2 ?e3 ..
   (case e1 => PySem.W.k_is)                    -- in the order: a name -> its address -> its object -> its parts
   (case e2 => PySem.W.k_is)
   ..
  obtain ⟨t, T⟩ := T;have e0 := hmg.symm.trans (PySem.W.mg_of KX G T.law);cases e0                                       -- fa is the law's own address
  exact ⟨_, fun s u => .of_eq rfl, fun base kb nb => My.law_fn T kb nb⟩     -- if «.of_eq rfl» comes too early: refine' ⟨_, ?b, fun base kb nb => My.law_fn T kb nb⟩; exact fun s u => .of_eq rfl
 case S => exact fun w H a ns hl hO hS => ..
 case C => exact ..
(the tactic k_is has no namespace: write k_is) -/
namespace L2
open PySem PySem.Spec PyProof.Rows
noncomputable def zc(s:Stmt):Arguments:=match s with
 | .FunctionDef _ a _ _ _ _ _ _ _ _=>a
 |_=>{posonlyargs:=[],args:=[],vararg:=none,kwonlyargs:=[],kw_defaults:=[],kwarg:=none,defaults:=[]}
noncomputable def zV(s:Stmt):List Stmt:=match s with
 | .FunctionDef _ _ b _ _ _ _ _ _ _=>b
 |_=>[]
noncomputable def za(s:Stmt):Scope:=match s with
 | .FunctionDef _ _ _ _ _ _ sc _ _ _=>sc
 |_=>{kind:=.function,names:=[],isGenerator:=false,isCoroutine:=false}
abbrev E0:XK:=λ_ _ _=>False
structure Fun(K:av)(x qual:Str)(st:Stmt)(f:Addr)(fd:bw):Prop where
 ex:∃(oc:ae) (od:Option Addr) (kV doc pm:ae) (an:Option Addr) (cdv ct:ae) (osl:Array (Option ae)),
  fd=bN x qual (zc st) (zV st) (za st) .none kV doc pm an cdv ct/\K.lookup f=some ⟨oc,od,.func fd,osl⟩/\PySem.W.codeIn K cdv qual=true
 kp:b9 K (.ref f)=true
section
variable{P:ay}{w:au}{K:av}{mg:Str->Option ae}{base:Heap}
theorem Fun.binds{x qual:Str}{st:Stmt}{f:Addr}{fd:bw}{ps:List Str}(F:Fun K x qual st f fd)
  (h:∀(kV doc pm:ae) (an:Option Addr) (cdv ct:ae) (us:List ae),us.length=ps.length->bindArgs (bN x qual (zc st) (zV st) (za st) .none kV doc pm an cdv ct) ⟨us,[]⟩=pure (ps.zip us)):Binds K fd ps []:=by
 obtain⟨oc,od,kV,doc,pm,an,cdv,ct,osl,rfl,lk,hcd⟩:=F.ex;exact .all (h kV doc pm an cdv ct)
theorem oH{x qual:Str}{st:Stmt}{f:Addr}{oc:ae}{od an:Option Addr}{osl:Array (Option ae)}{kV doc pm cdv ct:ae}(l:K.lookup f=some ⟨oc,od,.func (bN x qual (zc st) (zV st) (za st) .none kV doc pm an cdv ct),osl⟩)
  (c:PySem.W.codeIn K cdv qual=true) (k:b9 K (.ref f)=true):Fun K x qual st f (bN x qual (zc st) (zV st) (za st) .none kV doc pm an cdv ct):=⟨⟨oc,od,kV,doc,pm,an,cdv,ct,osl,rfl,l,c⟩,k⟩
end
section
variable{X:Cx}
end
noncomputable def qg(H H':Hp):Prop:=∀b o,H b=some o->H' b=some o
theorem qg.refl(H:Hp):qg H H:=λ_ _ h=>h
theorem qg.trans{H H1 H2:Hp}(a:qg H H1)(b:qg H1 H2):qg H H2:=λc o h=>b c o (a c o h)
theorem qg.free{H H':Hp}(e:qg H H'){l:Addr}(h:H' l=Option.none):H l=Option.none:=by
 cases q:H l with
 |none=>rfl
 |some o=>
  rw[e l o q]at h;cases h
theorem qg.seq{K:av}{H H':Hp}{a:Addr}{xs:List V}(e:qg H H')(h:SqL K H a xs):SqL K H' a xs:=by
 rcases h with (h|⟨o,h⟩)|h
 ·exact .inl (.inl (e _ _ h))
 ·exact .inl (.inr ⟨o,e _ _ h⟩)
 ·exact .inr h
noncomputable def eA(elt:Expr)(gens:List b_)(scope:aO)(pos:Pos)(d:Nat)(acc:ae)(env:Env):Sem Unit:=
 match gens[d+1]? with
 |some g'=>do
  let x <-eval g'.iter env
  standAt g'.iter.pos
  let x <-foldedSetIterable g'.iter env x
  let _ <-runOwn (.compStart (.ListComp elt gens scope pos) (d+1) (<-holding [x] (pyIter x)) acc env) env
  pure ()
 |none=>do
  let _ <-call (.builtin "list.append") [acc,<-eval elt env]
  pure ()
theorem wJ{elt:Expr}{gens:List b_}{scope:aO}{pos:Pos}{d:Nat}{g:b_}{it acc:ae}{env:Env}(hg:gens[d]? = some g)(ha:g.is_async=0)
  (hn:∀g',gens[d+1]? = some g'->g'.is_async=0) :
  compTurn (.ListComp elt gens scope pos) d it acc env=(do
   standAt g.iter.pos
   match <-pyNext it with
   |none=>pure (.done .next)
   |some v=>
    letOwnedTupleGo g.target it v
    assign g.target env v
    let ok <-(forIn g.ifs true λc r=>if r=true then do let ok <-isTrue c env (eval c env);pure (cP ok)else pure (cP r))
    if ok then
     eA elt gens scope pos d acc env
     again (.compLoop (.ListComp elt gens scope pos) d it acc env)
    else again (.compLoop (.ListComp elt gens scope pos) d it acc env)):=by
 unfold compTurn;cases e:gens[d+1]? with
 |none=>
  simp only[hg,ha,e,eA]
  rfl
 |some g'=>
  have ha':=hn g' e;simp only[hg,ha,e,ha',eA];simp only[bne_self_eq_false,bg,if_false,bind_assoc,pure_bind]
  rfl
theorem A3{prog:ay}{w:au}{A:ax}{R:Result->af->Prop}{s:af}{elt:Expr}{gens:List b_}{scope:aO}{pos:Pos}{d:Nat}{g:b_}{it acc:ae}{env:Env}
  (hg:gens[d]? = some g) (ha:g.is_async=0)
  (h0:codeAny (ak prog w) A (.compLoop (.ListComp elt gens scope pos) d it acc env) R s)
  (h:aj (ak prog w) A (pyIter it) (λit' s'=>codeAny (ak prog w) A (.compLoop (.ListComp elt gens scope pos) d it' acc env) R s')
   (notedBy (ak prog w) A env λx s'=>R (.error x) s') s) :
  codeAny (ak prog w) A (.compStart (.ListComp elt gens scope pos) d it acc env) R s:=by
 refine codeAny_of_tree ?_;show aj _ _ ((compStart (.ListComp elt gens scope pos) d it acc env).onRaise (λx=>do noteFrame x env;standAt theWindowsPlace)) _ _ s;refine wpAny_notedAt ?_;unfold compStart;have e2:(clausesOf (.ListComp elt gens scope pos))[d]? = some g:=hg;simp only[e2];rw[if_neg (by show ¬ (g.is_async != 0)=true;simp[ha])];show aj _ _ (ask>>=_) _ _ s;refine ag (wpAny_askSetting (wpAny_ite ?_));split
 ·first
   |exact ag (ar (ar (aw rfl h0)))
   |exact ar (aw rfl h0)
 ·first
   |exact ag (wpAny_rule (ag (wpAny_standAt (ag (bI h (λit' s' h'=>ar (aw rfl h')) λ_ _ x=>x)))))
   | (refine ag (wpAny_rule ?_);show aj _ _ (standAt g.iter.pos>>=_) _ _ s;exact ag (wpAny_standAt (ag (bI h (λit' s' h'=>ar (aw rfl h')) λ_ _ x=>x))))
noncomputable def PTs(Y:Cx)(ifs:List Expr)(t:TT):Prop:=
 ∀(pins:List (Addr×Obj)) (s:af) (σ:St) (H:Hp) (Q:Bool->Hp->Prop),Inv Y pins σ H s->t σ H Q ->
  aj (ak Y.prog Y.w) Y.A (forIn ifs true λc r=>if r=true then do let ok <-isTrue c Y.env (eval c Y.env);pure (cP ok)else pure (cP r)) (TP Y pins σ Q) Y.xe s
noncomputable def sv:TT:=λ_ H Q=>Q true H
theorem Co{Y:Cx}:PTs Y [] sv:=λ_ _ _ H _ I h=>wpAny_tests_nil ⟨H,I,h⟩
theorem DR{Y:Cx}{c:Expr}{t:TT}(hc:PT Y c t):PTs Y [c] t:=λpins s σ H Q I h=>wpAny_tests_one (hc pins s σ H Q I h)
noncomputable def PB(Y:Cx)(m:Sem Unit)(t:TS):Prop:=
 ∀(pins:List (Addr×Obj)) (s:af) (σ:St) (H:Hp) (D:Ends),Inv Y pins σ H s->t D σ H ->
  aj (ak Y.prog Y.w) Y.A m (λ_ s'=>∃σ' H',Inv Y pins σ' H' s'/\D.nx σ' H') Y.xe s
section
variable{Y:Cx}{elt:Expr}{gens:List b_}{scope:aO}{pos:Pos}{d:Nat}
noncomputable def jL(acc:Addr)(te:TE):TS:=λD σ H=>te σ H λy H1=>∃xs,H1 acc=some (.lst xs)/\xs.length<aI/\D.nx σ (upd H1 acc (.lst (xs++[y])))
theorem nT{acc:Addr}{te:TE}(hn:gens[d+1]? = none)(he:PE Y elt te):PB Y (eA elt gens scope pos d (.ref acc) Y.env) (jL acc te):=by
 intro pins s σ H D I h;unfold eA;rw[hn];refine ag (thn (he pins s σ H _ I h) λu s1 ⟨y,H1,I1,r1,xs,hx,hz,q⟩=>?_);refine ag (thn (p9 pins s1 σ H1 (.ref acc) [y] (.ref acc) [u] (λ_ H'=>D.nx σ H') I1 rfl (.cons r1 .nil) ⟨acc,xs,y,rfl,rfl,hx,hz,q⟩) λ_ s2 ⟨_,H2,I2,_,q2⟩=>?_);exact ar ⟨σ,H2,I2,q2⟩
theorem AA{g:b_}{it:Addr}{acc:ae}{fp:List Addr}{tn:Nat->Heap->Prop}{J:It}{tg:TG}{tt:TT}{tb:TS}(hc:Y.calm=true)(hx:∀e s,¬ Y.xe e s)(hg:gens[d]? = some g)(ha:g.is_async=0)
  (hn:∀g',gens[d+1]? = some g'->g'.is_async=0) (T:Turn Y.prog Y.w Y.K g.target J fp it tn) (pg:PG Y g.target tg) (pt:PTs Y g.ifs tt) (pb:PB Y (eA elt gens scope pos d acc Y.env) tb)
  {pins:List (Addr×Obj)}{s:af}{σ:St}{H:Hp}{D:Ends} (I:Inv Y pins σ H s) (st:tn 0 s.heap) (fr:∀b∈fp,cQ Y pins H b)
  (h:∃W:Nat->Nat->St->Hp->Prop,(∃m,W 0 m σ H)/\∀i m σ H,W i m σ H ->
   (J.stop i H/\D.nx σ H)\/(J.go i H/\∃N:St->Hp->Prop,(∀σ' H',N σ' H'->∃m',m'<m/\W (i+1) m' σ' H')/\∀x H',J.yld i H x H'->tg x σ H' λσ2 H2=>jo tt tb gZ {D with nx:=N,ct:=N,bk:=D.nx} σ2 H2)) :
  codeAny (ak Y.prog Y.w) Y.A (.compLoop (.ListComp elt gens scope pos) d (.ref it) acc Y.env) (λr s'=>r=.ok .next/\∃σ' H',Inv Y pins σ' H' s'/\D.nx σ' H') s:=by
 obtain⟨W,⟨m0,w0⟩,turn⟩:=h;have stat:∀{H':Hp},(∀b∈fp,H' b=none)->∀b∈fp,cQ Y pins H' b:=λhn b hb=>⟨hn b hb,(fr b hb).2⟩
 refine codeAny_loop rfl (λn s'=>∃i σ' H',Inv Y pins σ' H' s'/\tn i s'.heap/\(∀b∈fp,H' b=none)/\W i n σ' H') ?_ m0 ⟨0,σ,H,I,st,λb hb=>(fr b hb).1,w0⟩;rintro n s3 ⟨i,σ3,H3,I3,st3,fr3,w3⟩;show aj _ Y.A ((compTurn (.ListComp elt gens scope pos) d (.ref it) acc Y.env).onRaise (λx=>do noteFrame x Y.env;theTreesLotGoes x)) _ _ s3;refine wpAny_noted ?_;rw[wJ hg ha hn];have nox:∀{E:ae->af->Prop} (e:ae) (s:af),Y.xe e s->E e s:=λe s z=>absurd z (hx e s)
 refine ag (wpAny_standAt ?_);rcases turn i n σ3 H3 w3 with ⟨stop,qn⟩|⟨go,N,hN,step⟩
 ·refine ag (thn (T.done Y rfl rfl rfl hc i pins s3 σ3 H3 _ I3 (stat fr3) st3 stop) λr s4 ⟨hr,I4⟩=>?_);subst hr;exact ar ⟨rfl,σ3,H3,I4,qn⟩
 ·refine ag (thn (T.item Y rfl rfl rfl hc i pins s3 σ3 H3 _ I3 (stat fr3) st3 go) λr s4 ⟨u,hr,h4⟩=>?_);subst hr;refine ag (thn h4 λ_ s5 ⟨x,H5,I5,r5,y5,st5,fr5⟩=>?_);have I5':=I5.pinned (stat fr5) (T.obj _ _ st5);refine ag (bI (pg _ s5 σ3 H5 x u _ I5' r5 (step x H5 y5)) (λ_ s6 ⟨σ6,H6,I6,q6⟩=>?_) nox);have again:∀{s7:af}{σ7:St}{H7:Hp},Inv Y (pins++iB fp s5.heap) σ7 H7 s7->N σ7 H7->∃m,m<n/\∃i σ' H',Inv Y pins σ' H' s7/\tn i s7.heap/\(∀b∈fp,H' b=none)/\W i m σ' H':=λ{s7 σ7 H7} I7 n7=>by
   obtain⟨m',hm,w7⟩:=hN σ7 H7 n7;refine⟨m',hm,i+1,σ7,H7,I7.unpinned,T.keep _ _ _ st5 λb hb o e=>(I7.pin (b,o) (bT _ (bT _ (jt hb e)))).1,λb hb=>?_,w7⟩;obtain⟨o,e,d⟩:=T.obj _ _ st5 b hb;exact(I7.pin (b,o) (bT _ (bT _ (jt hb e)))).2.1
  refine ag (bI (pt _ s6 σ6 H6 _ I6 q6) (λb s7 ⟨H7,I7,q7⟩=>?_) nox);cases b with
  |true=>
   rw[if_pos rfl];rw[if_pos rfl]at q7;refine ag (bI (pb _ s7 σ6 H7 _ I7 q7) (λ_ s8 ⟨σ8,H8,I8,q8⟩=>?_) nox);exact ar ⟨rfl,again I8 q8⟩
  |false=>
   rw[if_neg b6];rw[if_neg b6]at q7;exact ar ⟨rfl,again I7 q7⟩
end
theorem kl{env:Env}:∀{names:List (Str×aM)}{cs:List (Str×Addr)},(∀x∈names,x.2=.free->∃c,env.cells.lookup x.1=some c) ->
  ∃cl,(forIn names cs (λ(x:Str×aM) (cs:List (Str×Addr))=>if (x.2==bL)=true then do let c <-cellOf env x.1;pure (cP ((x.1,c)::cs))else pure (cP cs)):Sem (List (Str×Addr)))=pure cl /\
   (∀x c,cl.lookup x=some c->env.cells.lookup x=some c\/cs.lookup x=some c)/\(∀x,(∃c,cs.lookup x=some c)->∃c,cl.lookup x=some c)/\∀x∈names,x.2=.free->∃c,cl.lookup x.1=some c
 | [],cs,_=>⟨cs,by rw[List.forIn_nil],λ_ _ h=>.inr h,λ_ h=>h,λ_ h=>nomatch h⟩
 | (n,k)::r,cs,h=>by
  rw[List.forIn_cons];by_cases hk:k=.free
  ·subst hk;obtain⟨c,hc⟩:=h (n,.free) aK rfl;have e:cellOf env n=pure c:=by
    have hc':env.cells.lookup n=some c:=hc;unfold cellOf;rw[hc']
   obtain⟨cl,e1,e2,e3,e4⟩:=kl (names:=r) (cs:=(n,c)::cs) λx hx=>h x (aJ _ hx)
   refine⟨cl,?_,λx c' q=>?_,λx q=>e3 x ?_,λx hx hf=>?_⟩
   ·simp only[beq_self_eq_true,if_true,e,pure_bind];exact e1
   ·rcases e2 x c' q with z|z
    ·exact .inl z
    ·rw[ba]at z;by_cases hxn:(x==n)=true
     ·rw[hxn]at z;have:x=n:=by simpa using hxn
      subst this;cases z;exact .inl hc
     ·have hxn':(x==n)=false:=by simpa using hxn
      rw[hxn']at z;exact .inr z
   ·rw[ba];by_cases hxn:(x==n)=true
    ·rw[hxn];exact⟨c,rfl⟩
    ·have hxn':(x==n)=false:=by simpa using hxn
     rw[hxn'];exact q
   ·rcases aG.mp hx with z|z
    ·subst z;exact e3 n ⟨c,by rw[ba,beq_self_eq_true]⟩
    ·exact e4 x z hf
  ·have hk':(k==bL)=false:=by simpa using hk
   obtain⟨cl,e1,e2,e3,e4⟩:=kl (names:=r) (cs:=cs) λx hx=>h x (aJ _ hx)
   refine⟨cl,?_,e2,e3,λx hx hf=>?_⟩
   ·simp only[hk',bg,if_false,pure_bind];exact e1
   ·rcases aG.mp hx with z|z
    ·subst z;exact absurd hf hk
    ·exact e4 x z hf
theorem pY{env:Env}{scope:aO}(h:∀x∈scope.names,x.2=.free->∃c,env.cells.lookup x.1=some c) :
  ∃cl,closureFor scope env=pure cl/\(∀x c,cl.lookup x=some c->env.cells.lookup x=some c)/\∀x∈scope.names,x.2=.free->∃c,cl.lookup x.1=some c:=by
 obtain⟨cl,e1,e2,_,e4⟩:=kl (env:=env) (names:=scope.names) (cs:=[]) h;refine⟨cl,?_,λx c q=>(e2 x c q).elim (λz=>z) (λz=>by simp at z),e4⟩;have e:closureFor scope env=(forIn scope.names [] (λ(x:Str×aM) (cs:List (Str×Addr))=>if (x.2==bL)=true then do let c <-cellOf env x.1;pure (cP ((x.1,c)::cs))else pure (cP cs))>>=λcs=>pure cs):=rfl;rw[e,e1,pure_bind]
theorem iX{env:Env}:∀{names:List (Str×aM)}{x:Str}{k:aM},
  (names.map λ(n,k)=>if (k==bL&&env.scope.kind==.function&&env.kindOf n==some .cell)then (n,aM.cell)else (n,k)).lookup x=some k ->
  names.lookup x=some k\/(k=.cell/\names.lookup x=some .free)
 | [],_,_,h=>by simp at h
 | (n,k')::r,x,k,h=>by
  have ih:=@iX env r x k;have h':List.lookup x ((if (k'==bL&&env.scope.kind==.function&&env.kindOf n==some .cell)=true then (n,aM.cell)else (n,k'))::r.map (λ(n,k)=>if (k==bL&&env.scope.kind==.function&&env.kindOf n==some .cell)then (n,aM.cell)else (n,k)))=some k:=h;cases hx:x==n with
  |true=>
   by_cases hc:(k'==bL&&env.scope.kind==.function&&env.kindOf n==some .cell)=true
   ·rw[if_pos hc]at h';simp only[ba,hx]at h';cases h';have:k'=.free:=by
     have z:(k'==bL)=true:=by
      cases q:(k'==bL)with
      |true=>rfl
      |false=>rw[q]at hc;simp at hc
     simpa using z
    subst this;exact .inr ⟨rfl,by simp[ba,hx]⟩
   ·rw[if_neg hc]at h';simp only[ba,hx]at h';cases h';exact .inl (by simp[ba,hx])
  |false=>
   have h2:(r.map (λ(n,k)=>if (k==bL&&env.scope.kind==.function&&env.kindOf n==some .cell)then (n,aM.cell)else (n,k))).lookup x=some k:=by
    by_cases hc:(k'==bL&&env.scope.kind==.function&&env.kindOf n==some .cell)=true
    ·rw[if_pos hc]at h';simpa only[ba,hx]using h'
    ·rw[if_neg hc]at h';simpa only[ba,hx]using h'
   rcases ih h2 with z|z
   ·exact .inl (by simpa only[ba,hx]using z)
   ·exact .inr ⟨z.1,by simpa only[ba,hx]using z.2⟩
noncomputable def h_(names:List (Str×aM)):List Str:=(names.filter λy=>y.2==.cell).map (·.1)
theorem lF:∀(names:List (Str×aM)) (n:Nat) (a b:List (Str×Addr)),aY n names (a++b)=aY n names a++b
 | [],_,_,_=>rfl
 | (x,k)::r,n,a,b=>by
  unfold aY;split
  ·exact lF r (n+1) ((x,n)::a) b
  ·exact lF r n a b
theorem km{x:Str}{c:Addr}:∀{names:List (Str×aM)}{n:Nat}{a:List (Str×Addr)},(x,c)∈aY n names a->(x,c)∈a\/(x,aM.cell)∈names
 | [],_,_,h=>.inl h
 | (y,k)::r,n,a,h=>by
  unfold aY at h;split at h
  ·rename_i hk
   rcases km h with z|z
   ·rcases aG.mp z with q|q
    ·have hk:k=.cell:=by simpa using hk
     cases q;exact .inr (by rw[hk];exact aK)
    ·exact .inl q
   ·exact .inr (aJ _ z)
  ·rcases km h with z|z
   ·exact .inl z
   ·exact .inr (aJ _ z)
theorem vC{M:Model}{A:ax}{E:ae->af->Prop}{s:af}{scope:aO}{globals:Addr}{cl:List (Str×Addr)}{qual:Str}{env:Env}{Q:Env->af->Prop}
  (hQ:∀h₁,h₁.Ns s.heap.objs.size (λ_=>none)->(∀b o,s.heap.get? b=some o->h₁.get? b=some o)->CellsOk h₁ (s.heap.objs.size+1) (aY (s.heap.objs.size+1) scope.names []) ->
   Q (newEnv scope s.heap.objs.size globals (aY (s.heap.objs.size+1) scope.names []++cl) qual none .none (some env) builtinsNs) {s with heap:=h₁}) :
  aj M A (newFunctionEnv scope globals cl [] qual none .none (some env)) Q E s:=by
 simp only[newFunctionEnv,Option.isSome_some,if_true];refine ag (wpAny_alloc ?_);refine ag (wpAny_layCells _ (λname kind cells=>by cases hkc:kind==aM.cell<;>simp[hkc]) _ _ _ _ ?_);have ok:=cellsFrom_ok scope.names (s.heap.push {cls:=.type "dict",data:=.dict #[]}) (s.heap.objs.size+1) [] ⟨λ_ _ hm=>(nomatch hm),List.Pairwise.nil⟩ (by rw[bj];exact az _);rw[bj]at ok;rw[show ({s with heap:=s.heap.push {cls:=.type "dict",data:=.dict #[]}}:af).heap.objs.size=s.heap.objs.size+1 from bj ..];rw[show cl=[]++cl from rfl,lF];rw[List.forIn_nil];exact ag (ar (ar (hQ _ ((Heap.Ns.new s.heap (.type "dict")).keeps (pushCells_keeps _ _)) (λb o e=>pushCells_keeps _ _ b o (Heap.get?_push_of_some _ e)) ok)))
noncomputable def zH(X:Cx)(NY:List Str)(scope:aO)(cl:List (Str×Addr))(C:Addr)(s₀:af)(H₀:Hp)(fp:List Addr):Cx where
 prog:=X.prog
 w:=X.w
 K:=X.K
 mg:=X.mg
 base:=X.base
 A:=X.A
 N:=NY
 s₀:=s₀
 H₀:=H₀
 env:=compEnvC scope (aY (C+1) scope.names []++cl) C X.env
 outer:=X.stack
 stack:=X.stack
 ex:=fp
 fn:=λx=>(h_ scope.names).contains x
 calm:=X.calm
 pn:=[]
 xe:=λ_ _=>False
noncomputable def caps(cap:List (Option Nat))(σ:St):St:=cap.map λo=>o.bind λj=>(σ[j]?).join
noncomputable def oq(X:Cx)(NY:List Str)(cap:List (Option Nat))(scope:aO):Prop:=
 cap.length=NY.length/\∀(i j:Nat),cap[i]? = some (some j)->∃x,NY[i]? = some x/\X.N[j]? = some x/\scope.names.lookup x=some .free/\(X.env.kindOf x=some .cell\/X.env.kindOf x=some .free)
structure dC(X:Cx)(NY:List Str)(cap:List (Option Nat))(scope:aO):Prop where
 kind:scope.kind=.function
 cells:∀y∈scope.names,y.2=.cell->scope.names.lookup y.1=some .cell
 names:∀y∈scope.names,y.2=.local->scope.names.lookup y.1=some .local
 free:∀y∈scope.names,y.2=.free->X.env.kindOf y.1=some .cell\/X.env.kindOf y.1=some .free
 cap:oq X NY cap scope
theorem xW{cap:List (Option Nat)}{σ:St}{i:Nat}{v:V}(h:(caps cap σ)[i]? = some (some v)):∃j,cap[i]? = some (some j)/\σ[j]? = some (some v):=by
 unfold caps at h;rw[List.getElem?_map]at h;cases e:cap[i]? with
 |none=>rw[e]at h;simp at h
 |some o=>
  rw[e]at h;cases o with
  |none=>simp at h
  |some j=>
   refine⟨j,rfl,?_⟩;have h':(σ[j]?).join=some v:=by simpa using h
   cases q:σ[j]? with
   |none=>rw[q]at h';cases h'
   |some z=>rw[q]at h';exact congrArg some h'
theorem Dl{X:Cx}{pins:List (Addr×Obj)}{σ:St}{H:Hp}{s:af}{NY:List Str}{cap:List (Option Nat)}{scope:aO}{cl:List (Str×Addr)}{fp:List Addr}{h₁:Heap}{m:Str->Option ae}
  (I:Inv X pins σ H s) (S:dC X NY cap scope) (hsub:∀x c,cl.lookup x=some c->X.env.cells.lookup x=some c) (hall:∀x∈scope.names,x.2=.free->∃c,cl.lookup x.1=some c)
  (hf:∀b∈fp,cQ X pins H b) (hlt:∀b∈fp,b<s.heap.objs.size) (hn:h₁.Ns s.heap.objs.size m) (hk:∀b o,s.heap.get? b=some o->h₁.get? b=some o) (hcs:CellsOk h₁ (s.heap.objs.size+1) (aY (s.heap.objs.size+1) scope.names [])) {tk:Nat} :
  Inv (zH X NY scope cl s.heap.objs.size s H fp) [] (caps cap σ) H {s with heap:=h₁,toks:=tk}:=by
 have relx:∀x,(compEnvC scope (aY (s.heap.objs.size+1) scope.names []++cl) s.heap.objs.size X.env).kindOf x=some .cell\/(compEnvC scope (aY (s.heap.objs.size+1) scope.names []++cl) s.heap.objs.size X.env).kindOf x=some .free->scope.names.lookup x=some .free\/scope.names.lookup x=some .cell:=λx hx=>by
  rcases hx with q|q
  ·rcases iX (env:=X.env) (names:=scope.names) (x:=x) (k:=.cell) q with z|z
   ·exact .inr z
   ·exact .inl z.2
  ·rcases iX (env:=X.env) (names:=scope.names) (x:=x) (k:=.free) q with z|z
   ·exact .inl z
   ·exact .inl z.2
 have cnew:∀x c,cl.lookup x=some c->c<s.heap.objs.size:=λx c e=>by
  obtain⟨v,q⟩:=I.cell x c (hsub x c e);exact q.lt
 -- a cell is one of its own, or one from around
 have two:∀x c,(aY (s.heap.objs.size+1) scope.names []++cl).lookup x=some c->(x,c)∈aY (s.heap.objs.size+1) scope.names []\/cl.lookup x=some c:=λx c e=>by
  rw[List.lookup_append]at e;cases q:(aY (s.heap.objs.size+1) scope.names []).lookup x with
  |none=>rw[q]at e;exact .inr e
  |some c'=>rw[q]at e;cases e;exact .inl (b5 q)
 have own1:∀x c,(x,c)∈aY (s.heap.objs.size+1) scope.names []->scope.names.lookup x=some .cell:=λx c e=>by
  rcases km e with z|z
  ·cases z
  ·exact S.cells _ z rfl
 have ownA:∀x c,(x,c)∈aY (s.heap.objs.size+1) scope.names []->s.heap.objs.size<c:=λx c e=>(hcs.empty x c e).2
 have frl:∀x c,scope.names.lookup x=some .free->cl.lookup x=some c->(aY (s.heap.objs.size+1) scope.names []++cl).lookup x=some c:=λx c e1 e2=>by
  rw[List.lookup_append];cases q:(aY (s.heap.objs.size+1) scope.names []).lookup x with
  |none=>rw[e2];rfl
  |some c'=>have:=own1 x c' (b5 q);rw[e1]at this;cases this
 refine⟨⟨I.ok.mod,S.kind,I.ok.glob,I.ok.blt,az _,λx y c e1 e2=>?_,λx hx=>?_,λx c e e2=>?_,I.ok.hd,I.ok.frames,.inl rfl,λb hb=>?_,λb o e=>I.bs b o e,aX I.ok.bsz I.sz,λb o e hb=>?_,λb hb z=>?_,I.stack,I.stkFree⟩,
  rfl,I.bare,Un.kept hk,⟨m,hn,λi x v e1 e2 e3=>?_⟩,λx c e=>?_,I.hok.fresh (az _),λx c e=>?_,λp hp=>absurd (show p∈([]:List (Addr×Obj))from hp) (by simp),I.hok.kept hk,?_⟩
 ·rcases two x c e1 with z1|z1<;>rcases two y c e2 with z2|z2
  ·exact name_of_addr hcs.apart z1 z2
  ·exact absurd (Nat.lt_trans (cnew y c z2) (ownA x c z1)) (bx _)
  ·exact absurd (Nat.lt_trans (cnew x c z1) (ownA y c z2)) (bx _)
  ·exact I.ok.inj x y c (hsub x c z1) (hsub y c z2)
 ·rcases relx x hx with z|z
  ·obtain⟨c,hc⟩:=hall (x,.free) (b5 z) rfl;exact⟨c,frl x c z hc⟩
  ·obtain⟨c,hc⟩:=jk (n:=s.heap.objs.size+1) z;refine⟨c,?_⟩;show (aY (s.heap.objs.size+1) scope.names []++cl).lookup x=some c;rw[List.lookup_append,hc];rfl
 ·have e:(h_ scope.names).contains x=true:=e;have hm:scope.names.lookup x=some .cell:=by
   simp only[h_,List.contains_iff_mem,aQ,List.mem_filter,beq_iff_eq]at e;obtain⟨y,⟨y1,y2⟩,rfl⟩:=e;exact S.cells y y1 y2
  rcases two x c e2 with z|z
  ·exact Nat.le_of_lt (ownA x c z)
  ·obtain⟨c',hc⟩:=jk (n:=s.heap.objs.size+1) hm;have e2:(aY (s.heap.objs.size+1) scope.names []++cl).lookup x=some c:=e2;rw[List.lookup_append,hc]at e2;cases e2;exact Nat.le_of_lt (ownA x _ (b5 hc))
 ·obtain⟨f0,f1,f2,f3,f4,f5⟩:=hf b hb;refine⟨aU (hlt b hb),λx c e=>?_⟩;rcases two x c e with z|z
  ·exact λw=>absurd (Nat.lt_trans (ownA x c z) (w▸hlt b hb)) (bx _)
  ·exact f4 x c (hsub x c z)
 ·obtain⟨f0,f1,f2,f3,f4,f5⟩:=hf b hb;rcases f3 with z|z
  ·exact I.ok.noex b o e z
  ·exact absurd (a8 (aF e) (aX I.ok.bsz z)) (bx _)
 ·obtain⟨f0,f1,f2,f3,f4,f5⟩:=hf b hb;rcases aG.mp (I.stkSub b z)with q|q
  ·exact f1 q
  ·exact f2 q
 ·obtain⟨j,c1,c2⟩:=xW e2;obtain⟨x',n1,n2,n3,n4⟩:=S.cap.2 i j c1;have ex:x'=x:=bD (n1.symm.trans e1);subst ex;obtain⟨m',_,hl⟩:=I.loc;obtain⟨u,r,l⟩:=hl j x' v n2 c2 (n4.elim (λz=>.inr (.inl z)) λz=>.inr (.inr z));refine⟨u,r,.inr ⟨?_,?_⟩⟩
  ·rcases e3 with z|z|z
   ·rcases iX (env:=X.env) (names:=scope.names) (x:=x') (k:=.local) z with q|q
    ·rw[n3]at q;cases q
    ·cases q.1
   ·exact .inl z
   ·exact .inr z
  ·rcases l with ⟨kk,_⟩|⟨_,c,ec,ic⟩
   ·rcases n4 with z|z
    ·rw[kk]at z;cases z
    ·rw[kk]at z;cases z
   ·obtain⟨c',ec'⟩:=hall (x',.free) (b5 n3) rfl;have:=hsub x' c' ec';rw[ec]at this;cases this;obtain⟨o,ho,hd⟩:=ic;exact⟨c,frl x' c n3 ec',o,hk _ _ ho,hd⟩
 ·rcases two x c e with z|z
  ·exact⟨_,(hcs.empty x c z).1⟩
  ·obtain⟨v,o,ho,hd⟩:=I.cell x c (hsub x c z);exact⟨v,o,hk _ _ ho,hd⟩
 ·rcases two x c e with z|z
  ·exact I.hok.fresh (Nat.le_of_lt (ownA x c z))
  ·exact I.freeC x c (hsub x c z)
 ·show (caps cap σ).length=NY.length;unfold caps;rw[aV];exact S.cap.1
noncomputable def lh(cap:List (Option Nat))(wi:TI)(tg:TG)(tt:TT)(tb:Addr->TS):TE:=λσ H Q=>wi σ H λJ H1=>∀acc,H1 acc=none ->
 ∃W:Nat->Nat->St->Hp->Prop,(∃m,W 0 m (caps cap σ) (upd H1 acc (.lst [])))/\∀i m τ H,W i m τ H ->
  (J.stop i H/\(Ends.mk (λ_ H=>Q (.ref acc) H) (λ_ _=>False) (λ_ _=>False) (λ_ _=>False)).nx τ H)\/(J.go i H/\∃N:St->Hp->Prop,(∀σ' H',N σ' H'->∃m',m'<m/\W (i+1) m' σ' H')/\∀x H',J.yld i H x H' ->
   tg x τ H' λσ2 H2=>jo tt (tb acc) gZ {(Ends.mk (λ_ H=>Q (.ref acc) H) (λ_ _=>False) (λ_ _=>False) (λ_ _=>False))with nx:=N,ct:=N,bk:=(Ends.mk (λ_ H=>Q (.ref acc) H) (λ_ _=>False) (λ_ _=>False) (λ_ _=>False)).nx} σ2 H2)
structure Loose(X:Cx)(pins:List (Addr×Obj))(C:Addr):Prop where
 loc:C≠X.env.locals
 cell:∀x c,X.env.cells.lookup x=some c->c≠C
 up:X.s₀.heap.objs.size<=C
 pin:∀p∈X.pn++pins,p.1≠C
theorem Loose.turn{X:Cx}{pins:List (Addr×Obj)}{C:Addr}{σ:St}{H:Hp}{s:af}{h':Heap}(L:Loose X pins C)(I:Inv X pins σ H s)(hn:H C=none)(hs:Heap.SameBut C s.heap h'):Inv X pins σ H {s with heap:=h'}:=
 I.turned (t':=s.toks) (it:=C) (λb o hb e=>(hs.2 b hb).trans e) hn L.loc (.inr L.up) L.cell L.pin
section
variable{X:Cx}{elt tgt it:Expr}{ifs:List Expr}{gs:List b_}{scope:aO}{pos:Pos}{NY:List Str}{cap:List (Option Nat)}{wi:TI}{tg:TG}{tt:TT}{tb:Addr->TS}
theorem p6{Q:VK}{pins:List (Addr×Obj)}{σ:St}{H:Hp}{s s2:af}{cl:List (Str×Addr)}{itv:ae}{E:ae->af->Prop}{use:Option (ae->Sem Unit)}{QQ:ae->af->Prop}
  (hc:X.calm=true) (S:dC X NY cap scope) (hng:∀g'∈gs,g'.is_async=0)
  (hsub:∀x c,cl.lookup x=some c->X.env.cells.lookup x=some c) (hall:∀x∈scope.names,x.2=.free->∃c,cl.lookup x.1=some c)
  (hb:∀cl C s₀ H₀ fp,PG (zH X NY scope cl C s₀ H₀ fp) tgt tg/\PTs (zH X NY scope cl C s₀ H₀ fp) ifs tt/\∀acc,PB (zH X NY scope cl C s₀ H₀ fp) (eA elt (⟨tgt,it,ifs,0⟩::gs) scope pos 0 (.ref acc) (zH X NY scope cl C s₀ H₀ fp).env) (tb acc))
  (h2:PIE X pins σ tgt (λJ H1=>∀acc,H1 acc=none ->
   ∃W:Nat->Nat->St->Hp->Prop,(∃m,W 0 m (caps cap σ) (upd H1 acc (.lst [])))/\∀i m τ H,W i m τ H ->
    (J.stop i H/\(Ends.mk (λ_ H=>Q (.ref acc) H) (λ_ _=>False) (λ_ _=>False) (λ_ _=>False)).nx τ H)\/(J.go i H/\∃N:St->Hp->Prop,(∀σ' H',N σ' H'->∃m',m'<m/\W (i+1) m' σ' H')/\∀x H',J.yld i H x H' ->
     tg x τ H' λσ2 H2=>jo tt (tb acc) gZ {(Ends.mk (λ_ H=>Q (.ref acc) H) (λ_ _=>False) (λ_ _=>False) (λ_ _=>False))with nx:=N,ct:=N,bk:=(Ends.mk (λ_ H=>Q (.ref acc) H) (λ_ _=>False) (λ_ _=>False) (λ_ _=>False)).nx} σ2 H2)) itv s2)
  (fin:∀(acc C:Addr) (s':af) (m:Str->Option ae) (H':Hp),s'.heap.Ns C m->Loose X pins C->Inv X pins σ H' s'->H' C=none->Q (.ref acc) H'->compPost (ak X.prog X.w) X.A E use QQ (.ref acc) C (.ok .next) s') :
  aj (ak X.prog X.w) X.A (newList []) (λacc s₃=>aj (ak X.prog X.w) X.A (newFunctionEnv scope X.env.globals cl [] X.env.qual none .none (some X.env)) (λcenv s₄=>
   codeAny (ak X.prog X.w) X.A (.compStart (.ListComp elt (⟨tgt,it,ifs,0⟩::gs) scope pos) 0 itv acc {cenv with scope:=relabel scope X.env}) (compPost (ak X.prog X.w) X.A E use QQ acc cenv.locals) s₄) E s₃) E s2:=by
 obtain⟨ia,fp,tn,J,H2,e,I2,T,st2,f2,q⟩:=h2;subst e;have hlt2:∀b∈fp,b<s2.heap.objs.size:=λb hb=>by
  obtain⟨o,ho,_⟩:=T.obj _ _ st2 b hb;exact aF ho
 refine bt ?_;have hacc:H2 s2.heap.objs.size=none:=I2.hok.fresh (az _);have I3:Inv X pins σ (upd H2 s2.heap.objs.size (.lst [])) {s2 with heap:=s2.heap.push {cls:=.type "list",dict:=none,data:=.seq ([]:List ae).toArray}}:=
  I2.laid (t':=s2.toks) (λb u e=>Heap.get?_push_of_some _ e) (az _) ⟨bH _,[],0,.nil,Heap.get?_push_size _ rfl⟩
 have hsz3:(s2.heap.push {cls:=.type "list",dict:=none,data:=.seq ([]:List ae).toArray}).objs.size=s2.heap.objs.size+1:=bj ..;generalize hs3:({s2 with heap:=s2.heap.push {cls:=.type "list",dict:=none,data:=.seq ([]:List ae).toArray}}:af)=s3 at I3 ⊢;have hsz:s3.heap.objs.size=s2.heap.objs.size+1:=by rw[<-hs3];exact hsz3
 have st3:tn 0 s3.heap:=T.keep _ _ _ st2 λb hb o e=>by rw[<-hs3];exact Heap.get?_push_of_some _ e
 have f3:∀b∈fp,cQ X pins (upd H2 s2.heap.objs.size (.lst [])) b:=λb hb=>⟨by rw[qi (aU (hlt2 b hb))];exact(f2 b hb).1,(f2 b hb).2⟩
 have hlt3:∀b∈fp,b<s3.heap.objs.size:=λb hb=>by rw[hsz];exact dt (hlt2 b hb)
 refine vC λh₁ hns₁ hk1 hcs=>?_
 have IY:=Dl (tk:=s3.toks) I3 S hsub hall f3 hlt3 hns₁ hk1 hcs;have stY:tn 0 h₁:=T.keep _ _ _ st3 λb hb o e=>hk1 b o e
 obtain⟨pg,pt,pb⟩:=hb cl s3.heap.objs.size s3 (upd H2 s2.heap.objs.size (.lst [])) fp;have fY:∀b∈fp,cQ (zH X NY scope cl s3.heap.objs.size s3 (upd H2 s2.heap.objs.size (.lst [])) fp) [] (upd H2 s2.heap.objs.size (.lst [])) b:=λb hb=>by
  obtain⟨g0,g1,g2,g3,g4,g5⟩:=f3 b hb;refine⟨g0,aU (hlt3 b hb),λz=>?_,.inl hb,(IY.ok.exf b hb).2,λp hp=>absurd (show p∈([]:List (Addr×Obj))from hp) (by simp)⟩;rcases aG.mp (I3.stkSub b z)with w|w
  ·exact g1 w
  ·exact g2 w
 have L:=AA (elt:=elt) (gens:=⟨tgt,it,ifs,0⟩::gs) (scope:=scope) (pos:=pos) (d:=0) (Y:=zH X NY scope cl s3.heap.objs.size s3 (upd H2 s2.heap.objs.size (.lst [])) fp) (acc:=.ref s2.heap.objs.size) hc (λ_ _ z=>z) rfl rfl
  (λg' hg'=>hng g' (List.mem_of_getElem? (i:=0) (by simpa using hg'))) T pg pt (pb s2.heap.objs.size) IY stY fY (q s2.heap.objs.size hacc)
 refine cb (A3 (elt:=elt) (gens:=⟨tgt,it,ifs,0⟩::gs) (scope:=scope) (pos:=pos) (d:=0) (env:=compEnvC scope (aY (s3.heap.objs.size+1) scope.names []++cl) s3.heap.objs.size X.env) rfl rfl L (T.self _ 0 _ _ _ stY L)) λr s' ⟨e,τ',H',I',q'⟩=>?_
 subst e;obtain⟨m',hn',_⟩:=id I'.loc;have hLne:s3.heap.objs.size≠X.env.locals:=Nat.ne_of_gt I3.lt;have hCne:∀x c,X.env.cells.lookup x=some c->c≠s3.heap.objs.size:=λx c e z=>by
  obtain⟨v,qv⟩:=I3.cell x c e;exact absurd qv.lt (by rw[z];exact bx _)
 have J1:Inv X pins σ H' s':=by
  refine I3.call' (ch:=fp) I'.os I'.base I'.hok I'.bare λb hb=>?_
  obtain⟨g0,g1,g2,g3,g4,g5⟩:=f3 b hb;exact⟨g3,g1,g4,g5⟩
 refine fin s2.heap.objs.size s3.heap.objs.size s' m' H' hn' ⟨hLne,hCne,I3.sz,λp hp z=>?_⟩ J1 I'.free q';have:=aF (I3.pin p hp).1;rw[z]at this;exact bx _ this
theorem BY(hc:X.calm=true)(S:dC X NY cap scope)(hi:PI X tgt it wi)
  (hb:∀cl C s₀ H₀ fp,PG (zH X NY scope cl C s₀ H₀ fp) tgt tg/\PTs (zH X NY scope cl C s₀ H₀ fp) ifs tt/\∀acc,PB (zH X NY scope cl C s₀ H₀ fp) (eA elt (⟨tgt,it,ifs,0⟩::gs) scope pos 0 (.ref acc) (zH X NY scope cl C s₀ H₀ fp).env) (tb acc))
  (hng:∀g'∈gs,g'.is_async=0:=by simp)
  (hs:∀x,foldedSetIterable it X.env x=pure x:=by intro _;rfl):PE X (.ListComp elt (⟨tgt,it,ifs,0⟩::gs) scope pos) (lh cap wi tg tt tb):=by
 intro pins s σ H Q I h;obtain⟨cl,hcl,hsub,hall⟩:=pY (env:=X.env) (scope:=scope) λx hx hf=>I.ok.has x.1 (S.free x hx hf)
 rw[eval_ListComp];refine wpAny_comprehension_free (use:=none) rfl hs hcl S.kind S.names (thn (hi pins s σ H _ I h) λv s1 h1=>thn h1 λitv s2 h2=>?_);exact p6 (s:=s) (H:=H) (use:=none) hc S hng hsub hall hb h2 λacc C s' m H' hn L I' hC q=>⟨m,hn,λh' hs'=>⟨.ref acc,H',L.turn I' hC hs',rfl,q⟩⟩
theorem yh{i:Nat}{x:Str}{pos' spos:Pos}(hN:X.N.Nodup)(hix:X.N[i]? = some x)(hx:Loc X.env.scope x)(hc:X.calm=true)(S:dC X NY cap scope)(hi:PI X tgt it wi)
  (hb:∀cl C s₀ H₀ fp,PG (zH X NY scope cl C s₀ H₀ fp) tgt tg/\PTs (zH X NY scope cl C s₀ H₀ fp) ifs tt/\∀acc,PB (zH X NY scope cl C s₀ H₀ fp) (eA elt (⟨tgt,it,ifs,0⟩::gs) scope pos 0 (.ref acc) (zH X NY scope cl C s₀ H₀ fp).env) (tb acc))
  (hng:∀g'∈gs,g'.is_async=0:=by simp)
  (hsw:swapsWith (.ListComp elt (⟨tgt,it,ifs,0⟩::gs) scope pos) (some (.Name x pos')) spos.line X.env=pure true:=by rfl)
  (hf:X.fn x=true\/X.env.scope.names.lookup x=some .local:=by first|exact .inl rfl|exact .inr rfl|assumption)
  (hs:∀x,foldedSetIterable it X.env x=pure x:=by intro _;rfl) :
  PS X (.Assign [.Name x pos'] (.ListComp elt (⟨tgt,it,ifs,0⟩::gs) scope pos) spos) (jI (lh cap wi tg tt tb) (ff i)):=by
 intro pins s σ H D I h;obtain⟨cl,hcl,hsub,hall⟩:=pY (env:=X.env) (scope:=scope) λx hx hf=>I.ok.has x.1 (S.free x hx hf)
 rw[exec_Assign_Name_used _ _ _ _ hsw];refine ag (wpAny_standAt (ag ?_));show aj _ _ (do let _ <-comprehension (.ListComp elt (⟨tgt,it,ifs,0⟩::gs) scope pos) scope X.env _ (newList []) false (eval it X.env) (some (assign (.Name x pos') X.env))) _ _ s;refine ag (bI (wpAny_comprehension_free (use:=some (assign (.Name x pos') X.env)) (Q:=λ_ s'=>SP X pins D .next s') rfl hs hcl S.kind S.names (thn (hi pins s σ H _ I h) λv s1 h1=>thn h1 λitv s2 h2=>?_)) (λ_ s' q=>ar (ar q)) λ_ _ e=>e);refine p6 (s:=s) (H:=H) (Q:=λx H1=>ff i x σ H1 D.nx) (use:=some (assign (.Name x pos') X.env)) hc S hng hsub hall hb h2 λacc C s' m H' hn L I1 hC q1=>?_
 show aj _ _ (assign (.Name x pos') X.env (.ref acc)) _ _ _;refine wpAny_assign_Name (rh (v:=.ref acc) I1 hN hix hx rfl (λs3 I3 ⟨a,hsa,ha⟩=>?_) hf);have hCa:C≠a:=by
  rcases ha with z|z
  ·rw[z];exact L.loc
  ·exact Ne.symm (L.cell x a z)
 exact⟨m,hn.sameBut hsa hCa,λh' hsb=>⟨_,H',L.turn I3 hC hsb,q1⟩⟩
end
theorem zM.there{P:ay}{w:au}{H:Hp}{h:Heap}{a:Addr}{o:HO}(x:zM P w H h a o):∃u,h.get? a=some u:=by
 cases o with
 |lst xs=>obtain⟨_,_,_,_,e⟩:=x;exact⟨_,e⟩
 |tup xs=>obtain⟨_,_,_,o,e,_⟩:=x;exact⟨_,e⟩
 |dK kvs=>obtain⟨_,_,_,_,o,_,_,e,_⟩:=x;exact⟨_,e⟩
 |dT kvs=>obtain⟨_,_,_,_,o,_,_,e,_⟩:=x;exact⟨_,e⟩
 |set S n=>obtain⟨o,_,_,_,e,_⟩:=x;exact⟨_,e⟩
 |ins C dx fs=>obtain⟨_,_,_,e,_⟩:=x;exact⟨_,e⟩
 |own y=>obtain⟨_,e⟩:=x;exact⟨_,e⟩
 |xd fs=>obtain⟨_,⟨_,_,_,e,_⟩,_⟩:=x;exact⟨_,e⟩
 |rng lo hi=>obtain⟨_,_,_,e⟩:=x;exact⟨_,e⟩
 |frz ob u=>obtain⟨e,_⟩:=x;exact⟨_,e⟩
 |tbl ps=>exact⟨_,(show h.get? a=some _ from x)⟩
 |met f y=>exact⟨_,(show h.get? a=some _ from x)⟩
 |ext φ=>obtain⟨_,e,_⟩:=x;exact e
theorem HOk.free_of{P:ay}{w:au}{H:Hp}{h:Heap}{a:Addr}(x:HOk P w H h)(e:h.get? a=none):H a=none:=by
 cases q:H a with
 |none=>rfl
 |some o=>obtain⟨u,z⟩:=(x a o q).there;rw[e]at z;cases z
structure Apart(X:Cx)(pins:List (Addr×Obj))(H:Hp)(b:Addr):Prop where
 new:X.s₀.heap.get? b=none
 free:H b=none
 pin:∀p∈X.pn++pins,p.1≠b
structure bS(X:Cx)(pins:List (Addr×Obj))(H:Hp)(h:Heap)(x:Addr)(cls:ae):Prop where
 me:Apart X pins H x
 tr:∃oe vs T oT ts a0,h.get? x=some oe/\oe.cls=cls/\vs[0]? = some a0/\oe.data=.fields vs/\vs[1]? = some (.ref T)/\T≠x/\h.get? T=some oT/\oT.data=.fields ts/\ts[3]? = some .none/\Apart X pins H T
structure Fly(h₀ h:Heap)(H:Hp)(x:Addr)(cls:ae):Prop where
 new:h₀.get? x=none
 free:H x=none
 tr:∃oe vs T oT ts a0,h.get? x=some oe/\oe.cls=cls/\vs[0]? = some a0/\oe.data=.fields vs/\vs[1]? = some (.ref T)/\T≠x/\h.get? T=some oT/\oT.data=.fields ts/\ts[3]? = some .none/\h₀.get? T=none/\H T=none
noncomputable def CX1(P:ay)(w:au):CXT:=λouter H s E e s'=>
 ∃x cls H',e=.ref x/\s'.os=s.os/\AllBare s'.gens/\Un (frs outer) [] H H' s.heap s'.heap/\HOk P w H' s'.heap/\Fly s.heap s'.heap H' x cls/\E cls none H'
section
variable{X:Cx}{pins:List (Addr×Obj)}{σ:St}{H:Hp}{s:af}{x T:Addr}{cls:ae}
theorem Inv.stepN{h':Heap}{t':Nat}{ch:List Addr}(I:Inv X pins σ H s)(hex:X.ex=[])(hch:∀b∈ch,Apart X pins H b/\b≠X.env.locals/\(∀x c,X.env.cells.lookup x=some c->c≠b)/\b∉X.fs)
  (keep:∀b o,b∉frs X.stack->b≠X.env.locals->b∉X.fs->b∉ch->s.heap.get? b=some o->h'.get? b=some o)
  (slot:∀b o,(b∈frs X.stack\/b=X.env.locals\/b∈X.fs)->s.heap.get? b=some o->∃sl,h'.get? b=some {o with slots:=sl}) (there:∀b o,b∉ch->s.heap.get? b=some o->∃o',h'.get? b=some o') :
  Inv X pins σ H {s with heap:=h',toks:=t'}:=by
 have sub:∀b,b∈frs X.stack->b=X.env.locals\/b∈X.fs:=λb hb=>aG.mp (I.stkSub b hb)
 have keep':∀b o,b≠X.env.locals->b∉X.fs->b∉ch->s.heap.get? b=some o->h'.get? b=some o:=λb o h1 h2 h3 e=>keep b o (λz=>(sub b z).elim h1 h2) h1 h2 h3 e
 have neL:∀b o,X.s₀.heap.get? b=some o->b≠X.env.locals:=λb o e=>aU (a8 (aF e) I.ok.above)
 have neC:∀b o,X.s₀.heap.get? b=some o->b∉ch:=λb o e hb=>by
  have:=(hch b hb).1.new;rw[e]at this;cases this
 have cellK:∀x c,X.env.cells.lookup x=some c->∀v,s.heap.IsCell c v->h'.IsCell c v:=λx c e v ⟨o,ho,hd⟩=>by
  have nch:c∉ch:=λz=>(hch c z).2.2.1 x c e rfl
  by_cases hc:c∈X.fs
  ·obtain⟨sl,q⟩:=slot c o (.inr (.inr hc)) ho;exact⟨_,q,hd⟩
  ·exact⟨o,keep' c o (I.cne x c e) hc nch ho,hd⟩
 have nex:∀b,b∉X.ex:=λb=>by rw[hex];simp
 refine⟨I.ok,I.os,I.bare,⟨λb o e n hb hx=>?_,λb o e n hb hx=>?_,I.base.free,λb o e hx=>?_,I.base.tups,I.base.frzs,I.base.tbls⟩,?_,λx c e=>?_,I.free,I.freeC,λp hp=>?_,λb u e=>?_,I.len⟩
 ·exact keep' b o (neL b o e) hb (neC b o e) (I.base.keep b o e n hb hx)
 ·obtain⟨sl,e1⟩:=I.base.slot b o e n hb hx;obtain⟨sl',e2⟩:=slot b _ (.inr (.inr hb)) e1;exact⟨sl',e2⟩
 ·obtain⟨o',e1⟩:=I.base.there b o e hx;exact there b o' (neC b o e) e1
 ·obtain⟨m,hn,hl⟩:=I.loc;obtain⟨oL,es,ep,hoL,hdL,r⟩:=id hn;obtain⟨sl,eL⟩:=slot _ _ (.inr (.inl rfl)) hoL;refine⟨m,⟨_,es,ep,eL,hdL,r⟩,λi x v e1 e2 e3=>?_⟩;obtain⟨u,ru,l⟩:=hl i x v e1 e2 e3;refine⟨u,ru,?_⟩;rcases l with l|⟨k,c,e,z⟩
  ·exact .inl l
  ·exact .inr ⟨k,c,e,cellK x c e _ z⟩
 ·obtain⟨v,z⟩:=I.cell x c e;exact⟨v,cellK x c e v z⟩
 ·obtain⟨e,n,ne,nf,d⟩:=I.pin p hp;exact⟨keep' p.1 p.2 ne nf (λz=>(hch p.1 z).1.pin p hp rfl) e,n,ne,nf,d⟩
 ·have nfr:∀b,(∃u,H b=some u)->b≠X.env.locals/\b∉X.fs/\b∉ch:=λb ⟨u,e⟩=>by
   refine⟨λz=>?_,λz=>?_,λz=>?_⟩
   ·rw[z,I.free]at e;cases e
   ·obtain⟨_,o,ho,_⟩:=I.ok.funs.mem z;have:=I.base.free b o ho (I.ok.frf b z) (nex b);rw[e]at this;cases this
   ·have:=(hch b z).1.free;rw[e]at this;cases this
  refine(I.hok b u e).stay (λc v hc q=>?_) (λ_ q=>q) λ_ _ q=>q
  have hc':∃u,H c=some u:=by
   rcases hc with z|z
   ·exact⟨u,by rw[z];exact e⟩
   ·exact⟨_,z⟩
  obtain⟨n1,n2,n3⟩:=nfr c hc';exact keep' c v n1 n2 n3 q
theorem Inv.rec_ne(I:Inv X pins σ H s){b:Addr}{o:Obj}{vs:Array ae}(e:s.heap.get? b=some o)(d:o.data=.fields vs):b≠X.env.locals/\(∀x c,X.env.cells.lookup x=some c->c≠b)/\b∉X.fs/\b∉frs X.stack:=by
 have h1:b≠X.env.locals:=λz=>by
  obtain⟨m,⟨o',es,ep,ho,hd,_⟩,_⟩:=I.loc;rw[<-z,e]at ho;cases ho;rw[d]at hd;cases hd
 have h3:b∉X.fs:=λz=>by
  obtain⟨_,o',ho,hn⟩:=I.funs.mem z;rw[e]at ho;cases ho;exact hn vs d
 refine⟨h1,λx c ec z=>?_,h3,λz=>(aG.mp (I.stkSub b z)).elim h1 h3⟩;obtain⟨v,o',ho,hd⟩:=I.cell x c ec;rw[z,e]at ho;cases ho;rw[d]at hd;cases hd
theorem bS.flying(I:Inv X pins σ H s)(F:bS X pins H s.heap x cls):∃T oT ts a0,Heap.FlyingW (PySem.W.hideAll s.heap (x::T::frs X.stack)) X.stack x cls a0 s.heap/\s.heap.get? T=some oT/\oT.data=.fields ts/\Apart X pins H T:=by
 obtain⟨oe,vs,T,oT,ts,a0,e1,e2,e3,e4,e5,e6,e7,e8,e9,e10⟩:=F.tr;refine⟨T,oT,ts,a0,⟨λb o q=>PySem.W.of_hideAll _ q,PySem.W.hideAll_none _ aK,?_,oe,vs,T,oT,ts,e1,⟨e2,e3⟩,e4,e5,PySem.W.hideAll_none _ (aJ _ aK),e6,e7,e8,e9⟩,e7,e8,e10⟩;exact PySem.W.funFrames_hide I.stack λenv he a ha=>aJ _ (aJ _ (List.mem_filterMap.mpr ⟨env,he,ha⟩))
theorem bS.back(I:Inv X pins σ H s)(hex:X.ex=[])(me:Apart X pins H x){ox:Obj}{vs:Array ae}(hx:s.heap.get? x=some ox)(hxd:ox.data=.fields vs){oT:Obj}{ts:Array ae}(hT:s.heap.get? T=some oT)(hTd:oT.data=.fields ts)(aT:Apart X pins H T)
  {l:List Env}{a0:ae}{h':Heap} (W:Heap.FlyingW (PySem.W.hideAll s.heap (x::T::frs X.stack)) l x cls a0 h') (u:s.heap.UpToSlots h') :
  Inv X pins σ H {s with heap:=h'}/\bS X pins H h' x cls:=by
 obtain⟨w1,w2,w3,oe',vs',T',oT',ts',f1,⟨f2,f3⟩,f4,f5,f6,f7,f8,f9,f10⟩:=W;obtain⟨nx1,nx2,nx3,nx4⟩:=I.rec_ne hx hxd;obtain⟨nt1,nt2,nt3,nt4⟩:=I.rec_ne hT hTd;have frd:∀b o,(b∈frs X.stack\/b=X.env.locals\/b∈X.fs)->s.heap.get? b=some o->∀ws,o.data≠.fields ws:=λb o hb e ws d=>by
  obtain⟨n1,n2,n3,n4⟩:=I.rec_ne e d;rcases hb with z|z|z
  ·exact n4 z
  ·exact n1 z
  ·exact n3 z
 have nch:∀b,b∉[x,T]->b∉frs X.stack->b∉(x::T::frs X.stack):=λb h1 h2 h3=>by
  rcases aG.mp h3 with z|h3
  ·exact h1 (by simp[z])
  ·rcases aG.mp h3 with z|h3
   ·exact h1 (by simp[z])
   ·exact h2 h3
 refine⟨?_,me,oe',vs',T',oT',ts',a0,f1,f2,f3,f4,f5,f7,f8,f9,f10,?_⟩
 ·refine I.stepN (t':=s.toks) (ch:=[x,T]) hex (λb hb=>?_) (λb o h1 h2 h3 h4 e=>w1 b o (dq _ e (nch b h4 h1))) (λb o hb e=>u b o e (frd b o hb e)) λb o h4 e=>?_
  ·rcases aG.mp hb with z|hb
   ·subst z;exact⟨me,nx1,nx2,nx3⟩
   ·have z:b=T:=by simpa using hb
    subst z;exact⟨aT,nt1,nt2,nt3⟩
  ·by_cases hb:b∈frs X.stack
   ·obtain⟨sl,q⟩:=u b o e (frd b o (.inl hb) e);exact⟨_,q⟩
   ·exact⟨o,w1 b o (dq _ e (nch b h4 hb))⟩
 ·by_cases hTT:T'=T
  ·rw[hTT];exact aT
  ·by_cases hTf:T'∈frs X.stack
   ·obtain⟨_,o,ho,hn⟩:=I.stack.mem hTf;obtain⟨sl,q⟩:=u T' o ho hn;rw[q]at f8;have z:({o with slots:=sl}:Obj)=oT':=bD f8;subst z;exact absurd f9 (hn ts')
   ·have hnone:s.heap.get? T'=none:=by
     cases q:s.heap.get? T' with
     |none=>rfl
     |some o=>
      have:(PySem.W.hideAll s.heap (x::T::frs X.stack)).get? T'=some o:=dq _ q (nch T' (by simp[f7,hTT]) hTf);rw[f6]at this;cases this
    refine⟨?_,I.hok.free_of hnone,λp hp z=>?_⟩
    ·cases q:X.s₀.heap.get? T' with
     |none=>rfl
     |some o=>
      obtain⟨o',e'⟩:=I.base.there T' o q (by rw[hex];simp);rw[hnone]at e';cases e'
    ·have:=(I.pin p hp).1;rw[z,hnone]at this;cases this
theorem i7{P:ay}{w:au}(hP:X.prog=P)(hw:X.w=w)(I:Inv X pins σ H s)(hex:X.ex=[]){E:XK}{e:ae}{s':af}(h:CX1 P w X.stack H s E e s') :
  ∃x cls H',e=.ref x/\Inv X pins σ H' s'/\bS X pins H' s'.heap x cls/\E cls none H':=by
 subst hP hw;obtain⟨x,cls,H',rfl,os,bare,un,hok,F,q⟩:=h;have ap:∀b,s.heap.get? b=none->H' b=none->Apart X pins H' b:=λb h1 h2=>by
  refine⟨?_,h2,λp hp z=>?_⟩
  ·cases q:X.s₀.heap.get? b with
   |none=>rfl
   |some o=>
    obtain⟨o',e'⟩:=I.base.there b o q (by rw[hex];simp);rw[h1]at e';cases e'
  ·have:=(I.pin p hp).1;rw[z,h1]at this;cases this
 obtain⟨oe,vs,T,oT,ts,a0,e1,e2,e3,e4,e5,e6,e7,e8,e9,e10,e11⟩:=F.tr;exact⟨x,cls,H',rfl,I.call' (ch:=[]) os un hok bare (λb z=>absurd z (by simp)),⟨ap x F.new F.free,oe,vs,T,oT,ts,a0,e1,e2,e3,e4,e5,e6,e7,e8,e9,ap T e10 e11⟩,q⟩
theorem bS.leaves(I:Inv X pins σ H s)(hex:X.ex=[]){env:Env}{outer:List Env}(hst:X.stack=X.env::X.outer)(hfr:X.env.frame=some X.env.locals)(F:bS X pins H s.heap x cls){E:XK}(q:E cls none H)
  {EE:ae->af->Prop}:aj (ak X.prog X.w) X.A (leaving X.env (.ref x)) (λ_ s''=>CX1 X.prog X.w X.outer X.H₀ X.s₀ E (.ref x) s'') EE s:=by
 obtain⟨oe,vs,_,_,_,_,e1,_,_,e4,_⟩:=id F.tr;obtain⟨T,oT,ts,a0,W,hT,hTd,aT⟩:=bS.flying I F;have hfrm:=I.ok.frames;rw[hst]at hfrm W;refine wpAny_leaves_onW hfrm hfr W λh' W' u=>?_
 rw[<-hst]at W';obtain⟨I',F'⟩:=bS.back I hex F.me e1 e4 hT hTd aT W' u;obtain⟨oe',vs',T',oT',ts',a0',f1,f2,f3,f4,f5,f6,f7,f8,f9,f10⟩:=F'.tr;have hb:=I'.base;rw[hex]at hb;exact⟨x,cls,H,rfl,I'.os,I'.bare,hb,I'.hok,⟨F'.me.new,F'.me.free,oe',vs',T',oT',ts',a0',f1,f2,f3,f4,f5,f6,f7,f8,f9,f10.new,f10.free⟩,q⟩
end
section
variable{P:ay}{w:au}{K:av}{mg:Str->Option ae}{base:Heap}{N:List Str}{qual:Str}{scope:aO}{f:Addr}{cd:ae}{A:ax}{outer:List Env}{s₀:af}{H₀:Hp}{E:XK}
theorem Bk:Passes (CX1 P w) (dD (CX1 P w) P w K mg base N qual scope f cd A outer s₀ H₀ E) E:=by
 intro pins σ H s e s' I h;obtain⟨x,cls,H',rfl,I',F,q⟩:=i7 rfl rfl I rfl h;exact bS.leaves (env:=(dD (CX1 P w) P w K mg base N qual scope f cd A outer s₀ H₀ E).env) (outer:=outer) I' rfl rfl rfl F q
theorem kU{X:Cx}(hP:X.prog=P)(hw:X.w=w):Passes (CX1 P w) X E0:=by
 intro pins σ H s e s' I h;obtain⟨x,cls,H',rfl,_,_,_,_,_,q⟩:=h;exact q.elim
noncomputable def Throws(X:Cx)(E:XK):Prop:=∀(pins:List (Addr×Obj)) (σ:St) (H:Hp) (s:af) (h':Heap) (e:Addr) (cls:ae) (args:List ae),Inv X pins σ H s->Heap.MadeExcOf s.heap h' e cls args->E cls none H->X.xe (.ref e) {s with heap:=h'}
theorem Ck:Throws (dD (CX1 P w) P w K mg base N qual scope f cd A outer s₀ H₀ E) E:=by
 intro pins σ H s h' e cls args I M q;generalize hX:dD (CX1 P w) P w K mg base N qual scope f cd A outer s₀ H₀ E=X at I;have hex:X.ex=[]:=by rw[<-hX];rfl
 have hst:X.stack=X.env::X.outer:=by rw[<-hX];rfl
 have hfr:X.env.frame=some X.env.locals:=by rw[<-hX];rfl
 have hxe:X.xe=λe s'=>aj (ak X.prog X.w) X.A (leaving X.env e) (λ_ s''=>CX1 X.prog X.w X.outer X.H₀ X.s₀ E e s'') (λe' s''=>CX1 X.prog X.w X.outer X.H₀ X.s₀ E e' s'') s':=by rw[<-hX];rfl
 rw[hxe];have hfrm:=I.ok.frames;have hstk:=I.stack;have hB:(PySem.W.hideAll s.heap (frs X.stack)).StaysIn s.heap:=λb o q=>PySem.W.of_hideAll _ q
 have hF:=PySem.W.funFrames_hide (as:=frs X.stack) hstk λenv he a ha=>List.mem_filterMap.mpr ⟨env,he,ha⟩
 rw[hst]at hfrm;have hF':s.heap.FunFrames (PySem.W.hideAll s.heap (frs X.stack)) (X.env::X.outer):=by rw[<-hst];exact hF
 refine wpAny_leaves_madeW (s:={s with heap:=h'}) hfrm hfr hB hF' M λh'' t W ht ht0 u=>?_
 obtain⟨w1,w2,w3,oe',vs',T',oT',ts',f1,⟨f2,f3⟩,f4,f5,f6,f7,f8,f9,f10⟩:=W;have frd:∀b o,(b∈frs X.stack\/b=X.env.locals\/b∈X.fs)->s.heap.get? b=some o->∀ws,o.data≠.fields ws:=λb o hb e ws d=>by
  obtain⟨n1,n2,n3,n4⟩:=I.rec_ne e d;rcases hb with z|z|z
  ·exact n4 z
  ·exact n1 z
  ·exact n3 z
 have slot:∀b o,(b∈frs X.stack\/b=X.env.locals\/b∈X.fs)->s.heap.get? b=some o->∃sl,h''.get? b=some {o with slots:=sl}:=λb o hb e=>u b o (M.keeps b o e) (frd b o hb e)
 have I':Inv X pins σ H {s with heap:=h''}:=I.stepN (t':=s.toks) (ch:=[]) hex (λb hb=>absurd hb (by simp)) (λb o h1 _ _ _ e=>w1 b o (dq _ e h1)) slot λb o _ e=>by
  by_cases hb:b∈frs X.stack
  ·obtain⟨sl,q⟩:=slot b o (.inl hb) e;exact⟨_,q⟩
  ·exact⟨o,w1 b o (dq _ e hb)⟩
 have ap:∀b,s.heap.get? b=none->X.s₀.heap.get? b=none/\H b=none:=λb h1=>by
  refine⟨?_,I.hok.free_of h1⟩;cases q:X.s₀.heap.get? b with
  |none=>rfl
  |some o=>
   obtain⟨o',e'⟩:=I.base.there b o q (by rw[hex];simp);rw[h1]at e';cases e'
 have hT:s.heap.get? T'=none:=by
  by_cases hTf:T'∈frs X.stack
  ·obtain⟨_,o,ho,hn⟩:=hstk.mem hTf;obtain⟨sl,q⟩:=slot T' o (.inl hTf) ho;rw[q]at f8;have z:({o with slots:=sl}:Obj)=oT':=bD f8;subst z;exact absurd f9 (hn ts')
  ·cases q:s.heap.get? T' with
   |none=>rfl
   |some o=>
    have:(PySem.W.hideAll s.heap (frs X.stack)).get? T'=some o:=dq _ q hTf;rw[f6]at this;cases this
 have hb:=I'.base;rw[hex]at hb;exact⟨e,cls,H,rfl,I'.os,I'.bare,hb,I'.hok,⟨(ap e M.new).1,(ap e M.new).2,oe',vs',T',oT',ts',.ref t,f1,f2,f3,f4,f5,f7,f8,f9,f10,(ap T' hT).1,(ap T' hT).2⟩,q⟩
end
abbrev gy:List Value:=[.type "ValueError",.type "Exception",.type "BaseException",.type "object"]
noncomputable def jV(K:av)(C:Addr):Prop:=PySem.W.excIn K C gy "ValueError.__new__" = true
theorem xo{K:av}{h:Heap}{C:Addr}{bmB:List ae}{newId:String}(Z:K.In h)(q:PySem.W.excIn K C bmB newId=true) :
  ∃bm N nm qn bs hdct sn sub ab col dd k0 k1 k2 k3 k5 mN,h.get? C=some (excClassObj nm qn C N bs bm hdct sn sub ab col dd k0 k1 k2 k3 k5 newId)/\h.Ns N mN/\mN "__init__" = none/\OwnTail h bmB bm:=by
 unfold PySem.W.excIn at q;split at q
 ·rename_i dict cdat slots look
  split at q
  ·rename_i C2 bm2 j0 j1 j2 j3 nid j5 hmro hslots
   simp only[aH,beq_iff_eq,br]at q;obtain⟨⟨⟨⟨⟨rfl,rfl⟩,nodel⟩,tl⟩,nsok⟩,noinit⟩:=q;obtain⟨c1,c2,c3,c4,c5,c6,c7,c8,c9,c10,c11⟩:=cdat;dsimp only at hmro nodel nsok noinit;subst hmro nodel;have hsl:slots = #[j0,j1,j2,j3,some (.builtin nid),j5]:=by
    obtain⟨sl⟩:=slots;simp only at hslots;rw[hslots]
   subst hsl;exact⟨bm2,c4,c1,c5,c2,c6,c7,c8,c9,c10,dict,j0,j1,j2,j3,j5,_,Z _ _ look,.of_isNs (PySem.W.isNs_of_in Z nsok),PySem.W.nsMap_none_of_in Z nsok noinit,PySem.W.tail_of_in Z tl⟩
  ·cases q
 ·cases q
section
variable{X:Cx}{C:Addr}{x:Str}{E:XK}{t:TA}{e:Expr}{es:List Expr}{np cpos pos:Pos}
noncomputable def AL(C:Addr)(E:XK)(t:TA):TS:=λ_ σ H=>t σ H λvs H1=>vs.length<=aI/\E (.ref C) none H1
theorem Cf(hc:X.calm=true)(hT:Throws X E)(hC:jV X.K C)(hg:Gl X x)(hm:X.mg x=some (.ref C))(ha:PA X (e::es) t)(hd:(x==("__debug__" : Str))=false:=by decide)
  (he:aP (e::es) X.env=(false,eval e X.env)::aP es X.env:=by rfl) (hpl:(backTo cpos (aP es X.env)).any (·.1)=false:=by rfl) :
  PS X (.Raise (some (.Call (.Name x np) (e::es) [] cpos)) none pos) (AL C E t):=by
 intro pins s σ H D I h;obtain⟨bm,N,nm,q,bs,hdct,sn,sub,ab,col,dd,k0,k1,k2,k3,k5,mN,hO,hN,hni,T⟩:=xo I.mod.kin hC;refine wpAny_Raise_call_subT (C:=C) (nm:=nm) (q:=q) (N:=N) (bs:=bs) (bm:=bm) (hdct:=hdct) (sn:=sn) (sub:=sub) (ab:=ab) (col:=col) (dd:=dd) (k0:=k0) (k1:=k1) (k2:=k2) (k3:=k3) (k5:=k5)
  PySem.F.excBase_ValueError (mN:=mN) (T.hasType PySem.F.excBase_ValueError.hasBase) (I.ok.hd hc) ?_ hni (gr I hg hm ⟨rfl,?_⟩ hd)
 ·rw[he];show (false||(backTo cpos (aP es X.env)).any (·.1))=false;rw[hpl];rfl
 ·have ha':=ha cpos pins s σ H _ I h;rw[he]at ha' ⊢;exact Calls.evalArgs_plain (thn ha' λus s1 ⟨vs,H1,I1,r,z,q⟩=>⟨rfl,by rw[<-r.length];exact z,I1.bk _ _ hO,hN.keeps I1.bk,T.keeps I1.bk,λh' e' M=>hT pins σ H1 s1 h' e' _ _ I1 M q⟩)
end
structure dN(k:Nat)(A:ax):Prop where
 dp:A.depth+3 * k+5<recursionLimit
 un:A.units+16 * k+200<cLine
theorem bW.u{k:Nat}{A:ax}(r:bW k A):dN k A:=⟨r.dp,r.un⟩
theorem bW.mark{k:Nat}{A:ax}(r:bW k A)(v:Option ae):dN k (A.mark v):=⟨r.dp,r.un⟩
theorem dN.deeper{k:Nat}{A:ax}(r:dN (k+1) A)(env:Env):dN k (A.deeper env):=
 ⟨by have:=r.dp;show A.depth+1+3 * k+5<_;lia,by have:=r.un;show A.units+3+16 * k+200<_;lia⟩
structure h8(P:ay)(w:au)(K:av)(mg:Str->Option ae)(base:Heap)(CX:CXT)(k:Nat)(f:Addr)(fd:bw)(ps:List Str)(sp:Sp):Prop where
 len:∀vs H Q E,sp vs H Q E->vs.length=ps.length
 run:∀(A:ax) (outer:List Env) (s:af) (H:Hp) (args:Args) (us:List ae) (vs:List V) (Q:VK) (E:XK),dN k A->fG P w K mg base A outer s H->BindsTo s fd args (ps.zip us)->Vals vs us->sp vs H Q E ->
  codeAny (ak P w) A (.call (.ref f) args) (CR CX outer P w H s Q E) s
section
variable{CX:CXT}{P:ay}{w:au}{K:av}{mg:Str->Option ae}{base:Heap}{k:Nat}{f:Addr}{fd:bw}{ps:List Str}{sp:Sp}
abbrev fq(CX:CXT)(P:ay)(w:au)(K:av)(mg:Str->Option ae)(base:Heap)(N:List Str)(qual:Str)(scope:aO)(f:Addr)(cd:ae)(A:ax)(outer:List Env)(s:af)(H:Hp)(E:XK):Cx:=
 {dD CX P w K mg base N qual scope f cd A outer s H E with calm:=false}
theorem xY{N:List Str}{qual:Str}{scope:aO}{cd:ae}{A:ax}{outer:List Env}{s s1:af}{H:Hp}{E:XK}{us:List ae}{vs:List V}
  (S:fF N ps scope) (e0:fG P w K mg base A outer s H) (hl:vs.length=ps.length) (r:Vals vs us)
  (x:InCallC s s.heap.objs.size (bindL (envOfC qual scope s.heap.objs.size f cd).kindOf (ps.zip us) λ_=>none) (aY (s.heap.objs.size+1) scope.names []) (bindC (envOfC qual scope s.heap.objs.size f cd).kindOf (ps.zip us) λ_=>none) s1) :
  Inv (fq CX P w K mg base N qual scope f cd A outer s H E) [] (start N vs) H s1:=by
 have e1:fG P w K mg base {A with handled:=none} outer s H:=⟨e0.frames,e0.mod,e0.bs,e0.bsz,e0.funs,e0.frf,e0.hok,e0.bare⟩
 have I:=rP (CX:=CX) (E:=E) (qual:=qual) (A:={A with handled:=none}) (cd:=cd) (f:=f) S rfl e1 hl r x;exact⟨⟨I.ok.mod,I.ok.kind,I.ok.glob,I.ok.blt,I.ok.above,I.ok.inj,I.ok.has,I.ok.cab,λz=>absurd z b6,ax.frames_deeper e0.frames,I.ok.stk,I.ok.exf,I.ok.bs,I.ok.bsz,I.ok.noex,I.ok.exfs,I.ok.funs,I.ok.frf⟩,
  I.os,I.bare,I.base,I.loc,I.cell,I.free,I.freeC,I.pin,I.hok,I.len⟩
theorem DS{name qual:Str}{params:Arguments}{body:List Stmt}{scope:aO}{dV kV doc pm cdv ct oc:ae}{an od:Option Addr}
  {osl:Array (Option ae)}{N:List Str} (lk:K.lookup f=some ⟨oc,od,.func (bN name qual params body scope dV kV doc pm an cdv ct),osl⟩) (hcd:PySem.W.codeIn K cdv qual=true) (S:fF N ps scope)
  (len:∀vs H Q E,sp vs H Q E->vs.length=ps.length)
  (hbody:∀(A:ax) (outer:List Env) (s:af) (H:Hp) (vs:List V) (Q:VK) (E:XK),dN k (A.deeper (envOfC qual scope s.heap.objs.size f cdv))->sp vs H Q E ->
   ∃t,PSs (fq CX P w K mg base N qual scope f cdv A outer s H E) body t/\t {nx:=λ_ H'=>Q .non H',rt:=Q} (start N vs) H) :
  h8 P w K mg base CX (k+1) f (bN name qual params body scope dV kV doc pm an cdv ct) ps sp:=by
 refine⟨len,λA outer s H args us vs Q E hr e0 hb r hsp=>?_⟩;have hl:=len _ _ _ _ hsp;have KX:K.In s.heap:=e0.mod.kin.keeps λb o e=>(e0.bs b o e).1
 have lim:s.heap.NoLimit:=e0.mod.nolimit.keeps λb o e=>(e0.bs b o e).1
 have hkind:∀y∈ps.zip us,scope.names.lookup y.1=some .local\/(scope.names.lookup y.1=some .cell/\((aY (s.heap.objs.size+1) scope.names []).lookup y.1).isSome=true):=λ⟨n,v⟩ hy=>by
  rcases S.par n (List.of_mem_zip hy).1 with q|q
  ·exact .inl q
  ·exact .inr ⟨q,PySem.W.cellsFrom_some _ _ _ (.inl q)⟩
 refine codeAny_call_function (by have:=hr.dp;lia) (KX _ _ lk) rfl S.co S.gen rfl (PySem.W.codeRec_of KX hcd) (hb _ _ _ _ ?_);refine wpAny_newFunctionEnv_cells S.kind hkind λenv he s1 x=>?_
 subst he;refine⟨lim.keeps x.toInCall.keep,codeAny_func ?_⟩;obtain⟨t,ht,hq⟩:=hbody A outer s H vs Q E (hr.deeper _) hsp;have I:Inv (fq CX P w K mg base N qual scope f cdv A outer s H E) [] (start N vs) H s1:=xY S e0 hl r x;refine bI (ht [] s1 (start N vs) H _ I hq) (λfl s' hs=>?_) λe s' hs=>hs
 have fin:∀{σ':St}{H':Hp}{v:V}{u:ae},Inv (fq CX P w K mg base N qual scope f cdv A outer s H E) [] σ' H' s'->RelV v u->Q v H'->CE outer P w H s Q u s':=
  λ{σ' H' v u} J rv q=>⟨v,H',J.os,J.bare,J.base,J.hok,rv,q⟩
 cases fl with
 |ret u=>
  obtain⟨v,σ',H',J,rv,q⟩:=hs;exact fin J rv q
 |next=>
  obtain⟨σ',H',J,q⟩:=hs;exact fin (v:=V.non) (u:=bA) J rfl q
 |brk=>
  obtain⟨_,_,_,q⟩:=hs;exact aS q
 |cont=>
  obtain⟨_,_,_,q⟩:=hs;exact aS q
end
section
variable{X:Cx}{CX:CXT}{k:Nat}{f:Addr}{fd:bw}{ps:List Str}{sp:Sp}{dvs:List V}{ds:List ae}{E:XK}{x:Str}{p pos:Pos}{e:Expr}{es:List Expr}{t:TA}
theorem ur{pins:List (Addr×Obj)}{σ:St}{H:Hp}{s:af}{Q:VK}{us:List ae}{vs:List V}(F:h8 X.prog X.w X.K X.mg X.base CX k f fd ps sp)(hr:dN k X.A)(hb:Binds X.K fd ps ds)(hd:Vals dvs ds)(hx:Passes CX X E)
  (I:Inv X pins σ H s) (r:Vals vs us) (h:sp (vs++dvs) H Q E):aj (ak X.prog X.w) X.A (call (.ref f) us) (EP X pins σ Q) X.xe s:=by
 have r2:Vals (vs++dvs) (us++ds):=r.append hd;have hl:(us++ds).length=ps.length:=by rw[<-r2.length];exact F.len _ _ _ _ h
 refine wpAny_call (cb (F.run X.A X.stack s H ⟨us,[]⟩ (us++ds) (vs++dvs) Q E hr I.env0 (hb s us I.kIn hl) r2 h) λr s' hq=>?_);cases r with
 |error e=>exact hx pins σ H s e s' I hq
 |ok fl=>
  cases fl with
  |ret u=>exact I.after hq
  |next=>exact aS hq
  |brk=>exact aS hq
  |cont=>exact aS hq
theorem vK(F:h8 X.prog X.w X.K X.mg X.base CX k f fd ps sp)(hr:dN k X.A)(hg:Gl X x)(hm:X.mg x=some (.ref f))(hk:b9 X.K (.ref f)=true)(hb:Binds X.K fd ps ds)(hd:Vals dvs ds)(hx:Passes CX X E)
  (ha:PA X (e::es) t) (hdb:(x==("__debug__" : Str))=false:=by decide) (he:aP (e::es) X.env=(false,eval e X.env)::aP es X.env:=by rfl) (hpl:(backTo pos (aP es X.env)).any (·.1)=false:=by rfl) :
  PE X (.Call (.Name x p) (e::es) [] pos) (kL sp dvs E t):=by
 intro pins s σ H Q I h;refine wpAny_Call_Name_kw (gr I hg hm ?_ hdb);refine PySem.W.callWith_K (h₀:=X.base) I.ok.mod.kin hk (thn (ha pos pins s σ H _ I h) λus s1 ⟨vs,H1,I1,r,q⟩=>⟨I1.kIn,?_⟩) he hpl;exact ur F hr hb hd hx I1 r q
end
noncomputable def gF(x:Addr)(cls:ae):HO:=.ext λh=>∃o vs,h.get? x=some o/\o.cls=cls/\o.data=.fields vs
abbrev Cx.held(X:Cx)(x:Addr):Cx:={X with A:=X.A.mark (some (.ref x)),calm:=false,xe:=λ_ _=>False}
section
variable{X:Cx}{pins:List (Addr×Obj)}{σ:St}{H:Hp}{s:af}
theorem Inv.hold(I:Inv X pins σ H s)(x:Addr):Inv (X.held x) pins σ H s:=
 ⟨⟨I.ok.mod,I.ok.kind,I.ok.glob,I.ok.blt,I.ok.above,I.ok.inj,I.ok.has,I.ok.cab,λz=>absurd z b6,I.ok.frames,I.ok.stk,I.ok.exf,I.ok.bs,I.ok.bsz,I.ok.noex,I.ok.exfs,I.ok.funs,I.ok.frf⟩,
  I.os,I.bare,I.base,I.loc,I.cell,I.free,I.freeC,I.pin,I.hok,I.len⟩
theorem Inv.unhold{x:Addr}(ok:X.Ok)(I:Inv (X.held x) pins σ H s):Inv X pins σ H s:=⟨ok,I.os,I.bare,I.base,I.loc,I.cell,I.free,I.freeC,I.pin,I.hok,I.len⟩
theorem Inv.track(I:Inv X pins σ H s){x:Addr}{o:HO}(hex:X.ex=[])(a:Apart X pins H x)(hl:x≠X.env.locals)(hc:∀y c,X.env.cells.lookup y=some c->c≠x)(ok:zM X.prog X.w (upd H x o) s.heap x o):Inv X pins σ (upd H x o) s:=by
 have nx:∀b u,H b=some u->b≠x:=λb u e z=>by rw[z,a.free]at e;cases e
 refine⟨I.ok,I.os,I.bare,⟨I.base.keep,I.base.slot,λb ob e n h=>?_,I.base.there,λb xs e=>?_,λb ob u e=>?_,λb ps e=>?_⟩,I.loc,I.cell,?_,λy c e=>?_,λp hp=>?_,λb u e=>?_,I.len⟩
 ·rw[qi (λz=>by rw[z,a.new]at e;cases e)];exact I.base.free b ob e n h
 ·have:=I.base.tups b xs e;rw[qi (nx b _ this)];exact this
 ·have:=I.base.frzs b ob u e;rw[qi (nx b _ this)];exact this
 ·obtain⟨more,q⟩:=I.base.tbls b ps e;exact⟨more,by rw[qi (nx b _ q)];exact q⟩
 ·rw[qi (Ne.symm hl)];exact I.free
 ·rw[qi (hc y c e)];exact I.freeC y c e
 ·obtain⟨e,n,r⟩:=I.pin p hp;exact⟨e,by rw[qi (a.pin p hp)];exact n,r⟩
 ·by_cases hb:b=x
  ·subst hb;rw[zu]at e;cases e;exact ok
  ·rw[qi hb]at e;refine(I.hok b u e).stay (λc v _ q=>q) (λc q=>?_) λc xs q=>?_
   ·rw[qi (nx c _ q)];exact q
   ·rw[qi (nx c _ q)];exact q
theorem Inv.forget{h':Heap}{m':Str->Option ae}{t':Nat}(I:Inv X pins σ H s)(hn:h'.Ns X.env.locals m')(hs:Heap.SameBut X.env.locals s.heap h'):Inv X pins (σ.map λ_=>none) H {s with heap:=h',toks:=t'}:=by
 have up:∀b o,X.s₀.heap.get? b=some o->b≠X.env.locals:=λb o e=>aU (a8 (aF e) I.ok.above)
 refine⟨I.ok,I.os,I.bare,⟨λb o e n hb hx=>?_,λb o e n hb hx=>?_,I.base.free,λb o e hx=>?_,I.base.tups,I.base.frzs,I.base.tbls⟩,⟨m',hn,λj y v' e1 e2 e3=>?_⟩,λy c e=>?_,I.free,I.freeC,λp hp=>?_,λb ob e=>?_,by simpa using I.len⟩
 ·exact(hs.2 b (up b o e)).trans (I.base.keep b o e n hb hx)
 ·obtain⟨sl,e1⟩:=I.base.slot b o e n hb hx;exact⟨sl,(hs.2 b (up b o e)).trans e1⟩
 ·obtain⟨o',e1⟩:=I.base.there b o e hx;exact⟨o',(hs.2 b (up b o e)).trans e1⟩
 ·rw[List.getElem?_map]at e2;cases q:σ[j]? with
  |none=>rw[q]at e2;cases e2
  |some z=>rw[q]at e2;cases e2
 ·obtain⟨w',z⟩:=I.cell y c e;exact⟨w',z.sameBut hs (I.cne y c e)⟩
 ·obtain⟨e,n,ne,nf,d⟩:=I.pin p hp;exact⟨(hs.2 p.1 ne).trans e,n,ne,nf,d⟩
 ·refine(I.hok b ob e).stay (λc w' hc q=>(hs.2 c ?_).trans q) (λ_ q=>q) λ_ _ q=>q
  rintro rfl;rcases hc with rfl|hc
  ·rw[I.free]at e;cases e
  ·rw[I.free]at hc;cases hc
end
noncomputable def sW(i:Nat)(K:av)(C:Addr)(n:Nat)(tb:TS)(Eh:XK)(ts:TS):TS:=λD σ H=>tb {D with nx:=D.nx} σ H /\
 ∀(τ:St) (cls:ae) (H':Hp) (x:Addr),τ.length=n->Eh cls none H'->H' x=none->bG K cls (.ref C)=some true /\
  ts {nx:=λ_ _=>False,rt:=D.rt} (τ.set i (some (.ref x))) (upd H' x (gF x cls))
abbrev Cx.inTry(X:Cx)(pn:List (Addr×Obj))(Et:ae->af->Prop):Cx:={X with pn:=pn,xe:=Et}
theorem tQ{X:Cx}{i:Nat}{C:Addr}{cn n:Str}{np hpos pos:Pos}{body:List Stmt}{b₀:Stmt}{suite:List Stmt}{tb ts:TS}{Eh:XK}(hex:X.ex=[])(hst:X.stack=X.env::X.outer)(hfr:X.env.frame=some X.env.locals)
  (hN:X.N.Nodup) (hi:X.N[i]? = some n) (hl:X.env.scope.names.lookup n=some .local) (hg:Gl X cn) (hm:X.mg cn=some (.ref C))
  (hb:∀pn Et,Passes (CX1 X.prog X.w) (X.inTry pn Et) Eh->PSs (X.inTry pn Et) body tb) (hs:∀x,PSs (X.held x) (b₀::suite) ts) (hd:(cn==("__debug__" : Str))=false:=by decide) :
  PS X (.Try body [.ExceptHandler (some (.Name cn np)) (some n) (b₀::suite) hpos] [] [] pos) (sW i X.K C X.N.length tb Eh ts):=by
 intro pins s σ H D I h;obtain⟨h1,h2⟩:=h;refine wpAny_Try_except ?_;have okT:∀Et,(X.inTry (X.pn++pins) Et).Ok:=λEt=>
  ⟨I.ok.mod,I.ok.kind,I.ok.glob,I.ok.blt,I.ok.above,I.ok.inj,I.ok.has,I.ok.cab,I.ok.hd,I.ok.frames,I.ok.stk,I.ok.exf,I.ok.bs,I.ok.bsz,I.ok.noex,I.ok.exfs,I.ok.funs,I.ok.frf⟩
 have toT:∀{Et σ H s},Inv X pins σ H s->Inv (X.inTry (X.pn++pins) Et) [] σ H s:=λ{Et σ H s} J=>
  ⟨okT Et,J.os,J.bare,J.base,J.loc,J.cell,J.free,J.freeC,λp hp=>J.pin p (by simpa using hp),J.hok,J.len⟩
 have ofT:∀{Et pins' σ H s},Inv (X.inTry (X.pn++pins) Et) pins' σ H s->Inv X pins σ H s:=λ{Et pins' σ H s} J=>
  ⟨I.ok,J.os,J.bare,J.base,J.loc,J.cell,J.free,J.freeC,λp hp=>J.pin p (List.mem_append_left _ hp),J.hok,J.len⟩
 have hcls:(X.env.scope.kind==.class||(X.env.scope.kind==.module&&X.env.locals != X.env.globals))=false:=by rw[I.ok.kind];rfl
 have hP:Passes (CX1 X.prog X.w) (X.inTry (X.pn++pins) λe s₁=>aj (ak X.prog X.w) X.A (noteFrame e X.env) (λ_ s₂=>aj (ak X.prog X.w) X.A (setFlight e none) (λ_ s₃=>
   aj (ak X.prog X.w) X.A (handleBy e X.env [.ExceptHandler (some (.Name cn np)) (some n) (b₀::suite) hpos]) (SP X pins D) X.xe s₃) X.xe s₂) X.xe s₁) Eh:=by
  intro pins' σ' H' s' e s'' I' hcx;obtain⟨x,cls,H2,rfl,I2,F2,q⟩:=i7 (X:=X.inTry (X.pn++pins) _) rfl rfl I' hex hcx;have I3:Inv X pins σ' H2 s'':=ofT I2;have ap:∀{Et b},Apart (X.inTry (X.pn++pins) Et) pins' H2 b->Apart X pins H2 b:=λ{Et b} a=>⟨a.new,a.free,λp hp=>a.pin p (List.mem_append_left _ hp)⟩
  have F3:bS X pins H2 s''.heap x cls:=by
   obtain⟨oe,vs,T,oT,ts,a0,e1,e2,e3,e4,e5,e6,e7,e8,e9,e10⟩:=F2.tr;exact⟨ap F2.me,oe,vs,T,oT,ts,a0,e1,e2,e3,e4,e5,e6,e7,e8,e9,ap e10⟩
  obtain⟨oe,vs,_,_,_,_,e1,_,_,e4,_⟩:=id F3.tr;obtain⟨T,oT,tts,a0,W,hT,hTd,aT⟩:=bS.flying I3 F3;have hfrm:=I.ok.frames;rw[hst]at hfrm W;refine wpAny_looks_onW hfrm hfr W λh4 W4 u4=>?_
  refine wpAny_landsW W4 λh5 W5 u5=>?_
  rw[<-hst]at W5;obtain⟨I5,F5⟩:=bS.back I3 hex F3.me e1 e4 hT hTd aT W5 (u4.trans u5);obtain⟨oe5,vs5,T5,oT5,ts5,a5,g1,g2,g3,g4,g5,g6,g7,g8,g9,g10⟩:=id F5.tr;obtain⟨hx1,hx2⟩:=h2 σ' cls H2 x I3.len q F3.me.free;have LT:PySem.W.Looks (ak X.prog X.w) h5 (typeOf (.ref x)) cls:=by
   subst g2;exact(PySem.W.Looks.ld g1).andThen .now
  refine wpAny_handleBy_cons (codeAny_handlers_test (gr (I5.hold x) hg hm ?_ hd)) (by intro z;cases z);refine PySem.W.exm_one (K:=X.K) I5.kIn LT hx1 _ _ _ _ (λ_ _ e=>e) ?_;refine codeAny_handlers_suite_as ?_;obtain⟨T6,oT6,ts6,a6,W6,hT6,hTd6,aT6⟩:=bS.flying I5 F5;refine lands_againW W6 λh6 W6' u6=>?_
  obtain⟨I6,F6⟩:=bS.back I5 hex F5.me g1 g4 hT6 hTd6 aT6 W6' u6;obtain⟨oe6,vs6,_,_,_,_,k1,k2,_,k4,_⟩:=id F6.tr;obtain⟨n1,n2,n3,n4⟩:=I6.rec_ne k1 k4;have I7:=I6.track (o:=gF x cls) hex F6.me n1 n2 ⟨⟨oe6,vs6,k1,k2,k4⟩,⟨oe6,k1⟩,λha hb ⟨o,ws,z1,z2,z3⟩ kk=>⟨o,ws,kk o z1,z2,z3⟩⟩;refine lj (X:=X.held x) (v:=.ref x) (I7.hold x) hN hi (.inl hl) rfl (λs8 I8=>?_) (.inr hl);refine bI (hs x pins s8 _ _ _ I8 hx2) (λf s9 r9=>?_) λ_ _ z=>aS z
  cases f with
  |ret u=>
   obtain⟨v,σ9,H9,I9,rv,q9⟩:=r9;have I9':=I9.unhold I.ok;obtain⟨m,hn,_⟩:=I9'.loc;exact wpAny_nameGoes hl hn hcls λh' m' hn' hs'=>⟨v,_,H9,I9'.forget hn' hs',rv,q9⟩
  |next=>obtain⟨_,_,_,z⟩:=r9;exact aS z
  |brk=>obtain⟨_,_,_,z⟩:=r9;exact aS z
  |cont=>obtain⟨_,_,_,z⟩:=r9;exact aS z
 refine thn (hb _ _ hP [] s σ H _ (toT I) h1) λf s1 q=>?_
 cases f with
 |next=>obtain⟨σ1,H1,I1,q1⟩:=q;exact wpAny_execs_nil ⟨σ1,H1,ofT I1,q1⟩
 |brk=>obtain⟨σ1,H1,I1,q1⟩:=q;exact⟨σ1,H1,ofT I1,q1⟩
 |cont=>obtain⟨σ1,H1,I1,q1⟩:=q;exact⟨σ1,H1,ofT I1,q1⟩
 |ret u=>obtain⟨v,σ1,H1,I1,rv,q1⟩:=q;exact⟨v,σ1,H1,ofT I1,rv,q1⟩
end L2
namespace L2
open PySem PySem.Spec PyProof.Rows PySem.W PySem.Calls Builtin Builtin.ObjectAttr Builtin.Getset_descriptor
structure zQ(K:Frag)(C:Addr):Prop where
 ga:findIn K (.ref C) "__getattribute__" = some (some (.builtin "BaseException.__getattribute__"))
 gt:findIn K (.ref C) "__getattr__" = some none
 gc:findIn K (.ref C) "__class__" = some (some (.builtin "object.__class__"))
 mb:mroIn K C (.type "BaseException")=some true
 mo:mroIn K C (.type "object")=some true
 cl:∃c dd cd sl,K.lookup C=some ⟨c,dd,.cls cd,sl⟩
section
variable{prog:ay}{w:au}{A:ax}{E:ae->af->Prop}{h:Heap}{g:Array GenState}{d:Drawn}{t:Nat}{os:OsState}{x C:Addr}{K:Frag}
theorem sj{R:Result->af->Prop}{tp:ae}(Z:K.In h)(S:zQ K C)(L0:Looks (ak prog w) h (typeOf (.ref x)) (.ref C))(hx:∃o,h.get? x=some o/\o.cls=.ref C)(hq:R (.ok (.ret (.ref C))) ⟨h,g,d,t,os⟩) :
  codeAny (ak prog w) A (.call (.builtin "getset_descriptor.__get__") ⟨[.builtin "object.__class__",.ref x,tp],[]⟩) R ⟨h,g,d,t,os⟩:=by
 have L1:=looks_mroIn (M:=ak prog w) Z S.mo;obtain⟨o,ho,hc⟩:=hx;refine codeAny_call_builtin KF.slot_gs.plain KF.entry_gs (KF.slot_gs.check _ _ _ _ _ _ _ _ KF.type_class (KF.args_gs _ _ _) ?_);unfold Builtin.«getset_descriptor.__get__» descrGet;rw[dga_obj];refine ag (ar ?_);unfold descrGetter descrCheckInstance descrNameAndClass isInstance;simp only[KF.owner_class]
 repeat lk
 refine⟨Code.quiet_builtin _ (by decide +kernel),b8 KF.entry_class ?_⟩;unfold Builtin.«object.__class__» shownTypeOf
 repeat lk
 exact hq
theorem wu{M:Model}{nameV:ae}{Q:Unit->af->Prop}(Z:K.In h)(S:zQ K C)(L0:Looks M h (typeOf (.ref x)) (.ref C))(hq:Q () ⟨h,g,d,t,os⟩) :
  aj M A (checkBuiltinCall "BaseException.__getattribute__" ⟨[.ref x,nameV],[]⟩) Q E ⟨h,g,d,t,os⟩:=by
 have hk:builtinKind "BaseException.__getattribute__" = some .slot:=by decide +kernel
 have hsplit:splitId "BaseException.__getattribute__" = some ("BaseException","__getattribute__"):=by decide +kernel
 have L1:=looks_mroIn (M:=M) Z S.mb;have ha:=F.args_bexc_ga (.ref x) nameV;simp only[checkBuiltinCall,hk,hsplit];refine ag ?_;unfold isInstance
 repeat (first|assumption|lk|wp_step)
theorem CZ{tk:Tok}{Q:Fin->af->Prop}(Z:K.In h)(S:zQ K C)(L0:Looks (ak prog w) h (typeOf (.ref x)) (.ref C))(hx:∃o,h.get? x=some o/\o.cls=.ref C)(hq:Q (.done (.ret (.ref C))) ⟨h,g,d,t,os⟩) :
  aj (ak prog w) A (Builtin.«object.__getattribute__» ⟨[.ref x,.str "__class__" tk],[]⟩) Q E ⟨h,g,d,t,os⟩:=by
 have hT5:(⟨h,g,d,t,os⟩:af).TypeIs (.builtin "object.__class__") "getset_descriptor":=F.typeOf_object_class;have L2:=looks_findIn (M:=ak prog w) Z S.gc;have f5:=F.typeOf_object_class;have f6:=F.slot_gs_get.lookup;have f7:=F.slot_gs_set.lookup
 repeat (any_goals (first|assumption|with_reducible refine L0.at ?_|with_reducible refine ag (L0.at ?_)|with_reducible refine L2.at ?_|with_reducible refine ag (L2.at ?_)|wp_step))
 refine sj Z S L0 hx ?_
 repeat (any_goals (first|assumption|wp_step))
theorem DE{tk:Tok}{Q:ae->af->Prop}(Z:K.In h)(S:zQ K C)(L0:Looks (ak prog w) h (typeOf (.ref x)) (.ref C))(hx:∃o,h.get? x=some o/\o.cls=.ref C)(hq:Q (.ref C) ⟨h,g,d,t,os⟩) :
  aj (ak prog w) A (getAttrBy (.ref x) (.str "__class__" tk) false) Q E ⟨h,g,d,t,os⟩:=by
 have f3:=F.attr_ValueError.ga.bind (.ref x);have hx2:(ae.builtin "BaseException.__getattribute__" == ae.builtin "object.__getattribute__")=false:=by decide +kernel
 have hx1:(onTheHeap (bf C)&&ae.builtin "BaseException.__getattribute__" == ae.builtin "object.__getattribute__")=false:=by rw[hx2];rfl
 have L2:=looks_findIn (M:=ak prog w) Z S.ga;have L3:=looks_findIn (M:=ak prog w) Z S.gt
 repeat (any_goals (first|assumption|with_reducible refine L0.at ?_|with_reducible refine ag (L0.at ?_)|with_reducible refine L2.at ?_|with_reducible refine ag (L2.at ?_)|with_reducible refine L3.at ?_|with_reducible refine ag (L3.at ?_)|wp_step))
 refine codeAny_call_builtin F.attr_ValueError.ga.plain F.entry_bexc_ga (wu Z S L0 (CZ Z S L0 hx ?_))
 repeat (any_goals (first|assumption|wp_step))
theorem sP{Q:Option ae->af->Prop}(Z:K.In h)(S:zQ K C)(L0:Looks (ak prog w) h (typeOf (.ref x)) (.ref C))(hx:∃o,h.get? x=some o/\o.cls=.ref C)(hq:Q (some (.ref C)) ⟨h,g,d,t+1,os⟩) :
  aj (ak prog w) A (getAttr? (.ref x) "__class__") Q E ⟨h,g,d,t,os⟩:=by
 unfold getAttr? getAttrBy?
 repeat (any_goals (first|assumption|with_reducible apply DE Z S L0 hx|wp_step))
end
end L2
namespace L2
open PySem PySem.Spec PyProof.Rows
structure gE(prog:ay)(w:au)(xs:Array ae)(i l:Addr)(P:Nat->Heap->Prop):Prop where
 fr:∀k h h',P k h->(∀o,h.get? i=some o->h'.get? i=some o)->(∀o,h.get? l=some o->h'.get? l=some o)->P k h'
 nx:∀{A:ax} (k:Nat) (x:ae) (s:af) (Q:ae->af->Prop) (E:ae->af->Prop),P k s.heap->xs[k]? = some x->(∀h',P (k+1) h'->Heap.SameBut i s.heap h'->Q x {s with heap:=h'})->aj (ak prog w) A (cm (.ref i)) Q E s
 en:∀{A:ax} (k:Nat) (s:af) (Q:ae->af->Prop) (E:ae->af->Prop),A.handled=none->P k s.heap->xs[k]? = none ->
  (∀h' e,Heap.ExtBut i s.heap h'->(∃o,h'.get? e=some o/\o.cls=.type "StopIteration")->E (.ref e) {s with heap:=h'})->aj (ak prog w) A (cm (.ref i)) Q E s
 at_:∀k h,P k h->∃o,h.get? i=some o/\∃vs,o.data=.fields vs
theorem BV{prog:ay}{w:au}{xs:Array ae}{i l:Addr}:gE prog w xs i l (λk h=>h.IsListIter i l k/\h.IsList l xs) where
 fr:=λ_ _ _ ⟨a,b⟩ p q=>⟨a.at p,b.at q⟩
 nx:=λk x s Q E ⟨a,b⟩ hx hQ=>wpAny_nextOf_list_item a b hx λh' a' sb=>hQ h' ⟨a',b.at λo e=>(sb.2 l (λz=>by
  obtain⟨_,e1,e2,_⟩:=a;obtain⟨_,f1,f2,_⟩:=b;rw[z,e1]at f1;have e3:=bD f1;rw[<-e3,e2]at f2;exact absurd f2 (by decide))).trans e⟩ sb
 en:=λk s Q E hh ⟨a,b⟩ hx hE=>wpAny_nextOf_list_end hh a b hx hE
 at_:=λ_ _ ⟨⟨o,e,_,d⟩,_⟩=>⟨o,e,_,d⟩
section
variable{prog:ay}{w:au}{A:ax}{E:ae->af->Prop}{s:af}
theorem vg{it l:Addr}{i:Nat}{items}{x:ae}{Q:ae->af->Prop}(hit:s.heap.IsTupleIter it l i)(hl:s.heap.IsTuple l items)(hx:items[i]? = some x)
  (hQ:∀h',h'.IsTupleIter it l (i+1)->Heap.SameBut it s.heap h'->Q x {s with heap:=h'}):aj (ak prog w) A (cm (.ref it)) Q E s:=by
 obtain⟨oi,gi,ci,di⟩:=id hit;obtain⟨ol,gl,_,nl,dl⟩:=hl;unfold cm;refine ag (wpAny_callSpecial?_slot (name:=ah "__next__") hit.typeIs F.slot_tuple_iterator_next (bK F.slot_tuple_iterator_next hit.typeIs F.entry_tuple_iterator_next ?_ (F.args_tuple_iterator_next_1 _)));show aj (ak prog w) _ (field (.ref it) 0>>=_) _ _ s;refine ag (bq gi di (x:=.ref l) rfl ?_);show aj (ak prog w) _ (if (bf l==bA)=true then _ else _) _ _ s;rw[if_neg (show ¬ ((bf l==.none)=true)from b6)];show aj (ak prog w) _ (field (.ref it) 1>>=_) _ _ s;refine ag (bq gi di (x:=.int i 0) rfl ?_);show aj (ak prog w) _ (seqItems? (.ref l)>>=_) _ _ s;refine ag (wpAny_seqItems gl dl ?_);simp only[Int.toNat_natCast,hx];refine ag (wpAny_setField gi di (by simp) (ar ⟨x,rfl,ar (hQ _ ?_ (Heap.SameBut.update ..))⟩));exact⟨_,Heap.get?_update_self _ gi (Obj.isFreed_of_fields (Obj.data_mapFields di _)),(Obj.cls_mapFields ..).trans ci,by rw[Obj.data_mapFields di];simp[rawInt]⟩
theorem yC{it l:Addr}{i:Nat}{items}{Q:ae->af->Prop}(hh:A.handled=none)(hit:s.heap.IsTupleIter it l i)(hl:s.heap.IsTuple l items)(hx:items[i]? = none)
  (hE:∀h' e,Heap.ExtBut it s.heap h'->(∃o,h'.get? e=some o/\o.cls=.type "StopIteration")->E (.ref e) {s with heap:=h'}):aj (ak prog w) A (cm (.ref it)) Q E s:=by
 obtain⟨oi,gi,ci,di⟩:=id hit;obtain⟨ol,gl,_,nl,dl⟩:=hl;unfold cm;refine ag (wpAny_callSpecial?_slot (name:=ah "__next__") hit.typeIs F.slot_tuple_iterator_next (bK F.slot_tuple_iterator_next hit.typeIs F.entry_tuple_iterator_next ?_ (F.args_tuple_iterator_next_1 _)));show aj (ak prog w) _ (field (.ref it) 0>>=_) _ _ s;refine ag (bq gi di (x:=.ref l) rfl ?_);show aj (ak prog w) _ (if (bf l==bA)=true then _ else _) _ _ s;rw[if_neg (show ¬ ((bf l==.none)=true)from b6)];show aj (ak prog w) _ (field (.ref it) 1>>=_) _ _ s;refine ag (bq gi di (x:=.int i 0) rfl ?_);show aj (ak prog w) _ (seqItems? (.ref l)>>=_) _ _ s;refine ag (wpAny_seqItems gl dl ?_);simp only[Int.toNat_natCast,hx];refine ag (wpAny_rule (ag (wpAny_setField gi di (by simp) ?_)));show aj (ak prog w) _ (newExc (.type "StopIteration") []>>=_) _ _ _;refine ag ?_;simp only[newExc,newTuple];refine ag (bt ?_ (by size_fits));refine ag (m:=firstArgMember _ _) (wpAny_of_eq (a:=bA) (by first|rfl|(simp only[firstArgMember];rfl)) ?_);refine bt ?_ (by size_fits);simp only[raiseNew];refine ag (wpAny_handled ?_)
 first|rw[show A.in1.handled=none from hh]|rw[hh]
 refine ag (ar (wpAny_throw ?_));exact hE _ _ (((Heap.SameBut.update ..).extBut.push _).push _) ⟨_,Heap.get?_push_size _ rfl,rfl⟩
end
theorem xD{prog:ay}{w:au}{xs:Array ae}{i l:Addr}:gE prog w xs i l (λk h=>h.IsTupleIter i l k/\h.IsTuple l xs) where
 fr:=λ_ _ _ ⟨a,b⟩ p q=>⟨a.at p,let ⟨o,e,r⟩:=b;⟨o,q o e,r⟩⟩
 nx:=λk x s Q E ⟨a,b⟩ hx hQ=>vg a b hx λh' a' sb=>hQ h' ⟨a',b.extBut sb.extBut (λz=>by
  obtain⟨_,e1,e2,_⟩:=a;obtain⟨_,f1,f2,_⟩:=b;rw[z,e1]at f1;have e3:=bD f1;rw[<-e3,e2]at f2;exact absurd f2 (by decide))⟩ sb
 en:=λk s Q E hh ⟨a,b⟩ hx hE=>yC hh a b hx hE
 at_:=λ_ _ ⟨⟨o,e,_,d⟩,_⟩=>⟨o,e,_,d⟩
section
variable{prog:ay}{w:au}{A:ax}{E:ae->af->Prop}{s:af}{z TI TO i1 i2 l1 l2:Addr}{k:Nat}{xs ys:Array ae}{P1 P2:Nat->Heap->Prop}
structure D1(z TI TO i1 i2 l1 l2:Addr):Prop where
 d:ZipApart z TI TO i1 i2 l1 l2
theorem Bd{x y a b:ae}{Q:ae->af->Prop}(D:ZipApart z TI TO i1 i2 l1 l2)(S1:gE prog w xs i1 l1 P1)(S2:gE prog w ys i2 l2 P2)
  (hz:IsZip s.heap z TI TO .none) (hTI:IsPair s.heap TI (.ref i1) (.ref i2)) (hTO:IsPair s.heap TO a b) (h1:P1 k s.heap) (h2:P2 k s.heap) (hx:xs[k]? = some x) (hy:ys[k]? = some y)
  (hQ:∀h',IsZip h' z TI TO (rawInt s.heap.objs.size)->IsPair h' TO x y->P1 (k+1) h'->P2 (k+1) h'->IsPair h' s.heap.objs.size x y->h'.objs.size=s.heap.objs.size+1 ->
   (∀c o,c≠z->c≠TO->c≠i1->c≠i2->s.heap.get? c=some o->h'.get? c=some o)->Q (.ref s.heap.objs.size) {s with heap:=h'}) :
  aj (ak prog w) A (Builtin.«zip.__next__» ⟨[.ref z],[]⟩) (λfin s'=>∃v,fin=.done (.ret v)/\Q v s') E s:=by
 show aj (ak prog w) _ (field (.ref z) 2>>=_) _ _ _;refine ag (bq hz rfl (x:=.bool false) rfl ?_);show aj (ak prog w) _ (field (.ref z) 3>>=_) _ _ _;refine ag (bq hz rfl (x:=.ref TI) rfl ?_);refine ag (wpAny_seqItems hTI rfl ?_);show aj (ak prog w) _ (Builtin.SmallTypes.ownedTupleIsFree (.ref z)>>=_) _ _ _;refine ag ?_;unfold Builtin.SmallTypes.ownedTupleIsFree;refine ag (bq hz rfl (x:=.none) rfl (ar ?_));simp only[if_true];refine ag (wpAny_rule ?_);refine ag (bq hz rfl (x:=.ref TO) rfl ?_);refine ag (wpAny_setField_rec hz (by simp) λj1 zj1 sj1=>?_)
 replace zj1:IsZip j1 z TI TO .ellipsis:=zj1
 refine ag ?_;simp only[List.zipIdx_cons,List.zipIdx_nil,List.forIn_cons,List.forIn_nil];refine ag (ag (wpAny_onRaise ?_));show aj (ak prog w) _ (cm (.ref i1)>>=_) _ _ _;refine ag (S1.nx k x _ _ _ (S1.fr k _ _ h1 (λo e=>sj1.extBut _ o D.i1z e) λo e=>sj1.extBut _ o D.l1z e) hx λj2 pj2 sj2=>ar ?_);have oj2:IsPair j2 TO a b:=sj2.extBut _ _ D.TOi1 (sj1.extBut _ _ D.TOz hTO);refine ag (wpAny_seqItems oj2 rfl ?_);refine ag (wpAny_updateSeq_pair oj2 λj3 oj3 sj3=>?_)
 replace oj3:IsPair j3 TO x b:=oj3
 refine ag (wpAny_letGo (ar ?_));refine ag (ag (wpAny_onRaise ?_));show aj (ak prog w) _ (cm (.ref i2)>>=_) _ _ _;refine ag (S2.nx k y _ _ _ (S2.fr k _ _ h2 (λo e=>sj3.extBut _ o D.TOi2.symm (sj2.extBut _ o D.i12.symm (sj1.extBut _ o D.i2z e))) λo e=>sj3.extBut _ o D.l2TO (sj2.extBut _ o D.l2i1 (sj1.extBut _ o D.l2z e))) hy λj4 pj4 sj4=>ar ?_);have oj4:IsPair j4 TO x b:=sj4.extBut _ _ D.TOi2 oj3;refine ag (wpAny_seqItems oj4 rfl ?_);refine ag (wpAny_updateSeq_pair oj4 λj5 oj5 sj5=>?_)
 replace oj5:IsPair j5 TO x y:=oj5
 refine ag (wpAny_letGo (ar (ar ?_)));refine ag (wpAny_seqItems oj5 rfl ?_);refine ag (wpAny_newTuple ?_);have hsz:j5.objs.size=s.heap.objs.size:=by rw[sj5.1,sj4.1,sj3.1,sj2.1,sj1.1]
 have zj5:IsZip j5 z TI TO .ellipsis:=sj5.extBut _ _ D.TOz.symm (sj4.extBut _ _ D.i2z.symm (sj3.extBut _ _ D.TOz.symm (sj2.extBut _ _ D.i1z.symm zj1)));have kj5:∀c o,c≠z->c≠TO->c≠i1->c≠i2->s.heap.get? c=some o->j5.get? c=some o:=λc o c1 c2 c3 c4 e=>
  sj5.extBut _ _ c2 (sj4.extBut _ _ c4 (sj3.extBut _ _ c2 (sj2.extBut _ _ c3 (sj1.extBut _ _ c1 e))))
 have p15:P1 (k+1) j5:=S1.fr _ _ _ pj2 (λo e=>sj5.extBut _ o D.TOi1.symm (sj4.extBut _ o D.i12 (sj3.extBut _ o D.TOi1.symm e))) λo e=>sj5.extBut _ o D.l1TO (sj4.extBut _ o D.l1i2 (sj3.extBut _ o D.l1TO e))
 have p25:P2 (k+1) j5:=S2.fr _ _ _ pj4 (λo e=>sj5.extBut _ o D.TOi2.symm e) λo e=>sj5.extBut _ o D.l2TO e
 have hzlt:z<j5.objs.size:=aF zj5;show aj (ak prog w) _ (Builtin.SmallTypes.ownedTupleHandOut (.ref z) (.ref j5.objs.size)>>=_) _ _ _;refine ag ?_;unfold Builtin.SmallTypes.ownedTupleHandOut;have zj6:IsZip (j5.push {cls:=.type "tuple",data:=.seq #[x,y]}) z TI TO .ellipsis:=Heap.get?_push_of_some _ zj5;refine ag (wpAny_setField_rec zj6 (by simp) λj7 zj7 sj7=>?_)
 replace zj7:IsZip j7 z TI TO (rawInt j5.objs.size):=zj7
 refine wpAny_setField_rec zj7 (by simp) λj8 zj8 sj8=>?_
 replace zj8:IsZip j8 z TI TO (rawInt j5.objs.size):=zj8
 have up:∀c o,c≠z->j5.get? c=some o->j8.get? c=some o:=λc o c1 e=>sj8.extBut _ _ c1 (sj7.extBut _ _ c1 (Heap.get?_push_of_some _ e))
 have tj8:IsPair j8 j5.objs.size x y:=sj8.extBut _ _ (Nat.ne_of_gt hzlt) (sj7.extBut _ _ (Nat.ne_of_gt hzlt) (Heap.get?_push_size _ rfl));have hz8:j8.objs.size=j5.objs.size+1:=by rw[sj8.1,sj7.1,bj]
 rw[hsz]at zj8 tj8 hz8;refine ar ⟨_,rfl,?_⟩;show Q (.ref j5.objs.size) _;rw[hsz];exact hQ j8 zj8 (up _ _ D.TOz oj5) (S1.fr _ _ _ p15 (λo e=>up _ o D.i1z e) λo e=>up _ o D.l1z e) (S2.fr _ _ _ p25 (λo e=>up _ o D.i2z e) λo e=>up _ o D.l2z e) tj8 hz8 λc o c1 c2 c3 c4 e=>up c o c1 (kj5 c o c1 c2 c3 c4 e)
theorem Bb{a b:ae}{Q:PySem.Fin->af->Prop}(hh:A.handled=none)(D:ZipApart z TI TO i1 i2 l1 l2)(S1:gE prog w xs i1 l1 P1)
  (hz:IsZip s.heap z TI TO .none) (hTI:IsPair s.heap TI (.ref i1) (.ref i2)) (hTO:IsPair s.heap TO a b) (h1:P1 k s.heap) (hx:xs[k]? = none)
  (hE:∀h' e,(∀c o,c≠z->c≠TO->c≠i1->c≠i2->s.heap.get? c=some o->h'.get? c=some o)->(∃o,h'.get? e=some o/\o.cls=.type "StopIteration")->E (.ref e) {s with heap:=h'}) :
  aj (ak prog w) A (Builtin.«zip.__next__» ⟨[.ref z],[]⟩) Q E s:=by
 show aj (ak prog w) _ (field (.ref z) 2>>=_) _ _ _;refine ag (bq hz rfl (x:=.bool false) rfl ?_);show aj (ak prog w) _ (field (.ref z) 3>>=_) _ _ _;refine ag (bq hz rfl (x:=.ref TI) rfl ?_);refine ag (wpAny_seqItems hTI rfl ?_);show aj (ak prog w) _ (Builtin.SmallTypes.ownedTupleIsFree (.ref z)>>=_) _ _ _;refine ag ?_;unfold Builtin.SmallTypes.ownedTupleIsFree;refine ag (bq hz rfl (x:=.none) rfl (ar ?_));simp only[if_true];refine ag (wpAny_rule ?_);refine ag (bq hz rfl (x:=.ref TO) rfl ?_);refine ag (wpAny_setField_rec hz (by simp) λj1 zj1 sj1=>?_)
 replace zj1:IsZip j1 z TI TO .ellipsis:=zj1
 refine ag ?_;simp only[List.zipIdx_cons,List.zipIdx_nil,List.forIn_cons,List.forIn_nil];refine ag (ag (wpAny_onRaise ?_));show aj (ak prog w) _ (cm (.ref i1)>>=_) _ _ _;refine ag (S1.en k _ _ _ hh (S1.fr k _ _ h1 (λo e=>sj1.extBut _ o D.i1z e) λo e=>sj1.extBut _ o D.l1z e) hx λj2 e sj2 he=>?_);obtain⟨oe,hoe,hce⟩:=he;have zj2:IsZip j2 z TI TO .ellipsis:=sj2 _ _ D.i1z.symm zj1;have hez:e≠z:=λq=>by subst q;rw[zj2]at hoe;cases hoe;simp at hce
 refine wpAny_setField_rec zj2 (by simp) λj3 _ sj3=>hE j3 e (λc o c1 _ c3 _ q=>sj3.extBut _ _ c1 (sj2 _ _ c3 (sj1.extBut _ _ c1 q))) ⟨oe,sj3.extBut _ _ hez hoe,hce⟩
end
section
variable{X:Cx}{pins:List (Addr×Obj)}{σ:St}{H:Hp}{s:af}{h':Heap}{tk:Nat}
theorem Inv.turnNew{ch:List Addr}{p:Addr}{vs:List V}{its:List ae}(I:Inv X pins σ H s)(hf:∀b∈ch,cQ X pins H b)(k:∀b o,b∉ch->s.heap.get? b=some o->h'.get? b=some o)
  (hp:s.heap.objs.size<=p) (ht:IsTup h' p its.toArray) (r:Vals vs its) (hz:vs.length<=aI):Inv X pins σ (upd H p (.tup vs)) {s with heap:=h',toks:=tk}:=by
 have hpn:H p=none:=I.hok.fresh hp;have nch:∀b u,H b=some u->b∉ch:=λb u e z=>by have:=(hf b z).1;rw[e]at this;cases this
 have np:∀b u,H b=some u->b≠p:=λb u e z=>by rw[z,hpn]at e;cases e
 refine I.step (g':=s.gens) (d':=s.drawn) (ch:=ch) (λb hb=>?_) (λb o _ _ hc e _=>k b o hc e) (λb o _ _ hc e _=>⟨o.slots,k b o hc e⟩) (λb o hc e n=>?_) (λb o hc e=>⟨o,k b o hc e⟩)
  (λb xs e=>by rw[qi (np b _ e)];exact e) (λb o u e=>by rw[qi (np b _ e)];exact e) (λb ps e=>⟨#[],by rw[qi (np b _ e),e];simp⟩) (λm hm=>?_) (λb u e=>?_) I.bare
 ·obtain⟨f0,f1,f2,f3,f4,f5⟩:=hf b hb;exact⟨f3,f1,f4,f5⟩
 ·rw[qi (aU (a8 (aF e) hp))];exact n
 ·obtain⟨o,es,ep,ho,r⟩:=hm;exact⟨o,es,ep,k _ o (λz=>(hf _ z).2.1 rfl) ho,r⟩
 ·by_cases hb:b=p
  ·subst hb;rw[zu]at e;cases e;exact⟨hz,its,r,ht⟩
  ·rw[qi hb]at e;refine(I.hok b u e).stay (λc v hc q=>k c v ?_ q) (λc q=>by rw[qi (np c _ q)];exact q) λc xs q=>by rw[qi (np c _ q)];exact q
   rcases hc with z|z
   ·rw[z];exact nch b u e
   ·exact nch c _ z
theorem Inv.turnAll{ch:List Addr}(I:Inv X pins σ H s)(hf:∀b∈ch,cQ X pins H b)(k:∀b o,b∉ch->s.heap.get? b=some o->h'.get? b=some o):Inv X pins σ H {s with heap:=h',toks:=tk}:=by
 have nch:∀b u,H b=some u->b∉ch:=λb u e z=>by have:=(hf b z).1;rw[e]at this;cases this
 refine I.step (g':=s.gens) (d':=s.drawn) (ch:=ch) (λb hb=>?_) (λb o _ _ hc e _=>k b o hc e) (λb o _ _ hc e _=>⟨o.slots,k b o hc e⟩) (λb o hc e n=>n) (λb o hc e=>⟨o,k b o hc e⟩)
  (λb xs e=>e) (λb o u e=>e) (λb ps e=>⟨#[],by rw[e];simp⟩) (λm hm=>?_) (λb u e=>?_) I.bare
 ·obtain⟨f0,f1,f2,f3,f4,f5⟩:=hf b hb;exact⟨f3,f1,f4,f5⟩
 ·obtain⟨o,es,ep,ho,r⟩:=hm;exact⟨o,es,ep,k _ o (λz=>(hf _ z).2.1 rfl) ho,r⟩
 ·refine(I.hok b u e).stay (λc v hc q=>k c v ?_ q) (λc q=>q) λc xs q=>q
  rcases hc with z|z
  ·rw[z];exact nch b u e
  ·exact nch c _ z
end
noncomputable def Sq2(K:av)(tup:Bool)(H:Hp)(a:Addr)(xs:List V):Prop:=if tup=true then SqT K H a xs else SqL K H a xs
noncomputable def Itz(K:av)(tup:Bool)(l1 l2:Addr):It:=
 ⟨λi H=>∃xs ys x y,Sq2 K tup H l1 xs/\Sq2 K tup H l2 ys/\xs[i]? = some x/\ys[i]? = some y,
  λi H v H'=>∃p x y,H p=none/\v=.ref p/\H'=upd H p (.tup [x,y])/\(∀xs,Sq2 K tup H l1 xs->xs[i]? = some x)/\∀ys,Sq2 K tup H l2 ys->ys[i]? = some y,
  λi H=>∃xs ys,Sq2 K tup H l1 xs/\Sq2 K tup H l2 ys/\xs.length<=i⟩
noncomputable def d_(tup:Bool)(h:Heap)(i l:Addr)(k:Nat):Prop:=if tup=true then h.IsTupleIter i l k else h.IsListIter i l k
noncomputable def nI(tup:Bool)(h:Heap)(l:Addr)(xs:Array ae):Prop:=if tup=true then h.IsTuple l xs else h.IsList l xs
theorem lx{prog:ay}{w:au}{xs:Array ae}{i l:Addr}{tup:Bool}:gE prog w xs i l (λk h=>d_ tup h i l k/\nI tup h l xs):=by
 cases tup with
 |true=>exact xD
 |false=>exact BV
theorem d_.rec{tup:Bool}{h:Heap}{i l:Addr}{k:Nat}(x:d_ tup h i l k):∃o vs,h.get? i=some o/\o.data=.fields vs:=by
 cases tup with
 |true=>obtain⟨o,e,_,d⟩:=(show h.IsTupleIter i l k from x);exact⟨o,_,e,d⟩
 |false=>obtain⟨o,e,_,d⟩:=(show h.IsListIter i l k from x);exact⟨o,_,e,d⟩
theorem d_.kept{tup:Bool}{h h':Heap}{i l:Addr}{k:Nat}(x:d_ tup h i l k)(p:∀o,h.get? i=some o->h'.get? i=some o):d_ tup h' i l k:=by
 cases tup with
 |true=>exact(show h.IsTupleIter i l k from x).at p
 |false=>exact(show h.IsListIter i l k from x).at p
theorem Inv.sq2{X:Cx}{pins:List (Addr×Obj)}{σ:St}{H:Hp}{s:af}{tup:Bool}{a:Addr}{xs:List V}(I:Inv X pins σ H s)(h:Sq2 X.K tup H a xs):∃its:List ae,Vals xs its/\nI tup s.heap a its.toArray/\xs.length<=aI/\∃o ns n,s.heap.get? a=some o/\o.data=.seq ns n:=by
 cases tup with
 |true=>
  obtain⟨its,r,p,z⟩:=I.tuple h;obtain⟨o,e,c,n,d⟩:=id p;exact⟨its,r,p,z,o,_,n,e,d⟩
 |false=>
  obtain⟨its,r,p,z⟩:=I.list h;obtain⟨o,n,e,c,c',d⟩:=id p;exact⟨its,r,p.isList,z,o,_,n,e,d⟩
theorem Inv.sq2_inj{X:Cx}{pins:List (Addr×Obj)}{σ:St}{H:Hp}{s:af}{tup:Bool}{a:Addr}{xs ys:List V}(I:Inv X pins σ H s)(h:Sq2 X.K tup H a xs)(h':Sq2 X.K tup H a ys):xs=ys:=by
 cases tup with
 |true=>exact I.tuple_inj h h'
 |false=>exact I.list_inj h h'
theorem sA{P:ay}{w:au}{K:av}{es:List Expr}{ek:Nat}{epos:Pos}{tup:Bool}{z TI TO i1 i2 l1 l2:Addr}(n1:TI≠z)(n2:TO≠z)(n3:i1≠z)(n4:i2≠z)(n5:TI≠TO)(n6:TI≠i1)(n7:TI≠i2)(n8:TO≠i1)(n9:TO≠i2)(n10:i1≠i2)
  (ml:∀b∈[z,TI,TO,i1,i2],l1≠b/\l2≠b):Turn P w K (.Tuple es ek epos) (Itz K tup l1 l2) [z,TI,TO,i1,i2] z (λi h=>IsZip h z TI TO .none/\IsPair h TI (.ref i1) (.ref i2)/\(∃a b,IsPair h TO a b)/\d_ tup h i1 l1 i/\d_ tup h i2 l2 i) where
 mem:=by simp
 obj:=λi h st b hb=>by
  obtain⟨hz,hTI,⟨a,c,hTO⟩,h1,h2⟩:=st;obtain⟨o1,v1,e1,d1⟩:=h1.rec;obtain⟨o2,v2,e2,d2⟩:=h2.rec;have hb':b=z\/b=TI\/b=TO\/b=i1\/b=i2:=by simpa using hb
  rcases hb' with q|q|q|q|q
  ·subst q;exact⟨_,hz,λv q=>by cases q⟩
  ·subst q;exact⟨_,hTI,λv q=>by cases q⟩
  ·subst q;exact⟨_,hTO,λv q=>by cases q⟩
  ·subst q;exact⟨o1,e1,λv q=>by rw[d1]at q;cases q⟩
  ·subst q;exact⟨o2,e2,λv q=>by rw[d2]at q;cases q⟩
 keep:=λi h h' st k=>by
  obtain⟨hz,hTI,⟨a,c,hTO⟩,h1,h2⟩:=st;exact⟨k z (by simp) _ hz,k TI (by simp) _ hTI,⟨a,c,k TO (by simp) _ hTO⟩,h1.kept λo e=>k i1 (by simp) o e,h2.kept λo e=>k i2 (by simp) o e⟩
 item:=by
  intro X hP hw hK hc i pins s σ H E I hf st hg;subst hP hw hK;obtain⟨hz,hTI,⟨a,c,hTO⟩,h1,h2⟩:=st;obtain⟨xs,ys,x,y,q1,q2,hx,hy⟩:=hg;obtain⟨its1,r1,p1,z1,_⟩:=I.sq2 q1;obtain⟨its2,r2,p2,z2,_⟩:=I.sq2 q2;obtain⟨u1,hu1,ru1⟩:=r1.get hx;obtain⟨u2,hu2,ru2⟩:=r2.get hy;have D:ZipApart z TI TO i1 i2 l1 l2:=⟨n1,n2,n3,n4,n5,n6,n7,n8,n9,n10,(ml z (by simp)).1,(ml TO (by simp)).1,(ml i1 (by simp)).1,(ml i2 (by simp)).1,(ml z (by simp)).2,(ml TO (by simp)).2,(ml i1 (by simp)).2,(ml i2 (by simp)).2⟩
  have hT:s.TypeIs (.ref z) "zip":=⟨_,hz,rfl⟩
  unfold pyNext;refine ag (wpAny_attempt (wpAny_callSpecial?_slot (name:=ah "__next__") hT F.slot_zip_next (bK F.slot_zip_next hT F.entry_zip_next
   (Bd (xs:=its1.toArray) (ys:=its2.toArray) (k:=i) D (lx (tup:=tup)) (lx (tup:=tup)) hz hTI hTO ⟨h1,p1⟩ ⟨h2,p2⟩ (by simpa using hu1) (by simpa using hu2) λh' a1 a2 a3 a4 a5 a6 hk=>ar ?_) (F.args_zip_next_1 _))))
  have hkc:∀b o,b∉[z,TI,TO,i1,i2]->s.heap.get? b=some o->h'.get? b=some o:=λb o hb e=>hk b o (λq=>hb (by simp[q])) (λq=>hb (by simp[q])) (λq=>hb (by simp[q])) (λq=>hb (by simp[q])) e
  have I1:Inv X pins σ (upd H s.heap.objs.size (.tup [x,y])) {s with heap:=h'}:=I.turnNew (tk:=s.toks) (its:=[u1,u2]) hf hkc (az _) ⟨_,a5,rfl,_,rfl⟩ (.cons ru1 (.cons ru2 .nil)) (by show 2<=aI;decide);have hpn:H s.heap.objs.size=none:=I.hok.fresh (az _);have hfp:∀b∈[z,TI,TO,i1,i2],b≠s.heap.objs.size:=λb hb q=>by
   have hb':b=z\/b=TI\/b=TO\/b=i1\/b=i2:=by simpa using hb
   obtain⟨o1,v1,e1,d1⟩:=h1.rec;obtain⟨o2,v2,e2,d2⟩:=h2.rec;have:b<s.heap.objs.size:=by
    rcases hb' with q|q|q|q|q
    ·subst q;exact aF hz
    ·subst q;exact aF hTI
    ·subst q;exact aF hTO
    ·subst q;exact aF e1
    ·subst q;exact aF e2
   rw[q]at this;exact bx _ this
  have hnone:∀b∈[z,TI,TO,i1,i2],(upd H s.heap.objs.size (.tup [x,y])) b=none:=λb hb=>by rw[qi (hfp b hb)];exact(hf b hb).1
  refine⟨_,rfl,?_⟩;refine wpAny_letOwnedTupleGo_zip (s:={s with heap:=h'}) a1 λh2' hz' hs'=>?_
  obtain⟨f0,f1,f2,f3,f4,f5⟩:=hf z (by simp);refine⟨.ref s.heap.objs.size,_,I1.turned (t':=s.toks) (it:=z) (λb o hb e=>(hs'.2 b hb).trans e) (hnone z (by simp)) f1 f3 f4 f5,rfl,⟨_,x,y,hpn,rfl,rfl,λzs hq=>by rw[I.sq2_inj hq q1];exact hx,λzs hq=>by rw[I.sq2_inj hq q2];exact hy⟩,?_,hnone⟩;have up:∀b o,b≠z->h'.get? b=some o->h2'.get? b=some o:=λb o hb e=>(hs'.2 b hb).trans e
  exact⟨hz',up _ _ n1 (hk _ _ n1 n5 n6 n7 hTI),⟨_,_,up _ _ n2 a2⟩,a3.1.kept λo e=>up _ o n3 e,a4.1.kept λo e=>up _ o n4 e⟩
 done:=by
  intro X hP hw hK hc i pins s σ H E I hf st hg;subst hP hw hK;obtain⟨hz,hTI,⟨a,c,hTO⟩,h1,h2⟩:=st;obtain⟨xs,ys,q1,q2,hx⟩:=hg;obtain⟨its1,r1,p1,z1,_⟩:=I.sq2 q1;have D:ZipApart z TI TO i1 i2 l1 l2:=⟨n1,n2,n3,n4,n5,n6,n7,n8,n9,n10,(ml z (by simp)).1,(ml TO (by simp)).1,(ml i1 (by simp)).1,(ml i2 (by simp)).1,(ml z (by simp)).2,(ml TO (by simp)).2,(ml i1 (by simp)).2,(ml i2 (by simp)).2⟩
  have hT:s.TypeIs (.ref z) "zip":=⟨_,hz,rfl⟩
  have hl:=r1.length;unfold pyNext;refine ag (wpAny_attempt (wpAny_callSpecial?_slot (name:=ah "__next__") hT F.slot_zip_next (bK F.slot_zip_next hT F.entry_zip_next
   (Bb (xs:=its1.toArray) (k:=i) (I.ok.hd hc) D (lx (tup:=tup)) hz hTI hTO ⟨h1,p1⟩ (by simp;lia) λh' e hk he=>?_) (F.args_zip_next_1 _))))
  obtain⟨o,ho,hcl⟩:=he;refine ag (wpAny_isInstance (T:="StopIteration") (b:=true) ⟨o,ho,hcl⟩ isSubtype_stop ?_);exact ar ⟨rfl,I.turnAll (tk:=s.toks) hf λb o hb e=>hk b o (λq=>hb (by simp[q])) (λq=>hb (by simp[q])) (λq=>hb (by simp[q])) (λq=>hb (by simp[q])) e⟩
 self:=λ_ _ _ _ _ st h=>wpAny_pyIter_zip st.1 h
abbrev zj1(h:Heap)(l1:Addr):Heap:=h.push {cls:=.type "tuple_iterator",data:=.fields #[.ref l1,.int 0 0]}
abbrev zj2(h:Heap)(l1 l2:Addr):Heap:=(zj1 h l1).push {cls:=.type "tuple_iterator",data:=.fields #[.ref l2,.int 0 0]}
abbrev zj3(h:Heap)(l1 l2:Addr):Heap:=(zj2 h l1 l2).push {cls:=.type "tuple",data:=.seq #[.ref h.objs.size,.ref (zj1 h l1).objs.size]}
abbrev zj4(h:Heap)(l1 l2:Addr):Heap:=(zj3 h l1 l2).push {cls:=.type "tuple",data:=.seq #[.none,.none]}
abbrev zj5(h:Heap)(l1 l2:Addr):Heap:=(zj4 h l1 l2).push {cls:=.type "zip",data:=.fields #[.none,.bool false,.bool false,.ref (zj2 h l1 l2).objs.size,.ref (zj3 h l1 l2).objs.size]}
theorem AU(l1 l2:Addr)(xs ys:Array ae) :
  Meets (Builtin.«zip.__new__» ⟨[.type "zip",.ref l1,.ref l2],[]⟩) (λ_ R s=>s.heap.IsTuple l1 xs/\s.heap.IsTuple l2 ys/\R (.ok (.ret (.ref (zj4 s.heap l1 l2).objs.size))) {s with heap:=zj5 s.heap l1 l2}):=
 .of_wp λprog w A R s h=>by
  obtain⟨hp,g,d,tk,os⟩:=s;obtain⟨hl1,hl2,h⟩:=h;have hsub:=sub_zip;have hL1:Heap.IsTuple (af.heap ⟨hp,g,d,tk,os⟩) l1 xs:=hl1;have hL2:Heap.IsTuple (af.heap ⟨hp.push {cls:=.type "tuple_iterator",data:=.fields #[.ref l1,.int 0 0]},g,d,tk,os⟩) l2 ys:=let ⟨o,e,r⟩:=hl2;⟨o,Heap.get?_push_of_some _ e,r⟩
  wp_walk using wpAny_pyIter_tuple hL1,wpAny_pyIter_tuple hL2
  exact⟨_,rfl,h⟩
section
variable{prog:ay}{w:au}{A:ax}{E:ae->af->Prop}{s:af}
theorem wo{l1 l2:Addr}{xs ys:Array ae}{Q:ae->af->Prop}(hl1:s.heap.IsTuple l1 xs)(hl2:s.heap.IsTuple l2 ys)
  (h:∀h',IsZip h' (s.heap.objs.size+4) (s.heap.objs.size+2) (s.heap.objs.size+3) .none->IsPair h' (s.heap.objs.size+2) (.ref s.heap.objs.size) (.ref (s.heap.objs.size+1)) ->
   IsPair h' (s.heap.objs.size+3) .none .none->h'.IsTupleIter s.heap.objs.size l1 0->h'.IsTupleIter (s.heap.objs.size+1) l2 0->h'.objs.size=s.heap.objs.size+5 ->
   (∀c o,s.heap.get? c=some o->h'.get? c=some o)->Q (.ref (s.heap.objs.size+4)) {s with heap:=h'}):aj (ak prog w) A (call (.type "zip") [.ref l1,.ref l2]) Q E s:=by
 refine callType_new F.called_zip (by decide) (F.typeCall_zip_2 _ _) (F.newCall_zip_2 _ _) (λobj=>F.args_object_init_3 obj _ _) F.entry_zip_new (AU l1 l2 xs ys) ⟨hl1,hl2,?_⟩;have z1:(zj1 s.heap l1).objs.size=s.heap.objs.size+1:=bj ..;have z2:(zj2 s.heap l1 l2).objs.size=s.heap.objs.size+2:=by rw[bj,z1]
 have z3:(zj3 s.heap l1 l2).objs.size=s.heap.objs.size+3:=by rw[bj,z2]
 have z4:(zj4 s.heap l1 l2).objs.size=s.heap.objs.size+4:=by rw[bj,z3]
 have z5:(zj5 s.heap l1 l2).objs.size=s.heap.objs.size+5:=by rw[bj,z4]
 have g5:(zj5 s.heap l1 l2).get? (zj4 s.heap l1 l2).objs.size=some _:=Heap.get?_push_size _ rfl;have g4:(zj5 s.heap l1 l2).get? (zj3 s.heap l1 l2).objs.size=some _:=Heap.get?_push_of_some _ (Heap.get?_push_size _ rfl);have g3:(zj5 s.heap l1 l2).get? (zj2 s.heap l1 l2).objs.size=some _:=Heap.get?_push_of_some _ (Heap.get?_push_of_some _ (Heap.get?_push_size _ rfl));have g2:(zj5 s.heap l1 l2).get? (zj1 s.heap l1).objs.size=some _:=Heap.get?_push_of_some _ (Heap.get?_push_of_some _ (Heap.get?_push_of_some _ (Heap.get?_push_size _ rfl)));have g1:(zj5 s.heap l1 l2).get? s.heap.objs.size=some _:=Heap.get?_push_of_some _ (Heap.get?_push_of_some _ (Heap.get?_push_of_some _ (Heap.get?_push_of_some _ (Heap.get?_push_size _ rfl))));show _/\_;rw[z2,z3,z4]at g5;rw[z1,z2]at g3;rw[z3]at g4;rw[z1]at g2;rw[z4];exact⟨⟨_,g5,rfl⟩,h _ g5 g3 g4 ⟨_,g1,rfl,rfl⟩ ⟨_,g2,rfl,rfl⟩ z5 λc o x=>Heap.get?_push_of_some _ (Heap.get?_push_of_some _ (Heap.get?_push_of_some _ (Heap.get?_push_of_some _ (Heap.get?_push_of_some _ x))))⟩
end
noncomputable def wt(K:av)(ta:TA):TI:=λσ H R=>ta σ H λvs H1=>∃(tup:Bool) (l1 l2:Addr),vs=[.ref l1,.ref l2]/\(∃xs,Sq2 K tup H1 l1 xs)/\(∃ys,Sq2 K tup H1 l2 ys)/\R (Itz K tup l1 l2) H1
theorem AW{X:Cx}{es:List Expr}{ek:Nat}{epos p pos:Pos}{a b:Expr}{ta:TA}(hg:Gl X "zip")(hm:X.mg "zip" = none)(hv:bz "zip" = some (.type "zip"))(ha:PA X [a,b] ta)
  (hs:aP [a,b] X.env=[(false,eval a X.env),(false,eval b X.env)]:=by rfl) (hs2:aP [b] X.env=[(false,eval b X.env)]:=by rfl):PI X (.Tuple es ek epos) (.Call (.Name "zip" p) [a,b] [] pos) (wt X.K ta):=by
 intro pins s σ H R I h;refine Call_ (fI I hg hm hv (eJ (thn (ha pos pins s σ H _ I h) λus s1 ⟨vs,H1,I1,r1,q1⟩=>?_) (by rw[hs,hs2]) (by rw[hs2];rfl)));obtain⟨tup,l1,l2,e,⟨xs,q2⟩,⟨ys,q3⟩,q⟩:=q1;subst e;cases r1 with
 |cons r rr=>
  cases rr with
  |cons r' rr=>
   cases rr;cases r;cases r';obtain⟨its1,v1,p1,_,o1,ns1,m1,e1,d1⟩:=I1.sq2 q2;obtain⟨its2,v2,p2,_,o2,ns2,m2,e2,d2⟩:=I1.sq2 q3;have lt1:l1<s1.heap.objs.size:=aF e1;have lt2:l2<s1.heap.objs.size:=aF e2;have above:∀b:Addr,b∈[s1.heap.objs.size+4,s1.heap.objs.size+2,s1.heap.objs.size+3,s1.heap.objs.size,s1.heap.objs.size+1]->s1.heap.objs.size<=b:=λb hb=>by
    have hb':b=s1.heap.objs.size+4\/b=s1.heap.objs.size+2\/b=s1.heap.objs.size+3\/b=s1.heap.objs.size\/b=s1.heap.objs.size+1:=by simpa using hb
    rcases hb' with q|q|q|q|q
    ·rw[q];exact Nat.le_add_right _ _
    ·rw[q];exact Nat.le_add_right _ _
    ·rw[q];exact Nat.le_add_right _ _
    ·rw[q];exact az _
    ·rw[q];exact Nat.le_add_right _ _
   have fin:∀h',IsZip h' (s1.heap.objs.size+4) (s1.heap.objs.size+2) (s1.heap.objs.size+3) .none->IsPair h' (s1.heap.objs.size+2) (.ref s1.heap.objs.size) (.ref (s1.heap.objs.size+1)) ->
     IsPair h' (s1.heap.objs.size+3) .none .none->d_ tup h' s1.heap.objs.size l1 0->d_ tup h' (s1.heap.objs.size+1) l2 0->(∀c o,s1.heap.get? c=some o->h'.get? c=some o) ->
     aj (ak X.prog X.w) X.A (pyIter (.ref (s1.heap.objs.size+4))) (PIE X pins σ (.Tuple es ek epos) R) X.xe {s1 with heap:=h'}:=λh' a1 a2 a3 a4 a5 k=>by
    have I2:Inv X pins σ H1 {s1 with heap:=h'}:=I1.kept (t':=s1.toks) k;refine wpAny_pyIter_zip a1 ?_;refine⟨_,_,_,_,H1,rfl,I2,sA (P:=X.prog) (w:=X.w) (K:=X.K) (z:=s1.heap.objs.size+4) (TI:=s1.heap.objs.size+2) (TO:=s1.heap.objs.size+3) (i1:=s1.heap.objs.size) (i2:=s1.heap.objs.size+1) (l1:=l1) (l2:=l2) (tup:=tup) (show (s1.heap.objs.size+2:Nat)≠s1.heap.objs.size+4 by lia) (show (s1.heap.objs.size+3:Nat)≠s1.heap.objs.size+4 by lia) (show (s1.heap.objs.size:Nat)≠s1.heap.objs.size+4 by lia) (show (s1.heap.objs.size+1:Nat)≠s1.heap.objs.size+4 by lia) (show (s1.heap.objs.size+2:Nat)≠s1.heap.objs.size+3 by lia) (show (s1.heap.objs.size+2:Nat)≠s1.heap.objs.size by lia) (show (s1.heap.objs.size+2:Nat)≠s1.heap.objs.size+1 by lia) (show (s1.heap.objs.size+3:Nat)≠s1.heap.objs.size by lia) (show (s1.heap.objs.size+3:Nat)≠s1.heap.objs.size+1 by lia) (show (s1.heap.objs.size:Nat)≠s1.heap.objs.size+1 by lia) (λb hb=>?_),⟨a1,a2,⟨_,_,a3⟩,a4,a5⟩,λb hb=>?_,q⟩
    ·have:=above b hb;exact⟨aU (a8 lt1 this),aU (a8 lt2 this)⟩
    ·have:=above b hb;exact I1.fpOk this (I1.hok.fresh this)
   cases tup with
   |true=>exact wo p1 p2 λh' a1 a2 a3 a4 a5 _ k=>fin h' a1 a2 a3 a4 a5 k
   |false=>exact call_zip_2 p1 p2 λh' a1 a2 a3 a4 a5 _ k=>fin h' a1 a2 a3 a4 a5 k
theorem yR{K:av}{x C:Addr}(S:zQ K C):PySem.W.KitX K (.ref x) (.ref C) (λh=>∃o,h.get? x=some o/\o.cls=.ref C) where
 ty:=λM h _ ⟨o,e,c⟩=>c▸(PySem.W.Looks.ld e).andThen .now
 it:=λ_ _ Z _=>by
  obtain⟨c,dd,cd,sl,e⟩:=S.cl;intro A' Q' E' s' k q;unfold isType loadHead;exact ag (wpAny_loadPart (k _ _ (Z _ _ e)) (ar q))
 ne:=λh tp dd its n sl Z htp=>by
  obtain⟨c,dd',cd,sl',e⟩:=S.cl;refine Bool.eq_false_iff.mpr λq=>?_
  have e1:C=tp:=bf.inj (beq_iff_eq.mp q);subst e1;have z:=(Z _ _ e).symm.trans htp;cases z
 ca:=λ{prog w A E Q s} Z ⟨o,e,c⟩ k=>by
  obtain⟨hh,g,d,t,os⟩:=s;exact sP Z S (c▸(PySem.W.Looks.ld e).andThen .now) ⟨o,e,c⟩ k
noncomputable def kB:V->Option ae
 | .ty n=>some (.type n)
 | .ref a=>some (.ref a)
 |_=>none
noncomputable def TyX(K:av)(H:Hp)(x:V)(t:ae):Prop:=cZ K H x t\/∃a C,x=.ref a/\t=.ref C/\H a=some (gF a (.ref C))/\zQ K C
theorem DB{X:Cx}:zm X (.builtin "isinstance") (λxs H Q=>∃x c cv t b,xs=[x,c]/\kB c=some cv/\TyX X.K H x t/\bc X.K t cv=some b/\Q (.bl b) H):=by
 intro pins s σ H xs us Q I r h;obtain⟨x,c,cv,t,b,rfl,hc,ty,hk,q⟩:=h;obtain⟨u,cu,rfl,rx,rc⟩:=r.two;have e:cu=cv:=by
  cases c with
  |ty n=>cases hc;exact rc
  |ref a=>cases hc;exact rc
  |_=>cases hc
 subst e;rcases ty with ty|⟨a,C,rfl,rfl,ha,S⟩
 ·exact fW I rx ty hk λtk=>⟨.bl b,H,I.tok tk,rfl,q⟩
 ·cases rx;obtain⟨⟨o,vs,e1,e2,e3⟩,_⟩:=(show zM X.prog X.w H s.heap a (gF a (.ref C))from I.hok a _ ha)
  exact bC (yR S) I.kIn ⟨o,e1,e2⟩ hk (λz=>nomatch z) λtk=>⟨.bl b,H,I.tok tk,rfl,q⟩
theorem vj{K:av}{T:String}:bc K (.type T) (.type T)=some true:=by unfold bc;rw[if_pos (by simp)]
theorem vx{K:av}{a T:String}{b:Bool}(hne:(ae.type a==ae.type T)=false)(hm:PySem.W.kitMeta T=true)(hf:(fastBuiltinMro a).map (·.contains (.type T))=some b):bc K (.type a) (.type T)=some b:=by
 unfold bc PySem.W.kitCls aB;rw[if_neg (by rw[hne];exact b6)];dsimp only;rw[if_pos hm];exact hf
noncomputable def fJ(a T:String):Bool:=a==T||(a == "bool" && T == "int")
theorem yE{K:av}{a T:String}(ha:a∈["NoneType","bool","int","str","list","tuple","dict"])(hT:T∈["int","bool","str","list","tuple"]):bc K (.type a) (.type T)=some (fJ a T):=by
 simp only[aG,bh,or_false]at ha hT;rcases ha with rfl|rfl|rfl|rfl|rfl|rfl|rfl<;>rcases hT with rfl|rfl|rfl|rfl|rfl<;>first|exact vj|exact vx (by decide +kernel) (by decide +kernel) (by decide +kernel)
noncomputable def ltP(p q:Int×Int):Bool:=if p.1=q.1 then decide (p.2<q.2)else decide (p.1<q.1)
section
variable{prog:ay}{w:au}{A:ax}{E:ae->af->Prop}{s:af}
end
theorem yB{h:Heap}{a:Addr}{m m':Str->Option ae}(x:h.Ns a m)(y:h.Ns a m'):m=m':=by
 obtain⟨o,es,ep,e1,e2,_,e4⟩:=x;obtain⟨o',es',ep',f1,f2,_,f4⟩:=y;rw[e1]at f1;cases f1;rw[e2]at f2;cases f2;funext n;rw[<-e4,<-f4]
theorem Inv.newList{X:Cx}{pins:List (Addr×Obj)}{σ:St}{H:Hp}{s s':af}{D:Addr}{out:List V}{its:List ae}{c:Nat}(I:Inv X pins σ H s)(hos:s'.os=s.os)(hg:s'.gens=s.gens)
  (k:∀b o,b≠X.env.locals->s.heap.get? b=some o->s'.heap.get? b=some o) (ns:∀m,s.heap.Ns X.env.locals m->s'.heap.Ns X.env.locals m) (hD:s.heap.get? D=none) (hDL:D≠X.env.locals)
  (hl:s'.heap.get? D=some {cls:=.type "list",data:=.seq its.toArray c}) (r:Vals out its) (hz:out.length<=aI):Inv X pins σ (upd H D (.lst out)) s':=by
 obtain⟨h',g',d',t',o'⟩:=s';have eo:o'=s.os:=hos;have eg:g'=s.gens:=hg;subst eo eg;have hpn:H D=none:=I.hok.free_of hD;have np:∀b u,H b=some u->b≠D:=λb u e z=>by rw[z,hpn]at e;cases e
 obtain⟨m0,n0,_⟩:=id I.loc;obtain⟨oL,es,ep,hoL,_⟩:=id n0;obtain⟨oL',es',ep',hoL',_⟩:=ns _ n0;refine I.step (g':=s.gens) (d':=d') (ch:=[]) (λb hb=>absurd hb (by simp)) (λb o hL _ _ e _=>k b o hL e) (λb o hL _ _ e _=>⟨o.slots,k b o hL e⟩) (λb o _ e n=>?_) (λb o _ e=>?_)
  (λb xs e=>by rw[qi (np b _ e)];exact e) (λb o u e=>by rw[qi (np b _ e)];exact e) (λb ps e=>⟨#[],by rw[qi (np b _ e),e];simp⟩) ns (λb u e=>?_) I.bare
 ·rw[qi (λz=>by rw[z,hD]at e;cases e)];exact n
 ·by_cases hL:b=X.env.locals
  ·exact⟨oL',by rw[hL];exact hoL'⟩
  ·exact⟨o,k b o hL e⟩
 ·by_cases hb:b=D
  ·subst hb;rw[zu]at e;cases e;exact⟨hz,its,c,r,hl⟩
  ·rw[qi hb]at e;have nl:∀c,(∃u,H c=some u)->c≠X.env.locals:=λc ⟨u,e⟩ z=>by rw[z,I.free]at e;cases e
   refine(I.hok b u e).stay (λc v hc q=>k c v (nl c ?_) q) (λc q=>by rw[qi (np c _ q)];exact q) λc xs q=>by rw[qi (np c _ q)];exact q
   rcases hc with z|z
   ·exact⟨u,by rw[z];exact e⟩
   ·exact⟨_,z⟩
section
variable{prog:ay}{w:au}{A:ax}{E:ae->af->Prop}{s:af}
end
section
variable{X:Cx}{pins:List (Addr×Obj)}{σ:St}{H:Hp}{s:af}
theorem Inv.big(I:Inv X pins σ H s):sysModules<s.heap.objs.size:=by
 obtain⟨o,_,_,e,_⟩:=I.mod.glob;exact Nat.lt_of_le_of_lt (by decide) (aF (I.bk _ _ e))
theorem Am{pos:Pos}:PE X (.Dict [] [] pos) (λ_ H Q=>∀p,H p=none->Q (.ref p) (upd H p (.dK []))):=λpins s σ H Q I h=>
 wpAny_Dict_empty ⟨.ref s.heap.objs.size,_,I.laid (a:=s.heap.objs.size) (o:=.dK []) (t':=s.toks) (λ_ _ q=>Heap.get?_push_of_some _ q) (az _) ⟨bH _,beq_eq_false_iff_ne.mpr (Ne.symm (aU I.big)),[],.nil,Heap.DictOf.new s.heap⟩,rfl,h _ (I.hok.fresh (az _))⟩
theorem kF{A:ax}{bs:List Bool}{us:List ae}(r:Vals (bs.map V.bl) us):us=bs.map ae.bool:=by
 induction bs generalizing us with
 |nil=>cases r;rfl
 |cons b bs ih=>cases r with
  |cons h t=>rw[ih t,show _=bu b from h];rfl
end
section
variable{X:Cx}
noncomputable def nZ(r r' r'':R2)(ta tb tc td:TE):TE:=λσ H Q=>ta σ H λx H1=>tb σ H1 λy H2=>r x y H2 λz H3=>∃k,z=.bl k /\
 (if k=true then tc σ H3 λw' H4=>r' y w' H4 λz H5=>∃k,z=.bl k/\(if k=true then td σ H5 λw'' H6=>r'' w' w'' H6 Q else Q (.bl false) H5)else Q (.bl false) H3)
theorem Bj{a b c d:Expr}{ta tb tc td:TE}{pos:Pos}{op op' op'':CmpOp}{r r' r'':R2}(ho:OpR X (aW op) r)(ho':OpR X (aW op') r')(ho'':OpR X (aW op'') r'')(ha:PE X a ta)(hb:PE X b tb)(hc:PE X c tc)(hd:PE X d td)
  (hm:lastMarks [op,op',op''] [b,c,d]=false:=by with_unfolding_all rfl):PE X (.Compare a [op,op',op''] [b,c,d] pos) (nZ r r' r'' ta tb tc td):=by
 intro pins s σ H Q I h;refine Compare_chain (thn (ha pins s σ H _ I h) λv s1 ⟨x,H1,I1,r1,q1⟩=>chain_link (thn (hb pins s1 σ H1 _ I1 q1) λu s2 ⟨y,H2,I2,r2,q2⟩=>
  thn (ho pins s2 σ H2 x y v u _ I2 r1 r2 q2) λd s3 ⟨z,H3,I3,r3,k,e,q3⟩=>?_)) hm
 subst e;cases r3;refine bB ?_;cases k with
 |false=>exact ite_ff ⟨.bl false,H3,I3,rfl,q3⟩
 |true=>
  refine ite_tt (chain_link (thn (hc pins s3 σ H3 _ I3 q3) λw' s4 ⟨z',H4,I4,r4,q4⟩=>thn (ho' pins s4 σ H4 y z' u w' _ I4 r2 r4 q4) λd' s5 ⟨z2,H5,I5,r5,k2,e2,q5⟩=>?_));subst e2;cases r5;refine bB ?_;cases k2 with
  |false=>exact ite_ff ⟨.bl false,H5,I5,rfl,q5⟩
  |true=>exact ite_tt (chain_last (thn (hd pins s5 σ H5 _ I5 q5) λw'' s6 ⟨z3,H6,I6,r6,q6⟩=>ho'' pins s6 σ H6 z' z3 w' w'' Q I6 r4 r6 q6))
noncomputable def yA(K:av):R2:=λx y H Q=>∃a b xs ys,x=.ref a/\y=.ref b/\SqT K H a xs/\SqT K H b ys/\xs.length+ys.length<=aI /\
 (xs=[]->Q (.ref b) H)/\(xs≠[]->ys=[]->Q (.ref a) H)/\(xs≠[]->ys≠[]->∀p,H p=none->Q (.ref p) (upd H p (.tup (xs++ys))))
theorem uX:OpR X (binaryOp .Add) (yA X.K):=by
 intro pins s σ H x y v u Q I rx ry h;obtain⟨a,b,xs,ys,rfl,rfl,ha,hb,hz,q0,q1,q2⟩:=h;by_cases hx:xs=[]
 ·subst hx;cases rx;cases ry;obtain⟨its,r1,p1,_⟩:=I.tuple ha;obtain⟨its2,r2,p2,_⟩:=I.tuple hb;cases r1;obtain⟨⟨cls,dd,data,sl⟩,ho,hc,n,hd⟩:=id p1;obtain⟨⟨cls2,dd2,data2,sl2⟩,ho2,hc2,n2,hd2⟩:=id p2;simp only at hc hd hc2 hd2;subst hc hd hc2 hd2;exact concat_meets ⟨_,ho,rfl⟩ ⟨_,ho2,rfl⟩ noFill_tuple_add seq_tuple_add PySem.F.slot_tuple_add PySem.F.entry_tuple_add (PySem.F.args_tuple_add_2 _ _)
   (tuple_addW0 a b _ its2.toArray n n2 dd dd2 sl sl2 (by simp)) ⟨ho,ho2,⟨.ref b,H,I,rfl,q0 rfl⟩⟩
 ·exact ui pins s σ H (.ref a) (.ref b) v u Q I rx ry ⟨a,b,xs,ys,rfl,rfl,ha,hb,hx,hz,q1 hx,q2 hx⟩
theorem oQ{vs:List ae}{ns:List Int}(h:a9 vs ns):Vals (ns.map V.int) vs:=by
 induction h with
 |nil=>exact .nil
 |cons n t _ ih=>exact .cons ⟨t,rfl⟩ ih
noncomputable def CL(K:av):List V->Hp->VK->Prop:=λvs H Q=>∃(l:Addr) (ns:List Int),vs=[.ref l]/\SqL K H l (ns.map V.int)/\ns.length<64/\∀(D:Addr) (ms:List Int),H D=none->ms.Perm ns->ms.Pairwise (·<=·)->Q (.ref D) (upd H D (.lst (ms.map V.int)))
theorem DT:zm X (.builtin "sorted") (CL X.K):=by
 intro pins s σ H xs us Q I r h;obtain⟨l,ns,rfl,hl,h64,q⟩:=h;obtain⟨u,rfl,ru⟩:=r.one;cases ru;obtain⟨its,rv,pl,hz⟩:=I.list hl;obtain⟨m,F⟩:=I.fr;refine PySem.W.kso_sorted F (uc (g:=X.base) (h:=s.heap) (L:=X.env.locals)) pl.isList (intsAre_of rv) h64 λD vs' ns' c h' F' N' hlt hi he hp ho _=>?_
 have keep:∀b o,b≠X.env.locals->s.heap.get? b=some o->h'.get? b=some o:=λb o hb e=>by
  cases qb:X.base.get? b with
  |some ob=>have:=I.bk b ob qb;rw[e]at this;cases this;exact F'.keep b _ qb
  |none=>exact(N' (b,o) (aJ _ (mP hb qb e))).1
 have hDn:=N' (D,_) aK;have hD0:s.heap.get? D=none:=by
  cases qd:s.heap.get? D with
  |none=>rfl
  |some o=>exact absurd (hlt (D,o) (mP hDn.2.1 hDn.2.2 qd)) (bx _)
 refine⟨.ref D,_,I.newList (s':={s with heap:=h'}) (c:=c) rfl rfl keep (λm' hm'=>?_) hD0 hDn.2.1 hDn.1 (oQ hi) (by rw[aV,he,bp];lia),rfl,q D ns' (I.hok.free_of hD0) hp ho⟩;rw[yB hm' F.ns];exact F'.ns
end
noncomputable def Ite(K:av)(l:Addr):It:=
 ⟨λi H=>∃xs x,SqL K H l xs/\xs[i]? = some x,
  λi H v H'=>∃p x,H p=none/\v=.ref p/\H'=upd H p (.tup [.int i,x])/\∀xs,SqL K H l xs->xs[i]? = some x,
  λi H=>∃xs,SqL K H l xs/\xs.length<=i⟩
theorem CS{P:ay}{w:au}{K:av}{es:List Expr}{ek:Nat}{epos:Pos}{e it l:Addr}(n1:e≠it)(n2:l≠e)(n3:l≠it) :
  Turn P w K (.Tuple es ek epos) (Ite K l) [e,it] e (λi h=>(∃old,IsEnum h e it ((i:Nat):Int) old)/\h.IsListIter it l i) where
 mem:=by simp
 obj:=λi h st b hb=>by
  obtain⟨⟨old,hz⟩,o1,e1,_,d1⟩:=st;have hb':b=e\/b=it:=by simpa using hb
  rcases hb' with q|q
  ·subst q;exact⟨_,hz,λv q=>by cases q⟩
  ·subst q;exact⟨o1,e1,λv q=>by rw[d1]at q;cases q⟩
 keep:=λi h h' st k=>by
  obtain⟨⟨old,hz⟩,h1⟩:=st;exact⟨⟨old,k e (by simp) _ hz⟩,h1.at λo q=>k it (by simp) o q⟩
 item:=by
  intro X hP hw hK hc i pins s σ H E I hf st hg;subst hP hw hK;obtain⟨⟨old,hz⟩,h1⟩:=st;obtain⟨xs,x,q1,hx⟩:=hg;obtain⟨its,r1,p1,z1⟩:=I.list q1;obtain⟨u1,hu1,ru1⟩:=r1.get hx;refine wpAny_pyNext_enum_item hz h1 p1.isList (x:=u1) (by simpa using hu1) n1 λh' a1 a2 a3 a4 hk=>?_
  have hkc:∀b o,b∉[e,it]->s.heap.get? b=some o->h'.get? b=some o:=λb o hb q=>hk b o (λz=>hb (by simp[z])) (λz=>hb (by simp[z])) q
  have I1:Inv X pins σ (upd H s.heap.objs.size (.tup [.int i,x])) {s with heap:=h',toks:=s.toks+1}:=I.turnNew (tk:=s.toks+1) (its:=[.int i s.toks,u1]) hf hkc (az _) ⟨_,a3,rfl,_,rfl⟩ (.cons ⟨_,rfl⟩ (.cons ru1 .nil)) (by show 2<=aI;decide);have hpn:H s.heap.objs.size=none:=I.hok.fresh (az _);have hfp:∀b∈[e,it],b≠s.heap.objs.size:=λb hb q=>by
   have hb':b=e\/b=it:=by simpa using hb
   obtain⟨o1,e1,_,d1⟩:=h1;have:b<s.heap.objs.size:=by
    rcases hb' with q|q
    ·subst q;exact aF hz
    ·subst q;exact aF e1
   rw[q]at this;exact bx _ this
  have hnone:∀b∈[e,it],(upd H s.heap.objs.size (.tup [.int i,x])) b=none:=λb hb=>by rw[qi (hfp b hb)];exact(hf b hb).1
  refine⟨_,rfl,?_⟩;refine wpAny_letOwnedTupleGo_enum (s:={s with heap:=h',toks:=s.toks+1}) a1 λh2' hz' hs'=>?_
  obtain⟨f0,f1,f2,f3,f4,f5⟩:=hf e (by simp);refine⟨.ref s.heap.objs.size,_,I1.turned (t':=s.toks+1) (it:=e) (λb o hb q=>(hs'.2 b hb).trans q) (hnone e (by simp)) f1 f3 f4 f5,rfl,⟨_,x,hpn,rfl,rfl,λzs hq=>by rw[I.list_inj hq q1];exact hx⟩,⟨⟨u1,?_⟩,a2.at λo q=>(hs'.2 it (Ne.symm n1)).trans q⟩,hnone⟩
  ·have:((i+1:Nat):Int)=(i:Int)+1:=by push_cast;rfl
   rw[this];exact hz'
 done:=by
  intro X hP hw hK hc i pins s σ H E I hf st hg;subst hP hw hK;obtain⟨⟨old,hz⟩,h1⟩:=st;obtain⟨xs,q1,hx⟩:=hg;obtain⟨its,r1,p1,z1⟩:=I.list q1;have hl:=r1.length;exact wpAny_pyNext_enum_end (I.ok.hd hc) hz h1 p1.isList (by simp;lia) λh' eb=>⟨rfl,I.turnAll (tk:=s.toks) hf λb o hb q=>eb b o (λz=>hb (by simp[z])) q⟩
 self:=λ_ _ _ _ _ st h=>by
  obtain⟨⟨old,hz⟩,_⟩:=st;exact wpAny_pyIter_enum hz h
noncomputable def tW(K:av)(ta:TA):TI:=λσ H R=>ta σ H λvs H1=>∃(l:Addr),vs=[.ref l]/\(∃xs,SqL K H1 l xs)/\R (Ite K l) H1
theorem w6{X:Cx}{es:List Expr}{ek:Nat}{epos p pos:Pos}{a:Expr}{ta:TA}(hg:Gl X "enumerate")(hm:X.mg "enumerate" = none)(hv:bz "enumerate" = some (.type "enumerate"))(ha:PA X [a] ta)
  (hs:aP [a] X.env=[(false,eval a X.env)]:=by rfl):PI X (.Tuple es ek epos) (.Call (.Name "enumerate" p) [a] [] pos) (tW X.K ta):=by
 intro pins s σ H R I h;refine Call_ (fI I hg hm hv (eJ (thn (ha pos pins s σ H _ I h) λus s1 ⟨vs,H1,I1,r1,q1⟩=>?_) (by rw[hs];rfl) (by rfl)));obtain⟨l,e,⟨xs,q2⟩,q⟩:=q1;subst e;cases r1 with
 |cons r rr=>
  cases rr;cases r;obtain⟨its1,v1,p1,_⟩:=I1.list q2;have lt1:l<s1.heap.objs.size:=by obtain⟨_,e,_⟩:=p1.isList;exact aF e
  refine call_enumerate_list p1.isList λh' hE hI hsz k=>?_
  have I2:Inv X pins σ H1 {s1 with heap:=h'}:=I1.kept (t':=s1.toks) k;refine wpAny_pyIter_enum hE ?_;refine⟨_,_,_,_,H1,rfl,I2,CS (P:=X.prog) (w:=X.w) (K:=X.K) (e:=s1.heap.objs.size+1) (it:=s1.heap.objs.size) (l:=l) (Nat.succ_ne_self _) (aU (dt lt1)) (aU lt1),⟨⟨_,hE⟩,hI⟩,λb hb=>?_,q⟩;have hb':b=s1.heap.objs.size+1\/b=s1.heap.objs.size:=by simpa using hb
  have:s1.heap.objs.size<=b:=by
   rcases hb' with q|q
   ·rw[q];exact Nat.le_succ _
   ·rw[q];exact az _
  exact I1.fpOk this (I1.hok.fresh this)
end L2
namespace L2
open PySem PySem.Spec PyProof.Rows PySem.SeqAt
mutual
inductive dP(K:av)(H:Hp):V->PyData->Prop
 |non:dP K H .non .none
 |bl (b:Bool):dP K H (.bl b) (.bool b)
 |int (i:Int):dP K H (.int i) (.int i)
 |str (x:Str):dP K H (.str x) (.str x)
 |lst {a:Addr}{xs:List V}{ds:List PyData}:SqL K H a xs->fU K H xs ds->dP K H (.ref a) (.list ds)
 |tup {a:Addr}{xs:List V}{ds:List PyData}:SqT K H a xs->fU K H xs ds->dP K H (.ref a) (.tuple ds)
inductive fU(K:av)(H:Hp):List V->List PyData->Prop
 |nil:fU K H [] []
 |cons {x:V}{xs:List V}{d:PyData}{ds:List PyData}:dP K H x d->fU K H xs ds->fU K H (x::xs) (d::ds)
end
section
variable{X:Cx}{pins:List (Addr×Obj)}{σ:St}{H:Hp}{s:af}
theorem Inv.reads(I:Inv X pins σ H s){x:V}{d:PyData}(h:dP X.K H x d):∀{u:ae},RelV x u->∃as,Reads s.heap u d as:=
 h.rec (motive_1:=λx d _=>∀{u:ae},RelV x u->∃as,Reads s.heap u d as) (motive_2:=λxs ds _=>∀{us:List ae},Vals xs us->∃as,ReadsAll s.heap us ds as) (λr=>by cases r;exact⟨_,.none⟩) (λb _ r=>by cases r;exact⟨_,.bool b⟩) (λi _ r=>by obtain⟨t,rfl⟩:=r;exact⟨_,.int i t⟩) (λx _ r=>by obtain⟨t,rfl⟩:=r;exact⟨_,.str x t⟩)
  (λh _ g _ r=>by
   cases r;obtain⟨its,rv,pl,_⟩:=I.list h;obtain⟨as,ra⟩:=g rv;obtain⟨o,ho,hc,n,hd⟩:=pl.isList;exact⟨_,Reads.list ho hc hd (by simpa using ra)⟩)
  (λh _ g _ r=>by
   cases r;obtain⟨its,rv,pl,_⟩:=I.tuple h;obtain⟨as,ra⟩:=g rv;obtain⟨o,ho,hc,n,hd⟩:=pl;exact⟨_,Reads.tuple ho hc hd (by simpa using ra)⟩)
  (λr=>by cases r;exact⟨_,.nil⟩) (λ_ _ a b _ r=>by
   cases r with
   |cons r1 r2=>
    obtain⟨as,ra⟩:=a r1;obtain⟨bs,rb⟩:=b r2;exact⟨_,.cons ra rb⟩)
end
section
variable{X:Cx}
end
end L2
namespace L2
open PySem PySem.Spec PyProof.Rows
section
variable{lt:Nat->Nat->Bool}
noncomputable def Asc(lt:Nat->Nat->Bool)(p:Array Nat)(m:Nat):Prop:=∀i j,i<j->j<m->lt (p.getD j 0) (p.getD i 0)=false
end
section
variable{lt:Nat->Nat->Bool}
structure Part(lt:Nat->Nat->Bool)(p:Array Nat)(r:Nat×Array Nat):Prop where
 perm:r.2.Perm p
 size:r.2.size=p.size
 lo:1<=r.1
 hi:r.1<=p.size
 asc:Asc lt r.2 r.1
end
end L2
namespace HT
open PySem PySem.Spec PyProof.Rows L2
section
variable{prog:ay}{w:au}{A:ax}{E:ae->af->Prop}{s:af}
theorem yn{t sl:Addr}{items:Array ae}{vl vu:ae}{lo hi:Option Int}{Q:ae->af->Prop}(ht:IsTup s.heap t items)(hs:s.heap.IsSliceOf sl vl vu .none)(pl:IsPart vl lo)(pu:IsPart vu hi)
  (h0:sIx items.size 0 lo=0) (h1:sIx items.size items.size hi=items.size) (h:Q (.ref t) s):aj (ak prog w) A (getItem (.ref t) (.ref sl)) Q E s:=by
 have sk:s.TypeIs (.ref sl) "slice":=by obtain⟨o,a,b,_⟩:=id hs;exact⟨o,a,b⟩
 unfold getItem
 try with_reducible refine bV ?_
 first|refine ag (ar ?_)|skip
 have ty:=ht.typeIs;apply ag;apply wpAny_sequenceKey ty (by decide);apply ag;apply wpAny_callSpecial?_slot (name:=ah "__getitem__") ty slot_tuple_getitem;refine bK slot_tuple_getitem ty entry_tuple_getitem ?_ (args_tuple_getitem _ _);show aj _ _ (Builtin.Tuple.tupleItemsOf (.ref t)>>=_) _ _ s;apply ag;apply tupleItemsOf_ ht;apply ag;apply wpAny_typeOf sk;rw[if_pos (by decide)];apply ag;apply pI hs pl pu;have yes:(((sIx items.size 0 lo:Nat):Int)==0&&(1:Int)==1&&(sIx items.size items.size hi-sIx items.size 0 lo)==items.size)=true:=by
  rw[h0,h1];simp
 show aj _ _ (if (((sIx items.size 0 lo:Nat):Int)==0&&(1:Int)==1&&(sIx items.size items.size hi-sIx items.size 0 lo)==items.size)=true then _ else _) _ _ s;rw[if_pos yes];apply ag;unfold Builtin.Tuple.tupleIsExact;refine ag (wpAny_typeOf ty (ar ?_));rw[if_pos (by rfl)];exact ag (wpAny_rule (ar ⟨_,rfl,ar h⟩))
end
end HT
namespace L2
open PySem PySem.Spec PyProof.Rows
noncomputable def uj(K:av):V->Option Int->Option Int->Hp->VK->Prop:=λx lo hi H Q=>∃a xs,x=.ref a/\SqT K H a xs/\HT.sIx xs.length 0 lo=0/\HT.sIx xs.length xs.length hi=xs.length/\Q x H
theorem Cz{X:Cx}:SlR X (uj X.K):=by
 intro pins s σ H x v vl vu lo hi sl Q I rx hs pl pu ⟨a,xs,e,hx,h0,h1,q⟩;subst e;have rx':=rx;cases rx;obtain⟨its,r,ht,hz⟩:=I.tuple hx;have hl:its.toArray.size=xs.length:=by rw[aL];exact r.length.symm
 exact⟨"tuple",_,slot_tuple_getitem.lookup,ht.typeIs,HT.yn ht hs pl pu (by rw[hl];exact h0) (by rw[hl];exact h1) ⟨.ref a,H,I,rx',q⟩⟩
noncomputable def A9(K:av)(C:Addr)(n:Nat)(tb:TS)(Eh:XK)(ts:TS):TS:=λD σ H=>tb {D with nx:=D.nx} σ H /\
 ∀(τ:St) (cls:ae) (H':Hp),τ.length=n->Eh cls none H'->bG K cls (.ref C)=some true/\ts {nx:=λ_ _=>False,rt:=D.rt} τ H'
theorem uP{X:Cx}{C:Addr}{cn:Str}{np hpos pos:Pos}{body:List Stmt}{b₀:Stmt}{suite:List Stmt}{tb ts:TS}{Eh:XK}(hex:X.ex=[])(hst:X.stack=X.env::X.outer)(hfr:X.env.frame=some X.env.locals)
  (hg:Gl X cn) (hm:X.mg cn=some (.ref C))
  (hb:∀pn Et,Passes (CX1 X.prog X.w) (X.inTry pn Et) Eh->PSs (X.inTry pn Et) body tb) (hs:∀x,PSs (X.held x) (b₀::suite) ts) (hd:(cn==("__debug__" : Str))=false:=by decide) :
  PS X (.Try body [.ExceptHandler (some (.Name cn np)) none (b₀::suite) hpos] [] [] pos) (A9 X.K C X.N.length tb Eh ts):=by
 intro pins s σ H D I h;obtain⟨h1,h2⟩:=h;refine wpAny_Try_except ?_;have okT:∀Et,(X.inTry (X.pn++pins) Et).Ok:=λEt=>
  ⟨I.ok.mod,I.ok.kind,I.ok.glob,I.ok.blt,I.ok.above,I.ok.inj,I.ok.has,I.ok.cab,I.ok.hd,I.ok.frames,I.ok.stk,I.ok.exf,I.ok.bs,I.ok.bsz,I.ok.noex,I.ok.exfs,I.ok.funs,I.ok.frf⟩
 have toT:∀{Et σ H s},Inv X pins σ H s->Inv (X.inTry (X.pn++pins) Et) [] σ H s:=λ{Et σ H s} J=>
  ⟨okT Et,J.os,J.bare,J.base,J.loc,J.cell,J.free,J.freeC,λp hp=>J.pin p (by simpa using hp),J.hok,J.len⟩
 have ofT:∀{Et pins' σ H s},Inv (X.inTry (X.pn++pins) Et) pins' σ H s->Inv X pins σ H s:=λ{Et pins' σ H s} J=>
  ⟨I.ok,J.os,J.bare,J.base,J.loc,J.cell,J.free,J.freeC,λp hp=>J.pin p (List.mem_append_left _ hp),J.hok,J.len⟩
 have hP:Passes (CX1 X.prog X.w) (X.inTry (X.pn++pins) λe s₁=>aj (ak X.prog X.w) X.A (noteFrame e X.env) (λ_ s₂=>aj (ak X.prog X.w) X.A (setFlight e none) (λ_ s₃=>
   aj (ak X.prog X.w) X.A (handleBy e X.env [.ExceptHandler (some (.Name cn np)) none (b₀::suite) hpos]) (SP X pins D) X.xe s₃) X.xe s₂) X.xe s₁) Eh:=by
  intro pins' σ' H' s' e s'' I' hcx;obtain⟨x,cls,H2,rfl,I2,F2,q⟩:=i7 (X:=X.inTry (X.pn++pins) _) rfl rfl I' hex hcx;have I3:Inv X pins σ' H2 s'':=ofT I2;have ap:∀{Et b},Apart (X.inTry (X.pn++pins) Et) pins' H2 b->Apart X pins H2 b:=λ{Et b} a=>⟨a.new,a.free,λp hp=>a.pin p (List.mem_append_left _ hp)⟩
  have F3:bS X pins H2 s''.heap x cls:=by
   obtain⟨oe,vs,T,oT,ts,a0,e1,e2,e3,e4,e5,e6,e7,e8,e9,e10⟩:=F2.tr;exact⟨ap F2.me,oe,vs,T,oT,ts,a0,e1,e2,e3,e4,e5,e6,e7,e8,e9,ap e10⟩
  obtain⟨oe,vs,_,_,_,_,e1,_,_,e4,_⟩:=id F3.tr;obtain⟨T,oT,tts,a0,W,hT,hTd,aT⟩:=bS.flying I3 F3;have hfrm:=I.ok.frames;rw[hst]at hfrm W;refine wpAny_looks_onW hfrm hfr W λh4 W4 u4=>?_
  refine wpAny_landsW W4 λh5 W5 u5=>?_
  rw[<-hst]at W5;obtain⟨I5,F5⟩:=bS.back I3 hex F3.me e1 e4 hT hTd aT W5 (u4.trans u5);obtain⟨oe5,vs5,T5,oT5,ts5,a5,g1,g2,g3,g4,g5,g6,g7,g8,g9,g10⟩:=id F5.tr;obtain⟨hx1,hx2⟩:=h2 σ' cls H2 I3.len q;have LT:PySem.W.Looks (ak X.prog X.w) h5 (typeOf (.ref x)) cls:=by
   subst g2;exact(PySem.W.Looks.ld g1).andThen .now
  refine wpAny_handleBy_cons (codeAny_handlers_test (gr (I5.hold x) hg hm ?_ hd)) (by intro z;cases z);refine PySem.W.exm_one (K:=X.K) I5.kIn LT hx1 _ _ _ _ (λ_ _ e=>e) ?_;refine codeAny_handlers_suite ?_;obtain⟨T6,oT6,ts6,a6,W6,hT6,hTd6,aT6⟩:=bS.flying I5 F5;refine lands_againW W6 λh6 W6' u6=>?_
  obtain⟨I6,F6⟩:=bS.back I5 hex F5.me g1 g4 hT6 hTd6 aT6 W6' u6;refine bI (hs x pins _ _ _ _ (I6.hold x) hx2) (λf s9 r9=>?_) λ_ _ z=>aS z
  cases f with
  |ret u=>
   obtain⟨v,σ9,H9,I9,rv,q9⟩:=r9;exact⟨v,_,H9,I9.unhold I.ok,rv,q9⟩
  |next=>obtain⟨_,_,_,z⟩:=r9;exact aS z
  |brk=>obtain⟨_,_,_,z⟩:=r9;exact aS z
  |cont=>obtain⟨_,_,_,z⟩:=r9;exact aS z
 refine thn (hb _ _ hP [] s σ H _ (toT I) h1) λf s1 q=>?_
 cases f with
 |next=>obtain⟨σ1,H1,I1,q1⟩:=q;exact wpAny_execs_nil ⟨σ1,H1,ofT I1,q1⟩
 |brk=>obtain⟨σ1,H1,I1,q1⟩:=q;exact⟨σ1,H1,ofT I1,q1⟩
 |cont=>obtain⟨σ1,H1,I1,q1⟩:=q;exact⟨σ1,H1,ofT I1,q1⟩
 |ret u=>obtain⟨v,σ1,H1,I1,rv,q1⟩:=q;exact⟨v,σ1,H1,ofT I1,rv,q1⟩
section
variable{X:Cx}
end
section
variable{X:Cx}{tg:Expr}
end
noncomputable def zw(sep:Str):List Str->Str
 | [p]=>p
 |l=>Builtin.Str.glued sep l
noncomputable def DZ(i:Int)(t:Str):Str:=(Str.empty++(toString i:String))++t
noncomputable def eS(i:Int)(t:Str)(j:Int):Str:=DZ i t++(toString j:String)
theorem tZ{ys:List Str}:∀{us:List ae},Vals (ys.map V.str) us->∃l:List (Str×Tok),us=strValues l/\l.map (·.1)=ys:=by
 induction ys with
 |nil=>intro us r;cases r;exact⟨[],rfl,rfl⟩
 |cons y ys ih=>
  intro us r;cases r with
  |cons h t=>
   obtain⟨l,rfl,e⟩:=ih t;obtain⟨tk,rfl⟩:=h;exact⟨(y,tk)::l,rfl,by rw[a7,e]⟩
theorem nR(k:Nat):∀(ys:List Str) (n:Nat),ys.foldl (· + ·.length+k) n=n+(ys.map (·.length)).sum+k * ys.length
 | [],n=>by simp
 |y::ys,n=>by
  rw[List.foldl_cons,nR k ys,a7,List.sum_cons,bU,Nat.mul_succ];lia
section
variable{X:Cx}
noncomputable def rJoin(K:av):V->List V->Hp->VK->Prop:=λx vs H Q=>∃(sep:Str) (l:Addr) (ys:List Str),x=.str sep/\vs=[.ref l]/\SqL K H l (ys.map V.str)/\sep.length<=16/\(ys.map (·.length)).sum+ys.length<=100000/\Q (.str (zw sep ys)) H
theorem yb:MtR X "str.join" (rJoin X.K):=by
 intro pins s σ H x vs v us Q I rx rv h;obtain⟨sep,l,ys,rfl,rfl,hH,h16,hz,q⟩:=h;obtain⟨t,rfl⟩:=rx;obtain⟨u,rfl,ru⟩:=rv.one;cases ru;obtain⟨its,r,pl,_⟩:=I.list hH;obtain⟨ls,rfl,ey⟩:=tZ r;have hl:Builtin.Str.tooLong ((ls.map (·.1)).toArray.foldl (· + ·.length+sep.length) 0)=false:=by
  have:(ls.map (·.1)).toArray.foldl (λ(n:Nat) (s:Str)=>n+s.length+sep.length) 0=(ls.map (·.1)).foldl (λ(n:Nat) (s:Str)=>n+s.length+sep.length) 0:=by simp
  rw[this,nR,ey,Builtin.Str.tooLong,decide_eq_false_iff_not,bp];have:=Nat.mul_le_mul_right ys.length h16;lia
 refine call_meets F.slot_str_join (typeIs_str _ _ _) F.entry_str_join (F.args_str_join_2 _ _) (meets_str_join_list sep t l ls hl) ⟨pl.isList,?_⟩;have sg:∀m:List Str,m=ys->(Builtin.Str.glued sep m).length<=sizeLine:=λm em=>by
  subst em;rw[size_glued,bp];have h1:=Nat.mul_le_mul_left (m.length-1) h16;lia
 subst ey
 match ls,sg,q with
 | [],sg,q=>exact⟨sg _ rfl,.str _,H,I.tok _,⟨_,rfl⟩,q⟩
 | [p],sg,q=>exact⟨.str _,H,I,⟨p.2,rfl⟩,q⟩
 |p::p'::r',sg,q=>exact⟨sg _ rfl,.str _,H,I.tok _,⟨_,rfl⟩,q⟩
noncomputable def CH(ta:TE)(t:Str)(tb:TE):TE:=λσ H Q=>ta σ H λx H1=>∃i:Int,x=.int i/\(i.natAbs.log2<1920/\((Str.empty++((toString i:String):Str))++t).length<=aI) /\
 tb σ H1 λy H2=>∃j:Int,y=.int j/\(j.natAbs.log2<1920/\(eS i t j).length<=aI)/\Q (.str (eS i t j)) H2
theorem xS{ea eb:Expr}{ta tb:TE}{t:Str}{k1}{p1 p2 p3 pos:Pos}(ha:PE X ea ta)(hb:PE X eb tb) :
  PE X (.JoinedStr [.FormattedValue ea (-1) none p1,.Constant (.str t) k1 p2,.FormattedValue eb (-1) none p3] pos) (CH ta t tb):=by
 intro pins s σ H Q I h;refine PyProof.Rows.JoinedStr_many ?_;refine PyProof.Rows.joinParts_cons (PyProof.Rows.FormattedValue_plain (thn (ha pins s σ H _ I h) λv s2 ⟨x,H2,I2,r2,q⟩=>?_));obtain⟨i,rfl,⟨l1,l2⟩,q⟩:=q;obtain⟨tk,rfl⟩:=r2;have z1:(Str.empty++(toString i:String)).length<=sizeLine:=by
  rw[strLen_append]at l2;lia
 have I3:Inv X pins σ H2 {s2 with toks:=s2.toks+1+1}:=I2.kept (t':=s2.toks+1+1) λb o e=>e
 refine PyProof.Rows.formatField_int_small l1 ⟨z1,?_⟩;refine PyProof.Rows.joinParts_cons (thn (jQ pins _ σ H2 (λx H1=>x=.str t/\H1=H2) I3 ⟨rfl,rfl⟩) λv s4 ⟨x,H4,I4,r4,e1,e2⟩=>?_);subst e1 e2;obtain⟨tk,rfl⟩:=r4;refine⟨l2,?_⟩;refine PyProof.Rows.joinParts_cons (PyProof.Rows.FormattedValue_plain (thn (hb pins s4 σ H4 _ I4 q) λv s5 ⟨x,H5,I5,r5,q⟩=>?_));obtain⟨j,rfl,⟨l3,l4⟩,q⟩:=q;obtain⟨tk,rfl⟩:=r5;have I6:Inv X pins σ H5 {s5 with toks:=s5.toks+1+1}:=I5.kept (t':=s5.toks+1+1) λb o e=>e
 refine PyProof.Rows.formatField_int_small l3 ⟨l4,PyProof.Rows.joinParts_nil ?_ l4⟩;exact⟨.str _,H5,I6.kept (t':=s5.toks+1+1+1) λb o e=>e,⟨_,rfl⟩,q⟩
end
noncomputable def qe(x y:Str):List Str:=
 if (decide (x.length<y.length)||decide (Builtin.Str.strKind x<Builtin.Str.strKind y))=true then [x]else
 if (Builtin.Str.occurrences x y 0 x.length (x.length+1)).isEmpty=true then [x]else
 Builtin.Str.partsBetween x (Builtin.Str.occurrences x y 0 x.length (x.length+1)) y.length
theorem mr:∀(tk:Nat) (ys:List Str),Vals (ys.map V.str) (strsFrom tk ys)
 |_,[]=>.nil
 |tk,y::ys=>.cons ⟨tk,rfl⟩ (mr (tk+1) ys)
section
variable{X:Cx}
noncomputable def wV:V->List V->Hp->VK->Prop:=λx vs H Q=>∃a b:Str,x=.str a/\vs=[.str b]/\b.length≠0/\a.length<=aI/\(qe a b).length<=aI/\∀D,H D=none->Q (.ref D) (upd H D (.lst ((qe a b).map V.str)))
theorem yz:MtR X "str.split" wV:=by
 intro pins s σ H x vs v us Q I rx rv h;obtain⟨a,b,rfl,rfl,hb,ha,hz,q⟩:=h;obtain⟨t,rfl⟩:=rx;obtain⟨u,rfl,ru⟩:=rv.one;obtain⟨t',rfl⟩:=ru;have hb':(b.length==0)=false:=by simpa using hb
 have fresh:H s.heap.objs.size=none:=I.hok.fresh (az _);have one:∀(tk:Nat),qe a b=[a]->∃v' H',Inv X pins σ H' {s with heap:=s.heap.push {cls:=.type "list",data:=.seq [ae.str a t].toArray},toks:=tk}/\RelV v' (bf s.heap.objs.size)/\Q v' H':=λtk e=>by
  refine⟨.ref s.heap.objs.size,_,I.laid (t':=tk) (λ_ _ z=>Heap.get?_push_of_some _ z) (az _) (o:=.lst ((qe a b).map V.str)) ⟨by rw[aV];exact hz,[.str a t],0,by rw[e];exact .cons ⟨t,rfl⟩ .nil,Heap.get?_push_size _ rfl⟩,rfl,q _ fresh⟩
 cases h1:(decide (a.length<b.length)||decide (Builtin.Str.strKind a<Builtin.Str.strKind b))with
 |true=>
  have e:qe a b=[a]:=by rw[qe,if_pos h1]
  exact call_meets F.slot_str_split (typeIs_str _ _ _) F.entry_str_split (F.args_str_split_2 _ _) (meets_str_split_cannot_occur a b t t' h1) (one s.toks e)
 |false=>
  cases h2:(Builtin.Str.occurrences a b 0 a.length (a.length+1)).isEmpty with
  |true=>
   have e:qe a b=[a]:=by rw[qe,if_neg (by rw[h1];decide),if_pos h2]
   exact call_meets F.slot_str_split (typeIs_str _ _ _) F.entry_str_split (F.args_str_split_2 _ _) (meets_str_split_not_found a b t t' h1 hb' h2) (one s.toks e)
  |false=>
   have e:qe a b=Builtin.Str.partsBetween a (Builtin.Str.occurrences a b 0 a.length (a.length+1)) b.length:=by rw[qe,if_neg (by rw[h1];decide),if_neg (by rw[h2];decide)]
   rw[e]at hz q;refine call_meets F.slot_str_split (typeIs_str _ _ _) F.entry_str_split (F.args_str_split_2 _ _) (meets_str_split_sep a b t t' h1 hb' h2 ha hz) ?_;generalize Builtin.Str.partsBetween a (Builtin.Str.occurrences a b 0 a.length (a.length+1)) b.length=ps at *;exact⟨.ref s.heap.objs.size,_,I.laid (λ_ _ z=>Heap.get?_push_of_some _ z) (az _) (o:=.lst (ps.map V.str)) ⟨by rw[aV];exact hz,strsFrom s.toks ps,0,mr _ _,Heap.get?_push_size _ rfl⟩,rfl,q _ fresh⟩
theorem uV:zm X (.type "int") (λxs H Q=>∃(x:Str) (n:Int),xs=[.str x]/\PySem.intText? x=some n/\x.length<=640/\Q (.int n) H):=by
 intro pins s σ H xs us Q I r h;obtain⟨x,n,rfl,hn,hl,q⟩:=h;obtain⟨u,rfl,ru⟩:=r.one;obtain⟨t,rfl⟩:=ru;exact PySem.W.KIN.call_text hn hl ⟨.int n,H,I.tok _,⟨_,rfl⟩,q⟩
end
noncomputable def Its(x:Str):It:=⟨λi _=>i<x.cps.size,λi H v H'=>H'=H/\∃c,x.cps[i]? = some c/\v=.str ⟨#[c]⟩,λi _=>x.cps.size<=i⟩
theorem pP{P:ay}{w:au}{K:av}{tg:Expr}{ty:String}(hty:ty = "str_ascii_iterator"\/ty = "str_iterator")(it:Addr)(x:Str)(t:Tok):Turn P w K tg (Its x) [it] it (λi h=>h.IsStrIter it ty x t i) where
 mem:=by simp
 obj:=λi h st b hb=>by
  have e:b=it:=by simpa using hb
  subst e;obtain⟨o,e,c,d⟩:=st;exact⟨o,e,λv z=>by rw[d]at z;cases z⟩
 keep:=λi h h' st k=>let ⟨o,ho,r⟩:=st;⟨o,k it (by simp) o ho,r⟩
 item:=by
  intro X hP hw hK hc i pins s σ H E I hf st hg;subst hP hw hK;obtain⟨f0,f1,f2,f3,f4,f5⟩:=hf it (by simp);have hi:i<x.cps.size:=hg;rcases hty with rfl|rfl
  ·refine wpAny_pyNext_ascii_item st (c:=x.cps[i]) (by simp[hi]) λh' st' sb=>?_
   have I1:Inv X pins σ H {s with heap:=h',toks:=s.toks+1}:=I.turned (λb o hb e=>(sb.2 b hb).trans e) f0 f1 f3 f4 f5;obtain⟨o,e,c,d⟩:=id st';exact⟨_,rfl,iy (s:={s with heap:=h',toks:=s.toks+1}) e c d (by decide) ⟨.str ⟨#[x.cps[i]]⟩,H,I1,⟨_,rfl⟩,⟨rfl,_,by simp[hi],rfl⟩,st',λb hb=>(hf b hb).1⟩⟩
  ·refine wpAny_pyNext_wide_item st (c:=x.cps[i]) (by simp[hi]) λh' st' sb=>?_
   have I1:Inv X pins σ H {s with heap:=h',toks:=s.toks+1}:=I.turned (λb o hb e=>(sb.2 b hb).trans e) f0 f1 f3 f4 f5;obtain⟨o,e,c,d⟩:=id st';exact⟨_,rfl,iy (s:={s with heap:=h',toks:=s.toks+1}) e c d (by decide) ⟨.str ⟨#[x.cps[i]]⟩,H,I1,⟨_,rfl⟩,⟨rfl,_,by simp[hi],rfl⟩,st',λb hb=>(hf b hb).1⟩⟩
 done:=by
  intro X hP hw hK hc i pins s σ H E I hf st hg;subst hP hw hK;obtain⟨f0,f1,f2,f3,f4,f5⟩:=hf it (by simp);have hi:x.cps[i]? = none:=by have:x.cps.size<=i:=hg;simp;lia
  rcases hty with rfl|rfl
  ·exact wpAny_pyNext_ascii_end (I.ok.hd hc) st hi λh' eb=>⟨rfl,I.turned (t':=s.toks) (λb o hb e=>eb b o hb e) f0 f1 f3 f4 f5⟩
  ·exact wpAny_pyNext_wide_end (I.ok.hd hc) st hi λh' eb=>⟨rfl,I.turned (t':=s.toks) (λb o hb e=>eb b o hb e) f0 f1 f3 f4 f5⟩
 self:=λ_ _ _ _ _ st h=>by
  rcases hty with rfl|rfl
  ·exact wpAny_pyIter_striter_ascii st h
  ·exact wpAny_pyIter_striter_wide st h
section
variable{X:Cx}{tg:Expr}
noncomputable def xP(tl:TE):TI:=λσ H R=>tl σ H λv H1=>∃x:Str,v=.str x/\R (Its x) H1
theorem tf{l:Expr}{tl:TE}(hl:PE X l tl):PI X tg l (xP tl):=by
 intro pins s σ H R I h;refine thn (hl pins s σ H _ I h) λv s1 ⟨x,H1,I1,r1,q1⟩=>?_
 obtain⟨x,rfl,q⟩:=q1;obtain⟨t,rfl⟩:=r1;have hfp:∀b∈[s1.heap.objs.size],cQ X pins H1 b:=λb hb=>by
  have e:b=s1.heap.objs.size:=by simpa using hb
  subst e;exact I1.fpOk (az _) (I1.hok.fresh (az _))
 cases ha:x.cps.all (· < 128)
 ·exact wpAny_pyIter_wide ha ⟨s1.heap.objs.size,[s1.heap.objs.size],_,_,H1,rfl,I1.kept (t':=s1.toks) λb o e=>Heap.get?_push_of_some _ e,pP (.inr rfl) _ x t,⟨_,Heap.get?_push_size _ rfl,rfl,rfl⟩,hfp,q⟩
 ·exact wpAny_pyIter_ascii ha ⟨s1.heap.objs.size,[s1.heap.objs.size],_,_,H1,rfl,I1.kept (t':=s1.toks) λb o e=>Heap.get?_push_of_some _ e,pP (.inl rfl) _ x t,⟨_,Heap.get?_push_size _ rfl,rfl,rfl⟩,hfp,q⟩
end
noncomputable def zq(x:Str)(lo hi:Option Int):Str:=
 if (Builtin.Str.strSliceIndices lo hi 1 x.length).length==x.length then x else ⟨((Builtin.Str.strSliceIndices lo hi 1 x.length).filterMap (x.cps[·]?)).toArray⟩
noncomputable def zx(x:Str):Str:=⟨((Builtin.Str.strSliceIndices none none (-1) x.length).filterMap (x.cps[·]?)).toArray⟩
noncomputable def zJ(x y:Str):Str:=if stripSame y.cps.contains true true x then x else PySem.stripped y.cps.contains true true x
section
variable{X:Cx}
theorem part_of{v:ae}{o:Option Int}(h:IsPart v o):∃l:Option (Int×Tok),v=partValue l/\o=l.map (·.1):=by
 cases h with
 |none=>exact⟨none,rfl,rfl⟩
 |int i t=>exact⟨some (i,t),rfl,rfl⟩
noncomputable def Dg:V->Option Int->Option Int->Hp->VK->Prop:=λv lo hi H Q=>∃x:Str,v=.str x/\(zq x lo hi).length<=aI/\Q (.str (zq x lo hi)) H
theorem jZ:SlR X Dg:=by
 intro pins s σ H x v vl vu lo hi sl Q I rx hs pl pu h;obtain⟨x,rfl,hz,q⟩:=h;obtain⟨t,rfl⟩:=rx;obtain⟨l,rfl,rfl⟩:=part_of pl;obtain⟨u,rfl,rfl⟩:=part_of pu;refine⟨"str",_,F.slot_str_getitem.lookup,typeIs_str _ _ _,?_⟩;refine wpAny_getItem_str_slice (l:=l) (u:=u) (st:=none) hs rfl ?_;unfold zq at hz q;show Made.post (if ((1:Int)==1&&(Builtin.Str.strSliceIndices (l.map (·.1)) (u.map (·.1)) 1 x.length).length==x.length)=true then .val (.str x t)else .str ⟨((Builtin.Str.strSliceIndices (l.map (·.1)) (u.map (·.1)) 1 x.length).filterMap (x.cps[·]?)).toArray⟩) _ _;cases e:(Builtin.Str.strSliceIndices (l.map (·.1)) (u.map (·.1)) 1 x.length).length==x.length with
 |true=>
  rw[e]at q;rw[if_pos (by decide)];exact⟨.str x,H,I,⟨t,rfl⟩,q⟩
 |false=>
  rw[e]at q hz;rw[if_neg (by decide)];exact⟨hz,.str _,H,I.tok _,⟨_,rfl⟩,q⟩
noncomputable def CB:V->List V->Hp->VK->Prop:=λx vs H Q=>∃a b:Str,x=.str a/\vs=[.str b]/\(zJ a b).length<=aI/\Q (.str (zJ a b)) H
theorem x5:MtR X "str.strip" CB:=by
 intro pins s σ H x vs v us Q I rx rv h;obtain⟨a,b,rfl,rfl,hz,q⟩:=h;obtain⟨t,rfl⟩:=rx;obtain⟨u,rfl,ru⟩:=rv.one;obtain⟨t',rfl⟩:=ru;refine call_meets F.slot_str_strip (typeIs_str _ _ _) F.entry_str_strip (F.args_str_strip_2 _ _) (gives_str_strip_chars a b t t').meets ?_;unfold zJ at hz q;show Made.post (if stripSame b.cps.contains true true a then .val (.str a t)else .str (PySem.stripped b.cps.contains true true a)) _ _;cases e:stripSame b.cps.contains true true a with
 |true=>
  rw[e]at q;exact⟨.str a,H,I,⟨t,rfl⟩,q⟩
 |false=>
  rw[e]at q hz;exact⟨hz,.str _,H,I.tok _,⟨_,rfl⟩,q⟩
variable{e st:Expr}{te ts:TE}{p2 pos:Pos}
noncomputable def yW(te ts:TE):TE:=λσ H Q=>te σ H λx H1=>ts σ H1 λy H2=>y=.int (-1)/\∃z:Str,x=.str z/\(zx z).length<=aI/\Q (.str (zx z)) H2
theorem BX(he:PE X e te)(hs:PE X st ts):PE X (.Subscript e (.Slice none none (some st) p2) pos) (yW te ts):=by
 intro pins s σ H Q I h;refine Subscript_ (thn (he pins s σ H _ I h) λv s1 ⟨x,H1,I1,r1,q1⟩=>?_);refine wpAny_Slice ?_;rw[evalPart_none];refine ar (ar ?_);rw[evalPart_some];refine thn (hs pins s1 σ H1 _ I1 q1) λu s3 ⟨y,H3,I3,r3,q3⟩=>?_
 obtain⟨rfl,z,rfl,hz,q⟩:=q3;obtain⟨tk,rfl⟩:=r3;obtain⟨t,rfl⟩:=r1;have I4:Inv X pins σ H3 {s3 with heap:=s3.heap.push {cls:=.type "slice",data:=.fields #[.none,.none,.int (-1) tk]}}:=I3.kept (t':=s3.toks) λb ob q=>Heap.get?_push_of_some _ q
 show aj (ak X.prog X.w) X.A (subscriptTail e (.Slice none none (some st) p2) (.str z t) (.ref s3.heap.objs.size)) (EP X pins σ Q) X.xe {s3 with heap:=s3.heap.push {cls:=.type "slice",data:=.fields #[.none,.none,.int (-1) tk]}};refine tail_any (ops:=[.ref s3.heap.objs.size,.str z t]) (typeIs_str _ _ _) F.slot_str_getitem.lookup (wpAny_getItem_str_slice (l:=none) (u:=none) (st:=some (-1,tk)) ⟨_,Heap.get?_push_size _ rfl,rfl,rfl⟩ rfl ?_) (by with_unfolding_all rfl);show Made.post (if ((-1:Int)==1&&_)=true then .val (.str z t)else .str (zx z)) _ _;rw[if_neg (by simp)];exact⟨hz,.str _,H3,I4.tok _,⟨_,rfl⟩,q⟩
end
end L2
namespace L2
open PySem PySem.Spec PyProof.Rows Builtin
noncomputable def pickL{α:Type}(xs:List α)(lo hi st:Option Int):List α:=
 (sliceRange (sliceBounds lo hi st xs.length).1 (sliceBounds lo hi st xs.length).2.1 (sliceBounds lo hi st xs.length).2.2).filterMap (xs[·]?)
theorem Vals.picks{xs:List V}{us:List ae}(r:Vals xs us):∀(l:List Nat),Vals (l.filterMap (xs[·]?)) (l.filterMap (us[·]?))
 | []=>.nil
 |i::l=>by
  cases h:xs[i]? with
  |none=>
   have h':us[i]? = none:=by rw[List.getElem?_eq_none_iff]at h ⊢;rw[<-r.length];exact h
   rw[List.filterMap_cons_none h,List.filterMap_cons_none h'];exact Vals.picks r l
  |some x=>
   obtain⟨u,h',ru⟩:=r.get h;rw[List.filterMap_cons_some h,List.filterMap_cons_some h'];exact .cons ru (Vals.picks r l)
section
variable{X:Cx}{e st hi:Expr}{te th ts:TE}{p2 pos:Pos}
noncomputable def r0(K:av)(te th ts:TE):TE:=λσ H Q=>te σ H λx H1=>th σ H1 λz H2=>ts σ H2 λy H3=>∃i j:Int,z=.int i/\y=.int j/\j≠0/\∃a xs,x=.ref a/\SqL K H3 a xs/\∀p,H3 p=none->Q (.ref p) (upd H3 p (.lst (pickL xs none (some i) (some j))))
theorem tY(he:PE X e te)(hh:PE X hi th)(hs:PE X st ts):PE X (.Subscript e (.Slice none (some hi) (some st) p2) pos) (r0 X.K te th ts):=by
 intro pins s σ H Q I h;refine Subscript_ (thn (he pins s σ H _ I h) λv s1 ⟨x,H1,I1,r1,q1⟩=>?_);refine wpAny_Slice ?_;rw[evalPart_none];refine ar ?_;rw[evalPart_some];refine thn (hh pins s1 σ H1 _ I1 q1) λu2 s2 ⟨z,H2,I2,r2,q2⟩=>?_
 rw[evalPart_some];refine thn (hs pins s2 σ H2 _ I2 q2) λu s3 ⟨y,H3,I3,r3,q3⟩=>?_
 obtain⟨i,j,rfl,rfl,hj,a,xs,rfl,hx,q⟩:=q3;obtain⟨tk,rfl⟩:=r3;obtain⟨tk2,rfl⟩:=r2;cases r1;have I4:Inv X pins σ H3 {s3 with heap:=s3.heap.push {cls:=.type "slice",data:=.fields #[.none,.int i tk2,.int j tk]}}:=I3.kept (t':=s3.toks) λb ob q=>Heap.get?_push_of_some _ q
 obtain⟨its,r,ht,hz⟩:=I4.list hx;have hlen:=r.length;show aj (ak X.prog X.w) X.A (subscriptTail e (.Slice none (some hi) (some st) p2) (.ref a) (.ref s3.heap.objs.size)) (EP X pins σ Q) X.xe {s3 with heap:=s3.heap.push {cls:=.type "slice",data:=.fields #[.none,.int i tk2,.int j tk]}};refine tail_any (ops:=[.ref a,.ref s3.heap.objs.size]) ht.isList.typeIs slot_list_getitem.lookup (wpAny_getItem_list_slice ht.isList (Heap.IsSliceOf.new ..) .none (.int i tk2) (.int j tk) (by simpa using hj) ?_ (by rw[aL,<-hlen];exact hz)) (by with_unfolding_all rfl);have hp:Vals (pickL xs none (some i) (some j)) (slicePick its.toArray none (some i) (some j)).toList:=by
  have:=r.picks (sliceRange (sliceBounds none (some i) (some j) xs.length).1 (sliceBounds none (some i) (some j) xs.length).2.1 (sliceBounds none (some i) (some j) xs.length).2.2);unfold slicePick pickL
  simpa[hlen]using this
 have hq:(pickL xs none (some i) (some j)).length<=sizeLine:=by
  rw[hp.length,bZ];exact aX (slicePick_size_le _ _ _ _) (by rw[aL,<-hlen];exact hz)
 exact⟨.ref _,_,I4.laid (o:=.lst (pickL xs none (some i) (some j))) (λb ob q=>Heap.get?_push_of_some _ q) (az _) ⟨hq,_,0,hp,Heap.get?_push_size _ rfl⟩,rfl,q _ I4.fresh⟩
end
end L2
namespace L2
open PySem PySem.Spec PyProof.Rows
noncomputable def gY(kX:Str->Option aM)(NX NY:List Str)(cap:List (Option Nat))(scope:aO):Bool:=
 (scope.kind==.function)&&(scope.names.all λy=>(y.2 != .cell||scope.names.lookup y.1==some .cell)&&(y.2 != .local||scope.names.lookup y.1==some .local)&&(y.2 != .free||kX y.1==some .cell||kX y.1==some .free)) &&
 (cap.length==NY.length)&&(aR cap.length).all λi=>match cap[i]? with
  |some (some j)=>(match NY[i]?,NX[j]? with
   |some x,some y=>x==y&&scope.names.lookup x==some .free&&(kX x==some .cell||kX x==some .free)
   |_,_=>false)
  |_=>true
theorem dC.of{X:Cx}{NY:List Str}{cap:List (Option Nat)}{scope:aO}(h:gY X.env.kindOf X.N NY cap scope=true):dC X NY cap scope:=by
 unfold gY at h;simp only[aH,b7,beq_iff_eq]at h;obtain⟨⟨⟨h1,h2⟩,h3⟩,h4⟩:=h;refine⟨h1,λy hy e=>?_,λy hy e=>?_,λy hy e=>?_,h3,λi j hc=>?_⟩
 ·have:=(h2 y hy).1.1;rw[e]at this
  simpa using this
 ·have:=(h2 y hy).1.2;rw[e]at this
  simpa using this
 ·have:=(h2 y hy).2;rw[e]at this
  simpa using this
 ·have hi:i<cap.length:=(List.getElem?_eq_some_iff.mp hc).1;have:=h4 i (List.mem_range.mpr hi);rw[hc]at this;dsimp only at this;split at this
  ·rename_i x y e1 e2
   simp only[aH,beq_iff_eq,bE]at this;obtain⟨⟨e3,e4⟩,e5⟩:=this;subst e3;exact⟨x,e1,e2,e4,e5⟩
  ·cases this
end L2
namespace WB
open PySem PySem.Spec PyProof.Rows L2
section
variable{P:ay}{w:au}{K:av}{mg:Str->Option ae}{base:Heap}{f g:Addr}{fd gd:bw}
theorem _root_.L2.Fun.ok1{x qual:Str}{st:Stmt}{f:Addr}{fd:bw}{N ps:List Str}{k:Nat}{sp:Sp}(F:Fun K x qual st f fd)(S:fF N ps (za st))(len:∀vs H Q E,sp vs H Q E->vs.length=ps.length)
  (hbody:∀(cdv:ae) (A:ax) (outer:List Env) (s:af) (H:Hp) (vs:List V) (Q:VK) (E:XK),bW k (A.deeper (envOfC qual (za st) s.heap.objs.size f cdv))->sp vs H Q E ->
   ∃t,PSs (dD (CX1 P w) P w K mg base N qual (za st) f cdv A outer s H E) (zV st) t/\t {nx:=λ_ H'=>Q .non H',rt:=Q} (start N vs) H):eV P w K mg base (CX1 P w) (k+1) f fd ps sp:=by
 obtain⟨oc,od,kV,doc,pm,an,cdv,ct,osl,rfl,lk,hcd⟩:=F.ex;exact tF lk hcd S len λA outer s H vs Q E hr hsp=>hbody cdv A outer s H vs Q E hr hsp
end
noncomputable def xl(H:Hp)(ps:List Addr)(ks:List (Int×Int)):Prop:=ps.length=ks.length/\∀(i:Nat) p k,ps[i]? = some p->ks[i]? = some k->H p=some (.tup [.int k.1,.int k.2])
structure Built(H0:Hp)(acc:Addr)(ks:List (Int×Int))(H:Hp):Prop where
 ex:∃ps:List Addr,H acc=some (.lst (ps.map V.ref))/\xl H ps ks
 same:∀b o,b≠acc->H0 b=some o->H b=some o
end WB
set_option genSizeOf false
set_option genSizeOfSpec false
namespace EV
open PySem L2
inductive D where
 |non|bl (b:Bool)|int (i:Int)|str (x:Str)|tup (xs:List D)|lst (xs:List D)|fn (x:Str)|exn (c:Str)|dic
inductive R(α:Type) where
 |ok (a:α)|ex (c:Str)|no
noncomputable def R.bind{α β:Type}:R α->(α->R β)->R β
 | .ok a,f=>f a
 | .ex c,_=>.ex c
 | .no,_=>.no
@[simp] theorem R.bind_ok{α β:Type}(a:α)(f:α->R β):(R.ok a).bind f=f a:=rfl
@[simp] theorem R.bind_ex{α β:Type}(c:Str)(f:α->R β):(R.ex c:R α).bind f=.ex c:=rfl
@[simp] theorem R.bind_no{α β:Type}(f:α->R β):(R.no:R α).bind f=.no:=rfl
inductive O2 where
 |add|sub|mul|fdiv|mod|pow|shl|shr|band|bor|bxor
 deriving DecidableEq
inductive C2 where
 |eq|ne|lt|le|gt|ge|isin|notin|is|isnot
 deriving DecidableEq
inductive B1 where
 |len|tuple|list|sorted|all|any|sum|min|max|abs|int|bool
 deriving DecidableEq
inductive Cl where
 |ty (n:String)|ex (x:Str)
 deriving DecidableEq
inductive Tg where
 |nm (i:Nat)|tp (is:List Nat)
mutual
inductive E where
 |var (i:Nat)|own (i:Nat)|con (d:D)|glb (x:Str)|fnv (x:Str)
 |op (o:O2) (a b:E)|neg (a:E)|inv (a:E)|not (a:E)|and (a b:E)|or (a b:E)
 |cmp (c:C2) (a b:E)|cmp2 (c c':C2) (a b d:E)|cmp3 (c c' c'':C2) (a b d e:E)
 |ite (t:T) (a b:E)
 |tup (es:Es)|lst (es:Es)
 |ix (a b:E)|sl (a:E) (lo hi:OE)
 |call (f:Str) (es:Es)|callE (f:E) (es:Es)
 |bi (b:B1) (es:Es)
 |rtup (a:It)|rlst (a:It)
 |isi (a:E) (c:Cl)
 |comp (it:It) (cap:List (Option Nat)) (tg:Tg) (t:T) (elt:E)
 |mth (ix:Bool) (a:E)
 |cnt (a b:E)
 |mxk (mx:Bool) (a:E)
 |dic
 |callo (f:Str) (es:Es)
 |comp2 (it:It) (cap:List (Option Nat)) (tg:Tg) (it2:It) (tg2:Tg) (t:T) (elt:E)
 |fst2 (t0:Str) (a:E) (t1:Str) (b:E) (t2:Str)
 |sset (ln:Bool) (a:E)
 |rev (a:E)
 |stri (a:E)
 |joi (sep:Str) (a:E)
 |fsm (a:E) (t:Str) (b:E)
 |sadd (a b:E)
 |spl (a b:E)
 |rvt (a:E)
 |stp (a b:E)
inductive OE where
 |none|some (e:E)
inductive Es where
 |nil|cons (e:E) (es:Es)
inductive It where
 |seq (e:E)|rng (a:E)|rng2 (a b:E)|enum (e:E)|zip (a b:E)|rng3 (a b k:E)
inductive T where
 |yes|val (e:E)|cmp (c:C2) (a b:E)|cmp2 (c c':C2) (a b d:E)|and (a b:T)|or (a b:T)|not (a:T)
end
noncomputable def SZ:Nat:=1000000
noncomputable def small(j:Int):Bool:=decide (-(2^64)<j)&&decide (j<2^64)
noncomputable def opI:O2->Int->Int->R D
 | .add,i,j=>.ok (.int (i+j))
 | .sub,i,j=>.ok (.int (i-j))
 | .mul,i,j=>if small i||small j then .ok (.int (i * j))else .no
 | .fdiv,i,j=>if 0<j/\j<1000000000000000000000000000000 then .ok (.int (i/j))else .no
 | .mod,i,j=>if 0<j then .ok (.int (i%j))else .no
 | .pow,i,j=>if 0<=j/\j<=1000000/\i.natAbs<2^64 then .ok (.int (i^j.toNat))else .no
 | .shl,i,j=>if 0<=j/\j<=1000000/\i.natAbs<2^64 then .ok (.int (i * 2^j.toNat))else .no
 | .shr,i,j=>if 0<=j then .ok (.int (i/2^j.toNat))else .no
 | .band,i,j=>.ok (.int (Builtin.bitAnd i j))
 | .bor,i,j=>.ok (.int (Builtin.bitOr i j))
 | .bxor,i,j=>.ok (.int (Builtin.bitXor i j))
noncomputable def og:D->Bool
 | .lst _=>true
 |_=>false
noncomputable def op2(o:O2):D->D->R D
 | .int i,.int j=>opI o i j
 | .tup xs,.tup ys=>if o=.add/\xs.length+ys.length<=SZ then .ok (.tup (xs++ys))else .no
 | .lst xs,.lst ys=>if o=.add/\xs.length+ys.length<=SZ then .ok (.lst (xs++ys))else .no
 | .str x,.str y=>if o=.add/\x.length+y.length<=SZ then .ok (.str (x++y))else .no
 |_,_=>.no
mutual
noncomputable def D.plain:D->Bool
 | .non=>true
 | .bl _=>true
 | .int _=>true
 | .str x=>PyData.strOk x
 | .tup xs=>plainAll xs
 | .lst xs=>plainAll xs
 | .fn _=>false
 | .exn _=>false
 | .dic=>false
noncomputable def plainAll:List D->Bool
 | []=>true
 |x::xs=>x.plain&&plainAll xs
end
mutual
noncomputable def D.deep:D->Nat
 | .tup xs=>eI xs+1
 | .lst xs=>eI xs+1
 |_=>0
noncomputable def eI:List D->Nat
 | []=>0
 |x::xs=>max x.deep (eI xs)
end
mutual
noncomputable def D.eqv:D->D->Bool
 | .non,.non=>true
 | .bl a,.bl b=>a==b
 | .bl a,.int j=>(if a then 1 else 0)==j
 | .int i,.bl b=>i==(if b then 1 else 0)
 | .int i,.int j=>i==j
 | .str x,.str y=>x==y
 | .tup xs,.tup ys=>eqvAll xs ys
 | .lst xs,.lst ys=>eqvAll xs ys
 |_,_=>false
noncomputable def eqvAll:List D->List D->Bool
 | [],[]=>true
 |x::xs,y::ys=>x.eqv y&&eqvAll xs ys
 |_,_=>false
end
noncomputable def D.asks(d:D):Bool:=d.plain&&decide (d.deep<=20)
mutual
noncomputable def D.noL:D->Bool
 | .non=>true
 | .bl _=>true
 | .int _=>true
 | .str _=>true
 | .tup xs=>pH xs
 |_=>false
noncomputable def pH:List D->Bool
 | []=>true
 |x::xs=>x.noL&&pH xs
end
noncomputable def ints?:List D->Option (List Int)
 | []=>some []
 | .int i::r=>(ints? r).map (i :: ·)
 |_=>none
noncomputable def bools?:List D->Option (List Bool)
 | []=>some []
 | .bl i::r=>(bools? r).map (i :: ·)
 |_=>none
noncomputable def seq?:D->Option (List D)
 | .tup xs=>some xs
 | .lst xs=>some xs
 |_=>none
noncomputable def eF:List Int->List Int->Bool
 | [],[]=>false
 | [],_::_=>true
 |_::_,[]=>false
 |a::r,b::t=>if a=b then eF r t else decide (a<b)
noncomputable def jz(c:C2)(i j:Int):Option Bool:=
 match c with
 | .lt=>some (decide (i<j))
 | .le=>some (decide (i<=j))
 | .gt=>some (decide (j<i))
 | .ge=>some (decide (j<=i))
 | .eq=>some (decide (i=j))
 | .ne=>some (!decide (i=j))
 |_=>none
noncomputable def inD(x:D)(xs:List D):Bool:=xs.any λy=>y.eqv x
noncomputable def eQ:D->Bool
 | .non=>true
 |_=>false
noncomputable def isB(n:Bool):D->D->R Bool
 | .bl a,.bl b=>.ok (n != (a==b))
 |_,_=>.no
noncomputable def dF:D->D->R Bool
 | .str i,.str j=>.ok (!(Builtin.Str.occurrences j i 0 j.length 1).isEmpty)
 |_,_=>.no
noncomputable def qh:C2->D->D->R Bool
 | .is,a,b=>if eQ b then .ok (eQ a)else isB false a b
 | .isnot,a,b=>if eQ b then .ok (!eQ a)else isB true a b
 | .isin,a,b=>match seq? b with
  |some xs=>if a.asks&&xs.all D.asks then .ok (inD a xs)else .no
  |none=>dF a b
 | .notin,a,b=>match seq? b with
  |some xs=>if a.asks&&xs.all D.asks then .ok (!inD a xs)else .no
  |none=>(dF a b).bind λr=>.ok (!r)
 | .eq,a,b=>if a.asks&&b.asks then .ok (a.eqv b)else .no
 | .ne,a,b=>if a.asks&&b.asks then .ok (!a.eqv b)else .no
 | .lt,.tup xs,.tup ys=>match ints? xs,ints? ys with
  |some ns,some ms=>.ok (eF ns ms)
  |_,_=>.no
 |c,.int i,.int j=>match jz c i j with
  |some b=>.ok b
  |none=>.no
 |_,_,_=>.no
noncomputable def truth:D->R Bool
 | .non=>.ok false
 | .bl b=>.ok b
 | .int i=>.ok (i != 0)
 | .tup xs=>.ok (!xs.isEmpty)
 | .lst xs=>.ok (!xs.isEmpty)
 |_=>.no
noncomputable def ixD:D->D->R D
 | .tup xs,.int i=>match atI xs i with|some d=>.ok d|none=>.no
 | .lst xs,.int i=>match atI xs i with|some d=>.ok d|none=>.no
 | .str x,.int i=>if x.length<=SZ then (match atI x.cps.toList i with|some c=>.ok (.str ⟨#[c]⟩)|none=>.no)else .no
 |_,_=>.no
noncomputable def cutD(xs:List D)(lo hi:Option Int):List D:=(xs.drop (HT.sIx xs.length 0 lo)).take (HT.sIx xs.length xs.length hi-HT.sIx xs.length 0 lo)
noncomputable def slD:D->Option Int->Option Int->R D
 | .tup xs,lo,hi=>.ok (.tup (cutD xs lo hi))
 | .lst xs,lo,hi=>.ok (.lst (cutD xs lo hi))
 | .str x,lo,hi=>if (zq x lo hi).length<=SZ then .ok (.str (zq x lo hi))else .no
 |_,_,_=>.no
noncomputable def insI(i:Int):List Int->List Int
 | []=>[i]
 |j::r=>if i<=j then i::j::r else j::insI i r
noncomputable def sortI:List Int->List Int
 | []=>[]
 |i::r=>insI i (sortI r)
noncomputable def pairD(p:Int×Int):D:=.tup [.int p.1,.int p.2]
noncomputable def cV(d:D)(k:List D->R D):R D:=match d with | .lst xs=>k xs|_=>.no
noncomputable def ibR(d:D)(f:Int->R D)(q:Bool->R D):R D:=match d with | .int i=>f i | .bl b=>q b|_=>.no
noncomputable def iiR(d e:D)(k:Int->Int->R D):R D:=match d,e with | .int i,.int j=>k i j|_,_=>.no
noncomputable def zO{α β:Type}(o:Option α)(k:α->R β):R β:=match o with|some a=>k a|none=>.no
noncomputable def b11(b:B1)(d:D):R D:=match b with
 | .len=>match d with
  | .str x=>if x.length<=SZ then .ok (.int x.length)else .no
  |d=>zO (seq? d) λxs=>.ok (.int xs.length)
 | .tuple=>zO (seq? d) λxs=>.ok (.tup xs)
 | .list=>zO (seq? d) λxs=>.ok (.lst xs)
 | .all=>cV d λxs=>zO (bools? xs) λbs=>.ok (.bl (bs.all id))
 | .any=>cV d λxs=>zO (bools? xs) λbs=>.ok (.bl (bs.any id))
 | .sorted=>.no
 | .abs=>.no
 | .int=>match d with
  | .str x=>if x.length<=640 then zO (PySem.intText? x) λn=>.ok (.int n)else .no
  |d=>ibR d (λi=>.ok (.int i)) λb=>.ok (.int (if b then 1 else 0))
 | .bool=>.no
 | .min=>.no
 | .max=>.no
 | .sum=>.no
noncomputable def b12(b:B1)(d e:D):R D:=match b with
 | .min=>iiR d e λi j=>.ok (.int (if j<i then j else i))
 | .max=>iiR d e λi j=>.ok (.int (if j>i then j else i))
 |_=>.no
noncomputable def i'(ix:Bool)(x:D):R D:=cV x λxs=>zO (bools? xs) λbs=>if ix then zO (bs.findIdx? id) λj=>.ok (.int (j:Int))else .ok (.int ((bs.countP id:Nat):Int))
noncomputable def uq{α:Type} [DecidableEq α]:List α->List α
 | []=>[]
 |a::l=>if a∈l then uq l else a::uq l
noncomputable def fQ(ln:Bool)(d:D):R D:=zO (seq? d) λxs=>if xs.length<64 then (match ints? xs with
 |some ns=>if ln then .no else .ok (.lst ((sortI (uq ns)).map D.int))
 |none=>.no)else .no
noncomputable def b1(b:B1):List D->R D
 | [d]=>b11 b d
 | [d,e]=>b12 b d e
 |_=>.no
noncomputable def tyD:D->Option String
 | .non=>some "NoneType"
 | .bl _=>some "bool"
 | .int _=>some "int"
 | .str _=>some "str"
 | .tup _=>some "tuple"
 | .lst _=>some "list"
 | .dic=>some "dict"
 |_=>none
noncomputable def zA(lo:Int)(n:Nat):List D:=(aR n).map λ(i:Nat)=>.int (lo+(i:Int))
noncomputable def dB:Nat->List D->List D
 |_,[]=>[]
 |k,x::r=>.tup [.int k,x]::dB (k+1) r
noncomputable def cx:List D->List D->List D
 |x::xs,y::ys=>.tup [x,y]::cx xs ys
 |_,_=>[]
noncomputable def qY(j:Int):Bool:=decide (-1000000<=j)&&decide (j<=1000000)
abbrev Env:=List (Option D)
structure W where
 call:Str->List D->R D
 glb:Str->Option D
 sub:Str->Cl->Option Bool
 cat:Str->Str->Bool
noncomputable def zL(w:W)(x:D)(c:Cl):R D:=match tyD x,c with
 |some t,.ty n=>if n = "ValueError" then .no else .ok (.bl (fJ t n))
 |none,c=>match x with
  | .exn k=>match w.sub k c with|some b=>.ok (.bl b)|none=>.no
  |_=>.no
 |_,_=>.no
noncomputable def bP(τ:Env)(i:Nat):R D:=match τ[i]? with
 |some (some d)=>.ok d
 |_=>.no
noncomputable def setAll:List Nat->List D->Env->R Env
 | [],[],τ=>.ok τ
 |i::is,d::ds,τ=>setAll is ds (τ.set i (some d))
 |_,_,_=>.no
noncomputable def store:Tg->D->Env->R Env
 | .nm i,d,τ=>.ok (τ.set i (some d))
 | .tp is,.tup ds,τ=>if ds.length=is.length then setAll is ds τ else .no
 |_,_,_=>.no
noncomputable def dX(cap:List (Option Nat))(τ:Env):Env:=cap.map λo=>o.bind λj=>(τ[j]?).join
noncomputable def noEx{α:Type}:R α->R α
 | .ok a=>.ok a
 |_=>.no
noncomputable def ck(body:D->Env->R (Env×List D)):List D->Env->List D->R (List D)
 | [],_,acc=>.ok acc
 |x::r,τ,acc=>(body x τ).bind λp=>ck body r p.1 (acc++p.2)
noncomputable def jq(x:Str):List D:=x.cps.toList.map λc=>.str ⟨#[c]⟩
noncomputable def itr?:D->Option (List D)
 | .str x=>some (jq x)
 |d=>seq? d
abbrev dj(i:Int):Str:=(toString i:String)
noncomputable def iR{α:Type}(x:D)(f:Int->R α):R α:=match x with
 | .int i=>f i
 |_=>.no
noncomputable def sR{α:Type}(x:D)(f:Str->R α):R α:=match x with
 | .str i=>f i
 |_=>.no
noncomputable def iz(x:D):R D:=iR x λi=>if qY i then .ok (.str (dj i))else .no
noncomputable def strs?:List D->Option (List Str)
 | []=>some []
 |d::r=>match d with
  | .str x=>(strs? r).map (x :: ·)
  |_=>none
noncomputable def dS(sep:Str)(x:D):R D:=cV x λxs=>zO (strs? xs) λys=>if decide (sep.length<=16)&&decide ((ys.map (·.length)).sum+ys.length<=100000)then .ok (.str (zw sep ys))else .no
noncomputable def jM(i:Str)(y:D):R D:=sR y λj=>if decide ((zJ i j).length<=SZ)then .ok (.str (zJ i j))else .no
noncomputable def gK(x:D):R D:=cV x λxs=>.ok (.lst (pickL xs none (some 0) (some (-1))))
noncomputable def gX(i:Str)(y:D):R D:=sR y λj=>if decide (j.length≠0)&&decide (i.length<=SZ)&&decide ((qe i j).length<=SZ)then .ok (.lst ((qe i j).map D.str))else .no
noncomputable def gH(x y:D):R D:=sR x λi=>sR y λj=>if i.length+j.length<=SZ then .ok (.str (i++j))else .no
mutual
noncomputable def evE(w:W):E->Env->R D
 | .var i,τ=>bP τ i
 | .own i,τ=>bP τ i
 | .con d,_=>.ok d
 | .glb x,_=>match w.glb x with|some d=>.ok d|none=>.no
 | .fnv x,_=>.no
 | .op o a b,τ=>(evE w a τ).bind λx=>(evE w b τ).bind λy=>op2 o x y
 | .neg a,τ=>(evE w a τ).bind λx=>match x with | .int i=>.ok (.int (-i))|_=>.no
 | .inv a,_=>.no
 | .not a,τ=>(evE w a τ).bind λx=>match x with | .bl b=>.ok (.bl (!b))|_=>.no
 | .and a b,τ=>(evE w a τ).bind λx=>match x with | .bl true=>evE w b τ | .bl false=>.ok (.bl false)|_=>.no
 | .or a b,τ=>(evE w a τ).bind λx=>match x with | .bl true=>.ok (.bl true) | .bl false=>evE w b τ|_=>.no
 | .cmp c a b,τ=>(evE w a τ).bind λx=>(evE w b τ).bind λy=>(qh c x y).bind λr=>.ok (.bl r)
 | .cmp2 c c' a b d,τ=>(evE w a τ).bind λx=>(evE w b τ).bind λy=>(qh c x y).bind λr=>if r then (evE w d τ).bind λz=>(qh c' y z).bind λr'=>.ok (.bl r')else .ok (.bl false)
 | .cmp3 c c' c'' a b d e,τ=>(evE w a τ).bind λx=>(evE w b τ).bind λy=>(qh c x y).bind λr=>if r then (evE w d τ).bind λz=>(qh c' y z).bind λr'=>if r' then (evE w e τ).bind λu=>(qh c'' z u).bind λr''=>.ok (.bl r'')else .ok (.bl false)else .ok (.bl false)
 | .ite t a b,τ=>(evT w t τ).bind λr=>if r then evE w a τ else evE w b τ
 | .tup es,τ=>(zt w es τ).bind λds=>.ok (.tup ds)
 | .lst es,τ=>(zt w es τ).bind λds=>.ok (.lst ds)
 | .ix a b,τ=>(evE w a τ).bind λx=>(evE w b τ).bind λy=>ixD x y
 | .sl a lo hi,τ=>(evE w a τ).bind λx=>(evO w lo τ).bind λl=>(evO w hi τ).bind λh=>slD x l h
 | .call f es,τ=>(zt w es τ).bind λds=>w.call f ds
 | .callE f es,_=>.no
 | .bi b es,τ=>(zt w es τ).bind λds=>b1 b ds
 | .rtup a,τ=>(evI w a τ).bind λds=>.ok (.tup ds)
 | .rlst a,τ=>(evI w a τ).bind λds=>.ok (.lst ds)
 | .isi a c,τ=>(evE w a τ).bind λx=>zL w x c
 | .comp it cap tg t elt,τ=>(evI w it τ).bind λds=>if SZ<ds.length then .no else (ck (λx σ=>noEx ((store tg x σ).bind λσ'=>(evT w t σ').bind λr=>if r then (evE w elt σ').bind λd=>.ok (σ',[d])else .ok (σ',[]))) ds (dX cap τ) []).bind λout=>.ok (.lst out)
 | .mth ix a,τ=>(evE w a τ).bind λx=>i' ix x
 | .cnt a b,_=>.no
 | .mxk mx a,_=>.no
 | .dic,_=>.ok .dic
 | .callo f es,_=>.no
 | .comp2 it cap tg it2 tg2 t elt,_=>.no
 | .fst2 t0 a t1 b t2,_=>.no
 | .sset ln a,τ=>(evE w a τ).bind (fQ ln)
 | .rev a,τ=>(evE w a τ).bind λx=>match x with
  | .tup xs=>.ok (.tup xs.reverse)
  | .str z=>if (zx z).length<=SZ then .ok (.str (zx z))else .no
  |_=>.no
 | .stri a,τ=>(evE w a τ).bind iz
 | .joi sep a,τ=>(evE w a τ).bind (dS sep)
 | .fsm a t b,τ=>(evE w a τ).bind λx=>iR x λi=>if qY i&&decide (((Str.empty++dj i)++t).length<=SZ)then (evE w b τ).bind λy=>iR y λj=>if qY j&&decide ((eS i t j).length<=SZ)then .ok (.str (eS i t j))else .no else .no
 | .stp a b,τ=>(evE w a τ).bind λx=>sR x λi=>(evE w b τ).bind λy=>jM i y
 | .rvt a,τ=>(evE w a τ).bind gK
 | .spl a b,τ=>(evE w a τ).bind λx=>sR x λi=>(evE w b τ).bind λy=>gX i y
 | .sadd a b,τ=>(evE w a τ).bind λx=>(evE w b τ).bind λy=>gH x y
noncomputable def evO(w:W):OE->Env->R (Option Int)
 | .none,_=>.ok none
 | .some e,τ=>(evE w e τ).bind λx=>match x with | .int i=>.ok (some i)|_=>.no
noncomputable def zt(w:W):Es->Env->R (List D)
 | .nil,_=>.ok []
 | .cons e es,τ=>(evE w e τ).bind λd=>(zt w es τ).bind λds=>.ok (d::ds)
noncomputable def evI(w:W):It->Env->R (List D)
 | .seq e,τ=>(evE w e τ).bind λx=>match itr? x with|some xs=>.ok xs|none=>.no
 | .rng a,τ=>(evE w a τ).bind λx=>match x with | .int j=>if qY j then .ok (zA 0 j.toNat)else .no|_=>.no
 | .rng2 a b,τ=>(evE w a τ).bind λx=>(evE w b τ).bind λy=>match x,y with | .int i,.int j=>if qY i&&qY j then .ok (zA i (j-i).toNat)else .no|_,_=>.no
 | .enum e,τ=>(evE w e τ).bind λx=>match x with | .lst xs=>.ok (dB 0 xs)|_=>.no
 | .zip a b,τ=>(evE w a τ).bind λx=>(evE w b τ).bind λy=>match x,y with
  | .tup xs,.tup ys=>if xs.length=ys.length then .ok (cx xs ys)else .no
  | .lst xs,.lst ys=>if xs.length=ys.length then .ok (cx xs ys)else .no
  |_,_=>.no
 | .rng3 a b k,_=>.no
noncomputable def evT(w:W):T->Env->R Bool
 | .yes,_=>.ok true
 | .val e,τ=>(evE w e τ).bind λx=>truth x
 | .cmp c a b,τ=>(evE w a τ).bind λx=>(evE w b τ).bind λy=>qh c x y
 | .cmp2 c c' a b d,τ=>(evE w a τ).bind λx=>(evE w b τ).bind λy=>(qh c x y).bind λr=>if r then (evE w d τ).bind λz=>qh c' y z else .ok false
 | .and a b,τ=>(evT w a τ).bind λr=>if r then evT w b τ else .ok false
 | .or a b,τ=>(evT w a τ).bind λr=>if r then .ok true else evT w b τ
 | .not a,τ=>(evT w a τ).bind λr=>.ok (!r)
end
theorem qW:∀{w i τ},@Eq (R D) (evE w (.var i) τ) (bP τ i):=rfl
theorem zb:∀{w i τ},@Eq (R D) (evE w (.own i) τ) (bP τ i):=rfl
theorem qZ:∀{w d τ},@Eq (R D) (evE w (.con d) τ) (.ok d):=rfl
theorem zj:∀{w x τ},@Eq (R D) (evE w (.glb x) τ) (match w.glb x with|some d=>.ok d|none=>.no):=rfl
theorem zf:∀{w x τ},@Eq (R D) (evE w (.fnv x) τ) (.no):=rfl
theorem zd:∀{w o a b τ},@Eq (R D) (evE w (.op o a b) τ) ((evE w a τ).bind λx=>(evE w b τ).bind λy=>op2 o x y):=rfl
theorem ze:∀{w a τ},@Eq (R D) (evE w (.neg a) τ) ((evE w a τ).bind λx=>match x with | .int i=>.ok (.int (-i))|_=>.no):=rfl
theorem zk:∀{w a τ},@Eq (R D) (evE w (.inv a) τ) (.no):=rfl
theorem zg:∀{w a τ},@Eq (R D) (evE w (.not a) τ) ((evE w a τ).bind λx=>match x with | .bl b=>.ok (.bl (!b))|_=>.no):=rfl
theorem qp:∀{w a b τ},@Eq (R D) (evE w (.and a b) τ) ((evE w a τ).bind λx=>match x with | .bl true=>evE w b τ | .bl false=>.ok (.bl false)|_=>.no):=rfl
theorem qA:∀{w a b τ},@Eq (R D) (evE w (.or a b) τ) ((evE w a τ).bind λx=>match x with | .bl true=>.ok (.bl true) | .bl false=>evE w b τ|_=>.no):=rfl
theorem qF:∀{w c a b τ},@Eq (R D) (evE w (.cmp c a b) τ) ((evE w a τ).bind λx=>(evE w b τ).bind λy=>(qh c x y).bind λr=>.ok (.bl r)):=rfl
theorem qu:∀{w c c' a b d τ},@Eq (R D) (evE w (.cmp2 c c' a b d) τ) ((evE w a τ).bind λx=>(evE w b τ).bind λy=>(qh c x y).bind λr=>if r then (evE w d τ).bind λz=>(qh c' y z).bind λr'=>.ok (.bl r')else .ok (.bl false)):=rfl
theorem qB:∀{w c c' c'' a b d e τ},@Eq (R D) (evE w (.cmp3 c c' c'' a b d e) τ) ((evE w a τ).bind λx=>(evE w b τ).bind λy=>(qh c x y).bind λr=>if r then (evE w d τ).bind λz=>(qh c' y z).bind λr'=>if r' then (evE w e τ).bind λu=>(qh c'' z u).bind λr''=>.ok (.bl r'')else .ok (.bl false)else .ok (.bl false)):=rfl
theorem qN:∀{w t a b τ},@Eq (R D) (evE w (.ite t a b) τ) ((evT w t τ).bind λr=>if r then evE w a τ else evE w b τ):=rfl
theorem qq:∀{w es τ},@Eq (R D) (evE w (.tup es) τ) ((zt w es τ).bind λds=>.ok (.tup ds)):=rfl
theorem qw:∀{w es τ},@Eq (R D) (evE w (.lst es) τ) ((zt w es τ).bind λds=>.ok (.lst ds)):=rfl
theorem qo:∀{w a b τ},@Eq (R D) (evE w (.ix a b) τ) ((evE w a τ).bind λx=>(evE w b τ).bind λy=>ixD x y):=rfl
theorem qx:∀{w a lo hi τ},@Eq (R D) (evE w (.sl a lo hi) τ) ((evE w a τ).bind λx=>(evO w lo τ).bind λl=>(evO w hi τ).bind λh=>slD x l h):=rfl
theorem ql:∀{w f es τ},@Eq (R D) (evE w (.call f es) τ) ((zt w es τ).bind λds=>w.call f ds):=rfl
theorem qG:∀{w f es τ},@Eq (R D) (evE w (.callE f es) τ) (.no):=rfl
theorem qm:∀{w b es τ},@Eq (R D) (evE w (.bi b es) τ) ((zt w es τ).bind λds=>b1 b ds):=rfl
theorem qz:∀{w a τ},@Eq (R D) (evE w (.rtup a) τ) ((evI w a τ).bind λds=>.ok (.tup ds)):=rfl
theorem qJ:∀{w a τ},@Eq (R D) (evE w (.rlst a) τ) ((evI w a τ).bind λds=>.ok (.lst ds)):=rfl
theorem qD:∀{w a c τ},@Eq (R D) (evE w (.isi a c) τ) ((evE w a τ).bind λx=>zL w x c):=rfl
theorem qr:∀{w it cap tg t elt τ},@Eq (R D) (evE w (.comp it cap tg t elt) τ) ((evI w it τ).bind λds=>if SZ<ds.length then .no else (ck (λx σ=>noEx ((store tg x σ).bind λσ'=>(evT w t σ').bind λr=>if r then (evE w elt σ').bind λd=>.ok (σ',[d])else .ok (σ',[]))) ds (dX cap τ) []).bind λout=>.ok (.lst out)):=rfl
theorem qK:∀{w ix a τ},@Eq (R D) (evE w (.mth ix a) τ) ((evE w a τ).bind λx=>i' ix x):=rfl
theorem qP:∀{w a b τ},@Eq (R D) (evE w (.cnt a b) τ) (.no):=rfl
theorem qQ:∀{w mx a τ},@Eq (R D) (evE w (.mxk mx a) τ) (.no):=rfl
theorem qs:∀{w τ},@Eq (R D) (evE w (.dic) τ) (.ok .dic):=rfl
theorem qH:∀{w f es τ},@Eq (R D) (evE w (.callo f es) τ) (.no):=rfl
theorem qS:∀{w it cap tg it2 tg2 t elt τ},@Eq (R D) (evE w (.comp2 it cap tg it2 tg2 t elt) τ) (.no):=rfl
theorem qR:∀{w t0 a t1 b t2 τ},@Eq (R D) (evE w (.fst2 t0 a t1 b t2) τ) (.no):=rfl
theorem qE:∀{w ln a τ},@Eq (R D) (evE w (.sset ln a) τ) ((evE w a τ).bind (fQ ln)):=rfl
theorem qy:∀{w a τ},@Eq (R D) (evE w (.rev a) τ) ((evE w a τ).bind λx=>match x with
  | .tup xs=>.ok (.tup xs.reverse)
  | .str z=>if (zx z).length<=SZ then .ok (.str (zx z))else .no
  |_=>.no):=rfl
theorem qC:∀{w a τ},@Eq (R D) (evE w (.stri a) τ) ((evE w a τ).bind iz):=rfl
theorem qt:∀{w sep a τ},@Eq (R D) (evE w (.joi sep a) τ) ((evE w a τ).bind (dS sep)):=rfl
theorem qO:∀{w a t b τ},@Eq (R D) (evE w (.fsm a t b) τ) ((evE w a τ).bind λx=>iR x λi=>if qY i&&decide (((Str.empty++dj i)++t).length<=SZ)then (evE w b τ).bind λy=>iR y λj=>if qY j&&decide ((eS i t j).length<=SZ)then .ok (.str (eS i t j))else .no else .no):=rfl
theorem qI:∀{w a b τ},@Eq (R D) (evE w (.stp a b) τ) ((evE w a τ).bind λx=>sR x λi=>(evE w b τ).bind λy=>jM i y):=rfl
theorem qT:∀{w a τ},@Eq (R D) (evE w (.rvt a) τ) ((evE w a τ).bind gK):=rfl
theorem qU:∀{w a b τ},@Eq (R D) (evE w (.spl a b) τ) ((evE w a τ).bind λx=>sR x λi=>(evE w b τ).bind λy=>gX i y):=rfl
theorem qM:∀{w a b τ},@Eq (R D) (evE w (.sadd a b) τ) ((evE w a τ).bind λx=>(evE w b τ).bind λy=>gH x y):=rfl
theorem eM:∀{w τ},@Eq (R Bool) (evT w (.yes) τ) (.ok true):=rfl
theorem eK:∀{w e τ},@Eq (R Bool) (evT w (.val e) τ) ((evE w e τ).bind λx=>truth x):=rfl
theorem dH:∀{w c a b τ},@Eq (R Bool) (evT w (.cmp c a b) τ) ((evE w a τ).bind λx=>(evE w b τ).bind λy=>qh c x y):=rfl
theorem eX:∀{w c c' a b d τ},@Eq (R Bool) (evT w (.cmp2 c c' a b d) τ) ((evE w a τ).bind λx=>(evE w b τ).bind λy=>(qh c x y).bind λr=>if r then (evE w d τ).bind λz=>qh c' y z else .ok false):=rfl
theorem eT:∀{w a b τ},@Eq (R Bool) (evT w (.and a b) τ) ((evT w a τ).bind λr=>if r then evT w b τ else .ok false):=rfl
theorem cY:∀{w a b τ},@Eq (R Bool) (evT w (.or a b) τ) ((evT w a τ).bind λr=>if r then .ok true else evT w b τ):=rfl
theorem fc:∀{w a τ},@Eq (R Bool) (evT w (.not a) τ) ((evT w a τ).bind λr=>.ok (!r)):=rfl
mutual
inductive S where
 |set (tg:Tg) (e:E)
 |app (i:Nat) (e:E)
 |seti (i:Nat) (k e:E)
 |exp (e:E)
 |ret (e:E)|retN
 |ite (t:T) (a b:Ss)
 |for (tg:Tg) (it:It) (b:Ss)
 |while (t:T) (b:Ss)
 |raise (c:Str) (es:Es)
 |try (b:Ss) (c:Str) (i:Option Nat) (h:Ss)
 |ins (i:Nat) (k e:E)
 |pass|brk|cnt|unk
 |par (i j:Nat) (a b:E)
 |par3 (i j k:Nat) (a b c:E)
inductive Ss where
 |nil|cons (s:S) (r:Ss)
end
inductive O where
 |nx (τ:Env)|rt (d:D)|bk (τ:Env)|ct (τ:Env)|ex (c:Str)|no
noncomputable def R.out{α:Type}:R α->(α->O)->O
 | .ok a,f=>f a
 | .ex c,_=>.ex c
 | .no,_=>.no
@[simp] theorem R.out_ok{α:Type}(a:α)(f:α->O):(R.ok a).out f=f a:=rfl
@[simp] theorem R.out_ex{α:Type}(c:Str)(f:α->O):(R.ex c:R α).out f=.ex c:=rfl
@[simp] theorem R.out_no{α:Type}(f:α->O):(R.no:R α).out f=.no:=rfl
noncomputable def cy(tg:Tg)(body:Env->O):List D->Env->O
 | [],τ=>.nx τ
 |x::r,τ=>(store tg x τ).out λτ'=>match body τ' with
  | .nx σ=>cy tg body r σ
  | .ct σ=>cy tg body r σ
  | .bk σ=>.nx σ
  |o=>o
noncomputable def O.noEx:O->O
 | .ex _=>.no
 |o=>o
noncomputable def O.rtOnly:O->O
 | .rt d=>.rt d
 |_=>.no
noncomputable def cz(τ:Env)(i:Option Nat)(k:Str):Env:=match i with
 |none=>τ.map λ_=>none
 |some i=>(τ.map λ_=>none).set i (some (.exn k))
mutual
noncomputable def evS(w:W):S->Env->O
 | .set tg e,τ=>(evE w e τ).out λd=>(store tg d τ).out .nx
 | .app i e,τ=>(bP τ i).out λx=>(evE w e τ).out λd=>match x with
  | .lst xs=>if xs.length<SZ then .nx (τ.set i (some (.lst (xs++[d]))))else .no
  |_=>.no
 | .seti i k e,τ=>(evE w e τ).out λd=>(bP τ i).out λx=>(evE w k τ).out λn=>match x,n with
  | .lst xs,.int j=>match ixN xs.length j with
   |some m=>.nx (τ.set i (some (.lst (xs.set m d))))
   |none=>.no
  |_,_=>.no
 | .exp e,τ=>(evE w e τ).out λ_=>.nx τ
 | .ret e,τ=>(evE w e τ).out .rt
 | .retN,_=>.rt .non
 | .ite t a b,τ=>(evT w t τ).out λr=>if r then qf w a τ else qf w b τ
 | .for tg it b,τ=>((evI w it τ).out λds=>cy tg (λσ=>qf w b σ) ds τ).noEx
 | .while t b,_=>.no
 | .raise c es,τ=>(zt w es τ).out λ_=>.ex c
 | .try b c i h,τ=>match qf w b τ with
  | .ex k=>if w.cat k c=true then (qf w h (cz τ i k)).rtOnly else .no
  |o=>o
 | .ins i k e,_=>.no
 | .unk,_=>.no
 | .pass,τ=>.nx τ
 | .brk,τ=>.bk τ
 | .cnt,τ=>.ct τ
 | .par i j a b,_=>.no
 | .par3 i j k a b c,_=>.no
noncomputable def qf(w:W):Ss->Env->O
 | .nil,τ=>.nx τ
 | .cons s r,τ=>match evS w s τ with
  | .nx σ=>qf w r σ
  |o=>o
end
theorem cg:∀{w tg e τ},@Eq (O) (evS w (.set tg e) τ) ((evE w e τ).out λd=>(store tg d τ).out .nx):=rfl
theorem cB:∀{w i e τ},@Eq (O) (evS w (.app i e) τ) ((bP τ i).out λx=>(evE w e τ).out λd=>match x with
  | .lst xs=>if xs.length<SZ then .nx (τ.set i (some (.lst (xs++[d]))))else .no
  |_=>.no):=rfl
theorem cG:∀{w i k e τ},@Eq (O) (evS w (.seti i k e) τ) ((evE w e τ).out λd=>(bP τ i).out λx=>(evE w k τ).out λn=>match x,n with
  | .lst xs,.int j=>match ixN xs.length j with
   |some m=>.nx (τ.set i (some (.lst (xs.set m d))))
   |none=>.no
  |_,_=>.no):=rfl
theorem cC:∀{w e τ},@Eq (O) (evS w (.exp e) τ) ((evE w e τ).out λ_=>.nx τ):=rfl
theorem zC:∀{w e τ},@Eq (O) (evS w (.ret e) τ) ((evE w e τ).out .rt):=rfl
theorem cA:∀{w τ},@Eq (O) (evS w (.retN) τ) (.rt .non):=rfl
theorem zS:∀{w t a b τ},@Eq (O) (evS w (.ite t a b) τ) ((evT w t τ).out λr=>if r then qf w a τ else qf w b τ):=rfl
theorem cc:∀{w tg it b τ},@Eq (O) (evS w (.for tg it b) τ) (((evI w it τ).out λds=>cy tg (λσ=>qf w b σ) ds τ).noEx):=rfl
theorem cD:∀{w t b τ},@Eq (O) (evS w (.while t b) τ) (.no):=rfl
theorem zR:∀{w c es τ},@Eq (O) (evS w (.raise c es) τ) ((zt w es τ).out λ_=>.ex c):=rfl
theorem zP:∀{w b c i h τ},@Eq (O) (evS w (.try b c i h) τ) (match qf w b τ with
  | .ex k=>if w.cat k c=true then (qf w h (cz τ i k)).rtOnly else .no
  |o=>o):=rfl
theorem zY:∀{w i k e τ},@Eq (O) (evS w (.ins i k e) τ) (.no):=rfl
theorem cK:∀{w τ},@Eq (O) (evS w (.unk) τ) (.no):=rfl
theorem zZ:∀{w τ},@Eq (O) (evS w (.pass) τ) (.nx τ):=rfl
theorem cF:∀{w τ},@Eq (O) (evS w (.brk) τ) (.bk τ):=rfl
theorem cL:∀{w τ},@Eq (O) (evS w (.cnt) τ) (.ct τ):=rfl
theorem cJ:∀{w i j a b τ},@Eq (O) (evS w (.par i j a b) τ) (.no):=rfl
theorem cH:∀{w i j k a b c τ},@Eq (O) (evS w (.par3 i j k a b c) τ) (.no):=rfl
structure Fn where
 ps:Nat
 N:Nat
 fr:Bool
 body:Ss
noncomputable def cf(w:W)(f:Fn)(ds:List D):R D:=if ds.length=f.ps then (match qf w f.body (ds.map some++bF (f.N-f.ps) none)with
  | .nx _=>if f.fr then .no else .ok .non
  | .rt d=>.ok d
  | .ex c=>.ex c
  |_=>.no)else .no
structure Pr where
 fns:Str->Option Fn
 glb:Str->Option D
 sub:Str->Cl->Option Bool
 cat:Str->Str->Bool
noncomputable def qa(p:Pr):Nat->Str->List D->R D
 | 0,_,_=>.no
 |k+1,x,ds=>match p.fns x with
  |some f=>cf ⟨qa p k,p.glb,p.sub,p.cat⟩ f ds
  |none=>.no
inductive GK where
  |fn (fresh:Bool)|val|bi (b:B1)|rng|enum|zip|isi|ty (n:String) (b:Option B1)|exc|exk|set
  deriving DecidableEq
structure Cc where
  nm:List (Str×aM)
  N:List Str
  own:List Str
  G:List (Str×GK)
  calm:Bool
  fnc:Bool
  thr:Bool
  GH:List (Str×GK)
  oc:List Str
  frz:Bool
noncomputable def loc(c:Cc)(x:Str):Option Nat:=
  if x == "__debug__" ||x == "__classdict__" then none else
  match c.nm.lookup x with
  |some .local|some .cell|some .free=>let i:=c.N.findIdx (· == x);if c.N[i]? = some x then some i else none
  |_=>none
noncomputable def de(c:Cc)(x:Str):Option Nat:=
  match c.nm.lookup x with
  |some .local=>loc c x
  |some .cell=>if c.fnc||c.oc.contains x then loc c x else none
  |_=>none
noncomputable def glob(c:Cc)(x:Str):Option GK:=
  if x == "__debug__" ||x == "__name__" then none else
  match c.nm.lookup x with
  |some .globalImplicit=>c.G.lookup x
  |_=>none
noncomputable def esc:E->Bool
  | .own _=>false
  |_=>true
noncomputable def dW:Es->Bool
  | .nil=>true
  | .cons e es=>esc e&&dW es
noncomputable def isL:E->Bool
  | .lst _=>true
  | .rlst _=>true
  | .comp .. => true
  |_=>false
noncomputable def B6:O2->Bool
  | .add=>true
  | .mul=>true
  |_=>false
noncomputable def fresh(c:Cc):E->Bool
  | .op o a b=>B6 o&&isL a||o==.add&&isL b
  | .lst _=>true
  | .rlst _=>true
  | .comp .. => true
  | .comp2 .. => true
  | .bi .list _=>true
  | .bi .sorted _=>true
  | .call f _=>c.G.lookup f==some (.fn true)
  |_=>false
noncomputable def o2:Operator->Option O2
  | .Add=>some .add
  | .Sub=>some .sub
  | .Mult=>some .mul
  | .FloorDiv=>some .fdiv
  | .Mod=>some .mod
  | .Pow=>some .pow
  | .RShift=>some .shr
  |_=>none
noncomputable def c2:CmpOp->C2
  | .Eq=>.eq
  | .NotEq=>.ne
  | .Lt=>.lt
  | .LtE=>.le
  | .Gt=>.gt
  | .GtE=>.ge
  | .Is=>.is
  | .IsNot=>.isnot
  | .In=>.isin
  | .NotIn=>.notin
noncomputable def eu:Expr->Bool
  | .ListComp .. => true
  | .SetComp .. => true
  | .DictComp .. => true
  |_=>false
noncomputable def zv:Expr->Bool
  | .Set .. => false
  |_=>true
noncomputable def jm(names nm:List (Str×aM)):List (Str×aM):=names.map λ(n,k)=>if k==bL&&(nm.lookup n==some .cell)then (n,aM.cell)else (n,k)
noncomputable def bR(names:List (Str×aM)):List Str:=(names.filter λp=>p.2==.local||p.2==.free||p.2==.cell).map (·.1)
noncomputable def fL(c:Cc)(names:List (Str×aM)):List (Option Nat):=(bR names).map λx=>if names.lookup x==some .free then loc c x else none
noncomputable def gk:List Expr->Option (List Str)
  | []=>some []
  | .Name x _::r=>(gk r).map (x :: ·)
  |_=>none
noncomputable def cTg(c:Cc):Expr->Option Tg
  | .Name x _=>if c.own.contains x then none else (de c x).map .nm
  | .Tuple es _ _=>if c.calm then do
      let xs <-gk es
      if xs.any c.own.contains then none else
      let is <-xs.mapM (de c)
      if is.Nodup then some (.tp is)else none
    else none
  |_=>none
noncomputable def isStar:Expr->Bool
  | .Starred .. => true
  |_=>false
noncomputable def isSlice:Expr->Bool
  | .Slice .. => true
  |_=>false
noncomputable def isTup:Expr->Bool
  | .Tuple .. => true
  |_=>false
noncomputable def fM(it:It)(tg:Expr):Bool:=match it with
  | .enum _=>isTup tg
  | .zip .. => isTup tg
  |_=>true
noncomputable def iS(c:Cc):Expr->Option Cl
  | .Name x _=>match glob c x with
    |some (.ty n _)=>some (.ty n)
    |some .exc=>some (.ex x)
    |some .exk=>some (.ex x)
    |_=>none
  |_=>none
noncomputable def vr(c:Cc)(x:Str)(i:Nat):E:=if c.own.contains x then .own i else .var i
noncomputable def cMt(c:Cc)(o:Expr)(m:Str)(ap:Pos)(as:List Expr)(cp:Pos):Option E:=match o with
  | .Name x _=>match as with
    | [a]=>match a with
      | .Constant k _ _=>match k with
        | .bool b=>match loc c x with
          |some i=>if b&&ap.endLine==cp.line then (if m = "count" then some (.mth false (vr c x i))else if m = "index" then some (.mth true (vr c x i))else none)else none
          |none=>none
        |_=>none
      |_=>none
    |_=>none
  |_=>none
noncomputable def baseOk:Expr->Bool
  | .Call (.Name _ _) (_::_) _ _=>true
  | .Name .. => true
  |_=>false
noncomputable def owned:It->Bool
  | .seq (.own _)=>true
  | .enum (.own _)=>true
  | .zip (.own _) _=>true
  | .zip _ (.own _)=>true
  |_=>false
noncomputable def er:Expr->Option Str
  | .Constant k _ _=>match k with
    | .str t=>some t
    |_=>none
  |_=>none
noncomputable def dO:Expr->Option Expr
  | .FormattedValue a k f _=>match f with
    |none=>if k = -1 then some a else none
    |_=>none
  |_=>none
noncomputable def kC:List Expr->Option (Str×Expr×Str×Expr×Str)
  | [x0,x1,x2,x3,x4]=>do
    let t0 <-er x0
    let a <-dO x1
    let t1 <-er x2
    let b <-dO x3
    let t2 <-er x4
    if (Str.empty++t0).length<=1000 then some (t0,a,t1,b,t2)else none
  |_=>none
noncomputable def nL(vs:List Expr):Option (Expr×Str×Expr):=match vs with
  |x0::r=>match r with
    |x1::r=>match r with
      |x2::r=>if r.isEmpty then (match dO x0 with
        |some a=>match er x1 with
          |some t=>match dO x2 with
            |some b=>some (a,t,b)
            |none=>none
          |none=>none
        |none=>none)else none
      | []=>none
    | []=>none
  | []=>none
noncomputable def sf(e:Expr):Bool:=match e with
  | .Call f _ _ _=>(match f with
    | .Name x _=>x == "str"
    |_=>false)
  |e=>(er e).isSome
noncomputable def mO(o:O2)(b:Expr):Bool:=o==.add&&sf b
noncomputable def eG:Expr->Bool
  | .UnaryOp .USub (.Constant (.int i) _ _) _=>decide (i=1)
  |_=>false
noncomputable def ig:Expr->Bool
  | .Constant (.int i) _ _=>decide (i=0)
  |_=>false
noncomputable def cUp(lo hi:Option Expr)(s:Expr):Bool:=lo.isNone&&(match hi with|some h=>ig h|none=>false)&&eG s
noncomputable def kr(c:Cc)(b:B1):List Expr->Option Expr
  | [.Call (.Name g _) [a] [] _]=>if (b==.sorted)&&loc c g==none&&glob c g==some .set && !isStar a&&c.calm then some a else none
  |_=>none
noncomputable def kn:Expr->Bool
  | .ListComp _ gs _ _=>gs.length==2
  |_=>false
mutual
noncomputable def cE:Nat->Cc->Expr->Option E
  | 0,_,_=>none
  |n+1,c,e=>match e with
    | .Name x _=>match loc c x with
      |some i=>if c.own.contains x then some (.own i)else some (.var i)
      |none=>match glob c x with
        |some .val=>some (.glb x)
        |some (.fn _)=>some (.fnv x)
        |_=>none
    | .Constant k _ _=>match k with
      | .int i=>some (.con (.int i))
      | .bool i=>some (.con (.bl i))
      | .none=>some (.con .non)
      | .str x=>some (.con (.str x))
      |_=>none
    | .BinOp a op b _=>do
      let o <-o2 op
      let a <-cE n c a
      let b' <-cE n c b
      some (if mO o b then .sadd a b' else .op o a b')
    | .UnaryOp op a _=>do
      let a <-cE n c a
      match op with
      | .USub=>some (.neg a)
      | .Invert=>some (.inv a)
      | .Not=>some (.not a)
      |_=>none
    | .BoolOp op vs _=>cBo n c op vs
    | .Compare a ops bs _=>match ops,bs with
      | [o],[b]=>do
        let a <-cE n c a
        let b' <-cE n c b
        if zv b then some (.cmp (c2 o) a b')else none
      | [o,o'],[b,d]=>do
        let a <-cE n c a
        let b' <-cE n c b
        let d' <-cE n c d
        if zv b&&zv d then some (.cmp2 (c2 o) (c2 o') a b' d')else none
      | [o,o',o''],[b,d,f]=>do
        let a <-cE n c a
        let b' <-cE n c b
        let d' <-cE n c d
        let f' <-cE n c f
        if zv b&&zv d&&zv f then some (.cmp3 (c2 o) (c2 o') (c2 o'') a b' d' f')else none
      |_,_=>none
    | .Dict ks vs _=>if ks.isEmpty&&vs.isEmpty then some .dic else none
    | .JoinedStr vs _=>match kC vs with
      |some (t0,a,t1,b,t2)=>do
        let a <-cE n c a
        let b <-cE n c b
        some (.fst2 t0 a t1 b t2)
      |none=>match nL vs with
        |some (a,t,b)=>do
          let a <-cE n c a
          let b <-cE n c b
          some (.fsm a t b)
        |none=>none
    | .IfExp t a b _=>do
      let t <-cT n c t
      let a <-cE n c a
      let b <-cE n c b
      if esc a&&esc b then some (.ite t a b)else none
    | .Tuple es _ _=>do
      let es <-cEs n c es
      if dW es then some (.tup es)else none
    | .List es _=>do
      let es <-cEs n c es
      if dW es then some (.lst es)else none
    | .Subscript a b _=>match b with
      | .Slice lo hi st _=>match st with
        |some s=>if lo.isNone&&hi.isNone&&eG s then (cE n c a).map .rev else if cUp lo hi s then (cE n c a).map .rvt else none
        |none=>do
          let a <-cE n c a
          let lo <-cO n c lo
          let hi <-cO n c hi
          some (.sl a lo hi)
      |b=>do
        if isSlice b then none else
        let a <-cE n c a
        let b <-cE n c b
        some (.ix a b)
    | .ListComp elt gs sc _=>match gs with
     | [⟨tgt,it,ifs,asy⟩]=>do
      if !(asy==0) || !c.calm || !zv it then none else
      let c':Cc:={c with nm:=jm sc.names c.nm,N:=bR sc.names,fnc:=false,oc:=h_ sc.names}
      let cap:=fL c sc.names
      if !gY (λx=>c.nm.lookup x) c.N (bR sc.names) cap sc || !decide (bR sc.names).Nodup then none else
      let it <-cI n c it
      let tg <-cTg c' tgt
      let t <-e_ n c' ifs
      let elt <-cE n c' elt
      if esc elt&&fM it tgt then some (.comp it cap tg t elt)else none
     |_=>none
    | .Call fe as ks cp=>match ks with
     | []=>match fe with
      | .Name f _=>match loc c f with
        |some _=>none
        |none=>match glob c f with
          |some (.fn _)=>do
            let es <-cEs n c as
            if dW es && !as.isEmpty then some (.call f es)else if !as.isEmpty then some (.callo f es)else none
          |some (.bi b)=>match kr c b as with
            |some a=>(cE n c a).map (.sset (b==.len))
            |none=>do
              let es <-cEs n c as
              if !as.isEmpty&&(c.calm||b==.len||b==.abs)then some (.bi b es)else none
          |some (.ty t (some b))=>match as with
            | [.Call (.Name g p) as' [] q]=>if loc c g==none&&glob c g==some .rng then (if c.calm&&(t == "tuple" ||t == "list")then (match as' with
                | [a]=>if isStar a then none else do
                  let a <-cE n c a
                  some (if t = "tuple" then .rtup (.rng a)else .rlst (.rng a))
                | [a,d]=>if isStar a||isStar d then none else do
                  let a <-cE n c a
                  let d <-cE n c d
                  some (if t = "tuple" then .rtup (.rng2 a d)else .rlst (.rng2 a d))
                | [a,d,k]=>if isStar a||isStar d||isStar k then none else do
                  let a <-cE n c a
                  let d <-cE n c d
                  let k <-cE n c k
                  if t == "tuple" then some (.rtup (.rng3 a d k))else none
                |_=>none)
                else none)
              else do
                let es <-cEs n c as
                some (.bi b es)
            |_=>do
              let es <-cEs n c as
              if !as.isEmpty then some (.bi b es)else none
          |some .isi=>match as with
            | [a,k]=>do
              if isStar a then none else
              let a <-cE n c a
              let k <-iS c k
              some (.isi a k)
            |_=>none
          |some (.ty t none)=>match as with
            | [a]=>if t == "str" && !isStar a then (cE n c a).map .stri else none
            |_=>none
          |_=>none
      | .Attribute o m ap=>match cMt c o m ap as cp with
        |some e=>some e
        |none=>match as with
          | [a]=>match er o with
           |some sep=>if m == "join" && !isStar a&&(ap.endLine==cp.line)then (cE n c a).map (.joi sep)else none
           |none=>if m == "strip" then (do
              if !baseOk o||isStar a || !(ap.endLine==cp.line)then none else
              let o' <-cE n c o
              let a' <-cE n c a
              some (.stp o' a'))else if m == "split" then (do
              if !baseOk o||isStar a || !(ap.endLine==cp.line)then none else
              let o' <-cE n c o
              let a' <-cE n c a
              some (.spl o' a'))else do
            if !baseOk o||isStar a || !(m == "count") || !(ap.endLine==cp.line)then none else
            let o' <-cE n c o
            let a' <-cE n c a
            if esc a' then some (.cnt o' a')else none
          |_=>none
      |_=>none
     |_=>none
    |_=>none
noncomputable def e_:Nat->Cc->List Expr->Option T
  | 0,_,_=>none
  |n+1,c,ifs=>match ifs with
    | []=>some .yes
    | [t]=>cT n c t
    |_=>none
noncomputable def cBo:Nat->Cc->BoolOp->List Expr->Option E
  | 0,_,_,_=>none
  |n+1,c,op,vs=>match vs with
    | []=>none
    | [a]=>do
      let a <-cE n c a
      if esc a then some a else none
    |a::b::r=>do
      let a <-cE n c a
      let r <-cBo n c op (b::r)
      match op with
      | .And=>some (.and a r)
      | .Or=>some (.or a r)
noncomputable def cO:Nat->Cc->Option Expr->Option OE
  | 0,_,_=>none
  |n+1,c,o=>match o with
    |none=>some .none
    |some e=>(cE n c e).map .some
noncomputable def cEs:Nat->Cc->List Expr->Option Es
  | 0,_,_=>none
  |n+1,c,es=>match es with
    | []=>some .nil
    |e::r=>do
      if isStar e then none else
      let e <-cE n c e
      let r <-cEs n c r
      some (.cons e r)
noncomputable def cI:Nat->Cc->Expr->Option It
  | 0,_,_=>none
  |n+1,c,e=>match e with
    | .Call (.Name f p) as [] q=>match loc c f with
      |some _=>(cE n c (.Call (.Name f p) as [] q)).map .seq
      |none=>match glob c f with
        |some .rng=>(match as with
          | [a]=>if isStar a then none else (cE n c a).map .rng
          | [a,b]=>if isStar a||isStar b then none else do
            let a <-cE n c a
            let b <-cE n c b
            some (.rng2 a b)
          |_=>none)
        |some .enum=>(match as with
          | [a]=>if isStar a then none else (cE n c a).map .enum
          |_=>none)
        |some .zip=>(match as with
          | [a,b]=>if isStar a||isStar b then none else do
            let a <-cE n c a
            let b <-cE n c b
            some (.zip a b)
          |_=>none)
        |_=>(cE n c (.Call (.Name f p) as [] q)).map .seq
    |e=>(cE n c e).map .seq
noncomputable def cT:Nat->Cc->Expr->Option T
  | 0,_,_=>none
  |n+1,c,e=>match e with
    | .UnaryOp .Not a _=>(cT n c a).map .not
    | .BoolOp op vs _=>cTs n c op vs
    | .IfExp .. => none
    | .Compare a ops bs _=>match ops,bs with
      | [o],[b]=>do
        let a <-cE n c a
        let b' <-cE n c b
        if zv b then some (.cmp (c2 o) a b')else none
      | [o,o'],[b,d]=>do
        let a <-cE n c a
        let b' <-cE n c b
        let d' <-cE n c d
        if zv b&&zv d then some (.cmp2 (c2 o) (c2 o') a b' d')else none
      | [o,o',o''],[b,d,f]=>do
        let a <-cE n c a
        let b' <-cE n c b
        let d' <-cE n c d
        let f' <-cE n c f
        if zv b&&zv d&&zv f then some (.val (.cmp3 (c2 o) (c2 o') (c2 o'') a b' d' f'))else none
      |_,_=>none
    |e=>(cE n c e).map .val
noncomputable def cTs:Nat->Cc->BoolOp->List Expr->Option T
  | 0,_,_,_=>none
  |n+1,c,op,vs=>match vs with
    | []=>none
    | [a]=>cT n c a
    |a::b::r=>do
      let a <-cT n c a
      let r <-cTs n c op (b::r)
      match op with
      | .And=>some (.and a r)
      | .Or=>some (.or a r)
end
noncomputable def gI(c:Cc):Cc:={c with calm:=false,thr:=false,G:=c.GH,GH:=[]}

noncomputable def kg:Expr->Option (Str×Str×Pos×Expr×Pos)
  | .Call f as ks cp=>match f with
    | .Attribute o m ap=>match o with
      | .Name x _=>match as with
        | [a]=>if ks.isEmpty then some (x,m,ap,a,cp)else none
        |_=>none
      |_=>none
    |_=>none
  |_=>none
noncomputable def ph(_:Expr):Option (Str×Pos×Expr×Expr×Pos):=none
noncomputable def raiseOf:Expr->Option (Str×Expr×List Expr)
  | .Call f as ks _=>match f with
    | .Name x _=>match as with
      |a::as=>if ks.isEmpty then some (x,a,as)else none
      |_=>none
    |_=>none
  |_=>none
noncomputable def kN:Expr->Bool
  | .Tuple es _ _=>es.all (foldedForSure 8)
  |_=>false
mutual
noncomputable def cS:Nat->Cc->Bool->Stmt->Option S
  | 0,_,_,_=>none
  |n+1,c,fr,s=>match s with
    | .Assign ts e _=>match ts with
      | [t]=>match t with
        | .Name x _=>do
          if kn e then none else
          let i <-de c x
          let e' <-cE n c e
          if c.own.contains x then (if fresh c e' && !c.frz then some (.set (.nm i) e')else none)else if esc e' then some (.set (.nm i) e')else none
        | .Tuple ts k p=>do
              let tg <-cTg c (.Tuple ts k p)
              let e' <-cE n c e
              if (isTup e && !kN e)||eu e || !esc e' then none else some (.set tg e')
        | .Subscript a k _=>match a with
          | .Name x _=>do
            let i <-de c x
            let e' <-cE n c e
            let k' <-cE n c k
            if c.own.contains x&&esc e' && !isSlice k && !eu e && !c.frz then some (.seti i k' e')else none
          |_=>none
        |_=>none
      |_=>none
    | .Expr e _=>match ph e with
      |some (x,ap,k,a,cp)=>do
        let i <-de c x
        let k' <-cE n c k
        let a' <-cE n c a
        if c.own.contains x&&esc a' && !isStar k && !isStar a&&ap.endLine==cp.line && !c.frz then some (.ins i k' a')else none
      |none=>match kg e with
      |some (x,m,ap,a,cp)=>do
        let i <-de c x
        let a' <-cE n c a
        if m == "append" && c.own.contains x&&esc a' && !isStar a&&ap.endLine==cp.line && !c.frz then some (.app i a')else none
      |none=>do
        if eu e then none else
        let e' <-cE n c e
        some (.exp e')
    | .Return o _=>match o with
      |some e=>do
        let e' <-cE n c e
        if fr then (match e with
          | .Name y _=>if c.own.contains y then (loc c y).map (λi=>.ret (.own i))else none
          |_=>if fresh c e' then some (.ret e')else none)
        else some (.ret e')
      |none=>if fr then none else some .retN
    | .If t a b _=>do
      let t <-cT n c t
      let a <-cSs n c fr a
      let b <-cSs n c fr b
      some (.ite t a b)
    | .For tg it b els _=>do
      if !els.isEmpty || !c.calm || !zv it then none else
      let tg' <-cTg c tg
      let it <-cI n c it
      if !fM it tg then none else
      let b <-cSs n {c with frz:=c.frz||owned it} fr b
      some (.for tg' it b)
    | .While t b els _=>do
      if !els.isEmpty || !c.calm then none else
      let t <-cT n c t
      let b <-cSs n c fr b
      some (.while t b)
    | .Raise o o' _=>match o with
      |some r=>match raiseOf r with
        |some (x,a,as)=>do
          if !o'.isNone || !c.calm || !c.thr then none else
          match glob c x with
          |some .exc=>do
            let es <-cEs n c (a::as)
            some (.raise x es)
          |_=>none
        |none=>none
      |none=>none
    | .Try b hs els fin _=>match hs with
      | [.ExceptHandler ty y h _]=>match ty with
        |some (.Name x _)=>do
          if !els.isEmpty || !fin.isEmpty || !c.calm || !c.fnc||fr||h.isEmpty || !c.own.isEmpty||c.frz then none else
          let b <-cSs n {c with thr:=false} fr b
          let h <-cSs n (gI c) fr h
          if !(glob c x==some .exc||glob c x==some .exk)then none else
          match y with
          |none=>some (.try b x none h)
          |some y=>do
            let i <-de c y
            if c.nm.lookup y==some .local then some (.try b x (some i) h)else none
        |_=>none
      |_=>none
    | .Pass _=>some .pass
    | .Break _=>some .brk
    | .Continue _=>some .cnt
    |_=>none
noncomputable def cSs:Nat->Cc->Bool->List Stmt->Option Ss
  | 0,_,_,_=>none
  |n+1,c,fr,ss=>match ss with
    | []=>some .nil
    |s::r=>do
      let r <-cSs n c fr r
      some (.cons ((cS n c fr s).getD .unk) r)
end
noncomputable def noOwn(c:Cc):Cc:={c with own:=[],frz:=false}
noncomputable def gJ(n:Nat)(c:Cc)(fr:Bool)(b:List Stmt):Option Ss:=cSs n c fr b
noncomputable def argNames(a:Arguments):List Str:=a.args.map (·.arg)
noncomputable def dU(a:Arguments)(sc:aO):List Str:=argNames a++((sc.names.filter λp=>p.2==.local||p.2==.cell).map (·.1)).filter λx=>!(argNames a).contains x
noncomputable def f_(N ps:List Str)(sc:aO):Bool:=
  sc.kind==.function && !sc.isCoroutine && !sc.isGenerator&&decide N.Nodup&&decide (N.take ps.length=ps)&&ps.all (λx=>sc.names.lookup x==some .local||sc.names.lookup x==some .cell)&&sc.names.all λy=>y.2 != .free
noncomputable def gO:Nat:=60
noncomputable def cFn(G GH:List (Str×GK))(own:List Str)(fr:Bool)(st:Stmt):Option Fn:=do
  let a:=zc st
  let sc:=za st
  let N:=dU a sc
  if !f_ N (argNames a) sc||(argNames a).any own.contains then none else
  let b <-gJ gO ⟨sc.names,N,own,G,true,true,true,GH,[],false⟩ fr (zV st)
  some ⟨(argNames a).length,N.length,fr,b⟩
noncomputable def gz(GU:List (Str×GK))(own:List Str)(fr:Bool)(st:Stmt):Option Fn:=do
  let a:=zc st
  let sc:=za st
  let N:=dU a sc
  if !f_ N (argNames a) sc||(argNames a).any own.contains then none else
  let b <-gJ gO ⟨sc.names,N,own,GU,false,true,false,[],[],false⟩ fr (zV st)
  some ⟨(argNames a).length,N.length,fr,b⟩
end EV

namespace EV
open PySem PySem.Spec PyProof.Rows L2
structure Gc where
 K:av
 fnA:Str->Option Addr
 clA:Str->Option Addr
mutual
inductive Rep(g:Gc)(H:Hp):D->V->Prop
 |non:Rep g H .non .non
 |bl (b:Bool):Rep g H (.bl b) (.bl b)
 |int (i:Int):Rep g H (.int i) (.int i)
 |str (x:Str):Rep g H (.str x) (.str x)
 |tup {a:Addr}{xs:List V}{ds:List D}:SqT g.K H a xs->qV g H ds xs->Rep g H (.tup ds) (.ref a)
 |lst {a:Addr}{xs:List V}{ds:List D}:SqL g.K H a xs->qV g H ds xs->Rep g H (.lst ds) (.ref a)
 |fn {x:Str}{a:Addr}:g.fnA x=some a->Rep g H (.fn x) (.ref a)
 |exn {c:Str}{a C:Addr}:g.clA c=some C->H a=some (gF a (.ref C))->Rep g H (.exn c) (.ref a)
 |dic {a:Addr}:H a=some (.dK [])->Rep g H .dic (.ref a)
inductive qV(g:Gc)(H:Hp):List D->List V->Prop
 |nil:qV g H [] []
 |cons {d:D}{ds:List D}{x:V}{xs:List V}:Rep g H d x->qV g H ds xs->qV g H (d::ds) (x::xs)
end
theorem zF{K:av}{H H':Hp}{a:Addr}{xs:List V}(e:qg H H')(h:SqT K H a xs):SqT K H' a xs:=by
 rcases h with (h|⟨o,h⟩)|h
 ·exact .inl (.inl (e _ _ h))
 ·exact .inl (.inr ⟨o,e _ _ h⟩)
 ·exact .inr h
section
variable{g:Gc}{H H':Hp}
theorem m5{a b:Bool}(h:(a&&b)=true):a=true/\b=true:=by rw[aH]at h;exact h
theorem Rep.mono(e:qg H H'){d:D}{v:V}(h:Rep g H d v):Rep g H' d v:=
 h.rec (motive_1:=λd v _=>Rep g H' d v) (motive_2:=λd v _=>qV g H' d v) .non .bl .int .str (λq _ r=>.tup (zF e q) r) (λq _ r=>.lst (e.seq q) r) .fn (λq r=>.exn q (e _ _ r)) (λq=>.dic (e _ _ q)) .nil (λ_ _ a b=>.cons a b)
theorem qV.mono(e:qg H H'){d:List D}{v:List V}(h:qV g H d v):qV g H' d v:=
 h.rec (motive_1:=λd v _=>Rep g H' d v) (motive_2:=λd v _=>qV g H' d v) .non .bl .int .str (λq _ r=>.tup (zF e q) r) (λq _ r=>.lst (e.seq q) r) .fn (λq r=>.exn q (e _ _ r)) (λq=>.dic (e _ _ q)) .nil (λ_ _ a b=>.cons a b)
theorem qV.length{ds:List D}:∀{vs:List V},qV g H ds vs->ds.length=vs.length:=by
 induction ds with
 |nil=>intro vs h;cases h;rfl
 |cons d ds ih=>intro vs h;cases h with|cons _ r=>exact congrArg (· + 1) (ih r)
theorem qV.get{ds:List D}:∀{vs:List V}{i:Nat}{d:D},qV g H ds vs->ds[i]? = some d->∃v,vs[i]? = some v/\Rep g H d v:=by
 induction ds with
 |nil=>intro vs i d h e;cases e
 |cons d ds ih=>
  intro vs i d' h e;cases h with
  |cons h t=>cases i with
   |zero=>cases e;exact⟨_,rfl,h⟩
   |succ i=>exact ih (i:=i) t e
theorem qV.append{ds:List D}:∀{es:List D}{vs us:List V},qV g H ds vs->qV g H es us->qV g H (ds++es) (vs++us):=by
 induction ds with
 |nil=>intro es vs us h s;cases h;exact s
 |cons d ds ih=>intro es vs us h s;cases h with|cons r t=>exact .cons r (ih t s)
theorem qV.take{ds:List D}:∀{vs:List V} (n:Nat),qV g H ds vs->qV g H (ds.take n) (vs.take n):=by
 induction ds with
 |nil=>intro vs n h;cases h;cases n<;>exact .nil
 |cons d ds ih=>intro vs n h;cases h with|cons r t=>cases n with
  |zero=>exact .nil
  |succ n=>exact .cons r (ih n t)
theorem qV.drop{ds:List D}:∀{vs:List V} (n:Nat),qV g H ds vs->qV g H (ds.drop n) (vs.drop n):=by
 induction ds with
 |nil=>intro vs n h;cases h;cases n<;>exact .nil
 |cons d ds ih=>intro vs n h;cases n with
  |zero=>exact h
  |succ n=>cases h with|cons r t=>exact ih n t
theorem qV.set{d:D}{v:V}(r:Rep g H d v){ds:List D}:∀{vs:List V} (i:Nat),qV g H ds vs->qV g H (ds.set i d) (vs.set i v):=by
 induction ds with
 |nil=>intro vs i h;cases h;exact .nil
 |cons d' ds ih=>intro vs i h;cases h with|cons q t=>cases i with
  |zero=>exact .cons r t
  |succ i=>exact .cons q (ih i t)
theorem qV.ints{ds:List D}:∀{vs:List V}{ns:List Int},qV g H ds vs->ints? ds=some ns->vs=ns.map V.int/\ds=ns.map D.int:=by
 induction ds with
 |nil=>intro vs ns h e;cases h;cases e;exact⟨rfl,rfl⟩
 |cons d ds ih=>
  intro vs ns h e;cases h with
  |cons h t=>cases d with
   |int i=>
    obtain⟨ms,e1,rfl⟩:=a_.mp (show (ints? ds).map (i :: ·)=some ns from e);obtain⟨h1,h2⟩:=ih t e1;cases h;exact⟨by rw[h1];rfl,by rw[h2];rfl⟩
   |_=>cases (show none=some ns from e)
theorem qV.bools{ds:List D}:∀{vs:List V}{ns:List Bool},qV g H ds vs->bools? ds=some ns->vs=ns.map V.bl:=by
 induction ds with
 |nil=>intro vs ns h e;cases h;cases e;rfl
 |cons d ds ih=>
  intro vs ns h e;cases h with
  |cons h t=>cases d with
   |bl i=>
    obtain⟨ms,e1,rfl⟩:=a_.mp (show (bools? ds).map (i :: ·)=some ns from e);have h1:=ih t e1;cases h;rw[h1];rfl
   |_=>cases (show none=some ns from e)
theorem qV.ofInts:∀(ns:List Int),qV g H (ns.map D.int) (ns.map V.int)
 | []=>.nil
 |i::r=>.cons (.int i) (qV.ofInts r)
end
structure Sh where
 o:Addr->Bool
 h:Addr->Bool
 z:L2.St
 y:Hp
noncomputable def hid(H:Hp)(S:Sh):Hp:=λb=>if S.h b=true then none else H b
noncomputable def cj(S:Sh)(a:Addr):Sh:=⟨S.o,λb=>S.h b||b==a,S.z,S.y⟩
theorem bO{H:Hp}{S:Sh}{b:Addr}{o:HO}:hid H S b=some o↔S.h b=false/\H b=some o:=by
 unfold hid;cases h:S.h b<;>simp
theorem zI{H:Hp}{S:Sh}:qg (hid H S) H:=λ_ _ h=>(bO.mp h).2
theorem zp{H H':Hp}{S:Sh}(e:qg H H'):qg (hid H S) (hid H' S):=λb o h=>bO.mpr ⟨(bO.mp h).1,e _ _ (bO.mp h).2⟩
noncomputable def Sub(S:Sh)(H:Hp):Prop:=∀a,(S.h a=true\/S.o a=true)->H a≠none
theorem Sub.same{S:Sh}{H H':Hp}(h:Sub S H)(e:qg H H'):Sub S H':=λa s n=>by
 cases q:H a with
 |none=>exact h a s q
 |some o=>rw[e _ _ q]at n;cases n
theorem Sub.free{S:Sh}{H:Hp}(h:Sub S H){p:Addr}(n:H p=none):S.h p=false:=by
 cases q:S.h p with
 |false=>rfl
 |true=>exact absurd n (h p (.inl q))
theorem Sub.freeO{S:Sh}{H:Hp}(h:Sub S H){p:Addr}(n:H p=none):S.o p=false:=by
 cases q:S.o p with
 |false=>rfl
 |true=>exact absurd n (h p (.inr q))
theorem zo{H:Hp}{p:Addr}{o:HO}(n:H p=none):qg H (upd H p o):=λb u h=>by
 rw[qi (λz=>by rw[z,n]at h;cases h)];exact h
theorem lb{H:Hp}{S:Sh}{p:Addr}{o:HO}(hs:Sub S H)(n:H p=none):hid (upd H p o) S p=some o:=bO.mpr ⟨hs.free n,zu⟩
theorem jd{H:Hp}{S:Sh}{p:Addr}{o:HO}(n:H p=none):qg (hid H S) (hid (upd H p o) (cj S p)):=λb u h=>by
 obtain⟨h1,h2⟩:=bO.mp h;have hb:b≠p:=λz=>by rw[z,n]at h2;cases h2
 refine bO.mpr ⟨?_,by rw[qi hb];exact h2⟩;show (S.h b||b==p)=false;rw[h1]
 simpa using hb
theorem mm{H:Hp}{S:Sh}{p:Addr}:qg (hid H (cj S p)) (hid H S):=λb u h=>by
 obtain⟨h1,h2⟩:=bO.mp h;refine bO.mpr ⟨?_,h2⟩;have h1:(S.h b||b==p)=false:=h1;simp at h1;exact h1.1
noncomputable def zz(g:Gc)(H:Hp)(S:Sh)(d:D)(v:V):Prop:=
 Rep g (hid H S) d v\/∃a vs ds,S.o a=true/\v=.ref a/\d=.lst ds/\H a=some (.lst vs)/\qV g (hid H S) ds vs
noncomputable def Fr(g:Gc)(H0:Hp)(S:Sh)(H:Hp)(d:D)(v:V):Prop:=
 ∃a vs ds,v=.ref a/\d=.lst ds/\H0 a=none/\H a=some (.lst vs)/\qV g (hid H (cj S a)) ds vs
section
variable{g:Gc}{H H' H0:Hp}{S:Sh}{d:D}{v:V}
theorem zz.mono(e:qg H H')(h:zz g H S d v):zz g H' S d v:=by
 rcases h with h|⟨a,vs,ds,h1,h2,h3,h4,h5⟩
 ·exact .inl (h.mono (zp e))
 ·exact .inr ⟨a,vs,ds,h1,h2,h3,e _ _ h4,h5.mono (zp e)⟩
theorem zz.rep(h:zz g H S d v):Rep g H d v:=by
 rcases h with h|⟨a,vs,ds,h1,rfl,rfl,h4,h5⟩
 ·exact h.mono zI
 ·exact .lst (SqL.of h4) (h5.mono zI)
theorem zz.lst{ds:List D}(h:zz g H S (.lst ds) v):∃a vs,v=.ref a/\SqL g.K H a vs/\qV g (hid H S) ds vs:=by
 rcases h with h|⟨a,vs,ds',h1,rfl,h3,h4,h5⟩
 ·cases h with
  |lst h r=>exact⟨_,_,rfl,zI.seq h,r⟩
 ·cases h3;exact⟨a,vs,rfl,SqL.of h4,h5⟩
theorem zz.strong(h:zz g H S d v)(n:∀ds,d≠.lst ds):Rep g (hid H S) d v:=by
 rcases h with h|⟨a,vs,ds',h1,rfl,h3,h4,h5⟩
 ·exact h
 ·exact absurd h3 (n _)
theorem zz.tup{ds:List D}(h:zz g H S (.tup ds) v):∃a vs,v=.ref a/\SqT g.K H a vs/\qV g (hid H S) ds vs:=by
 cases h.strong (by intro _ z;cases z)with
 |tup h2 r=>exact⟨_,_,rfl,zF zI h2,r⟩
theorem zz.seq{ds:List D}(h:zz g H S d v)(e:seq? d=some ds):∃a vs,v=.ref a/\(SqL g.K H a vs\/SqT g.K H a vs)/\qV g (hid H S) ds vs:=by
 cases d with
 |tup xs=>cases e;obtain⟨a,vs,h1,h2,h3⟩:=h.tup;exact⟨a,vs,h1,.inr h2,h3⟩
 |lst xs=>cases e;obtain⟨a,vs,h1,h2,h3⟩:=h.lst;exact⟨a,vs,h1,.inl h2,h3⟩
 |_=>cases e
theorem zz.int{i:Int}(h:zz g H S (.int i) v):v=.int i:=by cases h.strong (by intro _ z;cases z);rfl
theorem zz.bl{b:Bool}(h:zz g H S (.bl b) v):v=.bl b:=by cases h.strong (by intro _ z;cases z);rfl
theorem eY{ds:List D}{vs:List V}{p:Addr}(hs:Sub S H)(n:H p=none)(r:qV g (hid H S) ds vs):Rep g (hid (upd H p (.tup vs)) S) (.tup ds) (.ref p):=
 .tup (SqT.of (lb hs n)) (r.mono (zp (zo n)))
theorem eZ{ds:List D}{vs:List V}{p:Addr}(hs:Sub S H)(n:H p=none)(r:qV g (hid H S) ds vs):Rep g (hid (upd H p (.lst vs)) S) (.lst ds) (.ref p):=
 .lst (SqL.of (lb hs n)) (r.mono (zp (zo n)))
theorem iW{ds:List D}{vs:List V}{p:Addr}(e:qg H0 H)(n:H p=none)(r:qV g (hid H S) ds vs):Fr g H0 S (upd H p (.lst vs)) (.lst ds) (.ref p):=
 ⟨p,vs,ds,rfl,rfl,e.free n,zu,r.mono (jd n)⟩
end
end EV
namespace HT
open PySem PySem.Spec PyProof.Rows L2
section
variable{prog:ay}{w:au}{A:ax}{E:ae->af->Prop}{s:af}
end
end HT
namespace L2
open PySem PySem.Spec PyProof.Rows
variable{X:Cx}
section
variable{X:Cx}
end
end L2
namespace EV
open PySem PySem.Spec PySem.P PyProof.Rows L2
mutual
noncomputable def D.py:D->PyData
 | .non=>.none
 | .bl b=>.bool b
 | .int i=>.int i
 | .str x=>.str x
 | .tup xs=>.tuple (pys xs)
 | .lst xs=>.list (pys xs)
 | .fn _=>.none
 | .exn _=>.none
 | .dic=>.none
noncomputable def pys:List D->List PyData
 | []=>[]
 |x::xs=>x.py::pys xs
end
mutual
theorem rK:∀{d:D},d.plain=true->d.py.canLay0=true
 | .non,_ | .bl _,_ | .int _,_=>by simp[D.py,PyData.canLay0]
 | .str x,h=>by simpa[D.py,PyData.canLay0,D.plain]using h
 | .tup xs,h=>by simp only[D.py,PyData.canLay0];exact kK (by simpa[D.plain]using h)
 | .lst xs,h=>by simp only[D.py,PyData.canLay0];exact kK (by simpa[D.plain]using h)
 | .fn _,h | .exn _,h | .dic,h=>by simp[D.plain]at h
theorem kK:∀{ds:List D},plainAll ds=true->PyData.canLayAll0 (pys ds)=true
 | [],_=>by simp[pys,PyData.canLayAll0]
 |x::xs,h=>by
  simp only[plainAll,aH]at h;simp only[pys,PyData.canLayAll0,aH];exact⟨rK h.1,kK h.2⟩
end
mutual
theorem o7:∀(d:D),d.py.depth=d.deep
 | .non | .bl _ | .int _ | .str _ | .fn _ | .exn _ | .dic=>by simp[D.py,PyData.depth,D.deep]
 | .tup xs=>by simp only[D.py,PyData.depth,D.deep];rw[lO xs]
 | .lst xs=>by simp only[D.py,PyData.depth,D.deep];rw[lO xs]
theorem lO:∀(ds:List D),PyData.depthAll (pys ds)=eI ds
 | []=>by simp[pys,PyData.depthAll,eI]
 |x::xs=>by simp only[pys,PyData.depthAll,eI];rw[o7 x,lO xs]
end
mutual
theorem lD:∀(a b:D),a.plain=true->b.plain=true->PyData.eqv a.py b.py=a.eqv b
 | .tup xs,.tup ys,h,h'=>by simp only[D.py,PyData.eqv,D.eqv];exact kc xs ys (by simpa[D.plain]using h) (by simpa[D.plain]using h')
 | .lst xs,.lst ys,h,h'=>by simp only[D.py,PyData.eqv,D.eqv];exact kc xs ys (by simpa[D.plain]using h) (by simpa[D.plain]using h')
 | .fn _,_,h,_=>by simp[D.plain]at h
 | .exn _,_,h,_=>by simp[D.plain]at h
 | .dic,_,h,_=>by simp[D.plain]at h
 | .non,b,_,h' | .bl _,b,_,h' | .int _,b,_,h' | .str _,b,_,h'=>by cases b<;>simp[D.py,PyData.eqv,D.eqv,D.plain]at h' ⊢
 | .tup _,.non,_,_ | .tup _,.bl _,_,_ | .tup _,.int _,_,_ | .tup _,.str _,_,_ | .tup _,.lst _,_,_=>by simp[D.py,PyData.eqv,D.eqv]
 | .lst _,.non,_,_ | .lst _,.bl _,_,_ | .lst _,.int _,_,_ | .lst _,.str _,_,_ | .lst _,.tup _,_,_=>by simp[D.py,PyData.eqv,D.eqv]
 | .tup _,.fn _,_,h' | .tup _,.exn _,_,h' | .lst _,.fn _,_,h' | .lst _,.exn _,_,h' | .tup _,.dic,_,h' | .lst _,.dic,_,h'=>by simp[D.plain]at h'
theorem kc:∀(xs ys:List D),plainAll xs=true->plainAll ys=true->PyData.eqvAll (pys xs) (pys ys)=eqvAll xs ys
 | [],[],_,_=>by simp[pys,PyData.eqvAll,eqvAll]
 |x::xs,y::ys,h,h'=>by
  simp only[plainAll,aH]at h h';simp only[pys,PyData.eqvAll,eqvAll];rw[lD x y h.1 h'.1,kc xs ys h.2 h'.2]
 | [],_::_,_,_=>by simp[pys,PyData.eqvAll,eqvAll]
 |_::_,[],_,_=>by simp[pys,PyData.eqvAll,eqvAll]
end
theorem Rep.data{g:Gc}{H:Hp}{d:D}{v:V}(h:Rep g H d v):d.plain=true->dP g.K H v d.py:=
 h.rec (motive_1:=λd v _=>d.plain=true->dP g.K H v d.py) (motive_2:=λds vs _=>plainAll ds=true->fU g.K H vs (pys ds)) (λ_=>.non) (λb _=>.bl b) (λb _=>.int b) (λb _=>.str b) (λq _ r p=>.tup q (r p)) (λq _ r p=>.lst q (r p)) (λ_ p=>nomatch p) (λ_ _ p=>nomatch p) (λ_ p=>nomatch p) (λ_=>.nil) (λ_ _ a b p=>.cons (a (m5 p).1) (b (m5 p).2))
theorem gQ{d:D}:d.asks=true↔d.plain=true/\d.deep<=20:=by simp[D.asks]
section
variable{X:Cx}{g:Gc}
theorem OpR.imp{f:ae->ae->Sem ae}{r r':R2}(h:OpR X f r)(i:∀x y H Q,r' x y H Q->r x y H Q):OpR X f r':=
 λpins s σ H x y v u Q I rx ry q=>h pins s σ H x y v u Q I rx ry (i _ _ _ _ q)
noncomputable def ym(K:av):R2:=λx y H Q=>∃l b xs zs,x=.ref l/\y=.ref b/\SqL K H l xs/\SqL K H b zs/\xs.length+zs.length<=aI/\∀p,H p=none->Q (.ref p) (upd H p (.lst (xs++zs)))
theorem sJ:OpR X (binaryOp .Add) (ym X.K):=by
 intro pins s σ H x y v u Q I rx ry h;obtain⟨l,b,xs,zs,rfl,rfl,hH,hB,hz,q⟩:=h;cases rx;cases ry;obtain⟨its,r,pl,z⟩:=I.list hH;obtain⟨its2,r2,pl2,z2⟩:=I.list hB;have l1:=r.length;have l2:=r2.length;obtain⟨⟨cls,dd,data,sl⟩,ho,hc,n,hd⟩:=pl.isList;obtain⟨⟨cls2,dd2,data2,sl2⟩,ho2,hc2,n2,hd2⟩:=pl2.isList;simp only at hc hd hc2 hd2;subst hc hd hc2 hd2;refine concat_meets ⟨_,ho,rfl⟩ ⟨_,ho2,rfl⟩ noFill_list_add seq_list_add PySem.F.slot_list_add PySem.F.entry_list_add (PySem.F.args_list_add_2 _ _) (list_addW l b its.toArray its2.toArray n n2 dd dd2 sl sl2 (by rw[aL,aL];lia)) ⟨ho,ho2,?_⟩;have ea:its.toArray++its2.toArray=(its++its2).toArray:=by simp
 rw[ea];exact⟨.ref _,_,I.lnew (t':=s.toks) (r.append r2) (by rw[List.length_append];lia),rfl,q _ I.fresh⟩
noncomputable def rOp(g:Gc)(o:O2):R2:=λx y H Q=>∃S da db,Sub S H/\zz g H S da x/\zz g H S db y /\
 match op2 o da db with
 | .ok d=>∀v H',qg H H'->Rep g (hid H' S) d v->(og da=true->Fr g H S H' d v)->Q v H'
 |_=>False
theorem iI{o:O2}(ho:o≠.add)(hm:o≠.mul){da db d:D}(h:op2 o da db=.ok d):∃i j,da=.int i/\db=.int j/\opI o i j=.ok d:=by
 unfold op2 at h;split at h
 ·exact⟨_,_,rfl,rfl,h⟩
 ·rw[if_neg (λz=>ho z.1)]at h;cases h
 ·rw[if_neg (λz=>ho z.1)]at h;cases h
 ·rw[if_neg (λz=>ho z.1)]at h;cases h
 ·cases h
theorem mV{j:Int}(h:small j=true):-(2^64)<j/\j<2^64:=by simpa[small]using h
theorem fR{n:Nat}(h:n<=SZ):n<=sizeLine:=aX h (by rw[bp];decide)
theorem log2_small{j:Int}(h1:0<j)(h2:j<1000000000000000000000000000000):j.natAbs.log2<9000:=by
 have h3:j.natAbs<2^100:=by
  have:(2:Nat)^100=1267650600228229401496703205376:=by decide +kernel
  rw[this];lia
 have:=(Nat.log2_lt (n:=j.natAbs) (k:=100) (by lia)).mpr h3;lia
theorem x_:OpR X (binaryOp .FloorDiv) (rI (λ_ j=>0<j/\j<1000000000000000000000000000000) λi j=>.int (i/j)):=L2.opI λi j _ _ _ _ _ hc q=>by
 have h1:(0:Int)<j:=hc.1;exact floordiv_int (by lia) (by rw[Int.fdiv_eq_ediv_of_nonneg i (by lia)];exact q) (.inl (PyProof.noPylong_of_log2 (log2_small hc.1 hc.2)))
theorem Af(hK:X.K=g.K){op:Operator}{o:O2}(h:o2 op=some o):OpR X (binaryOp op) (rOp g o):=by
 have two:∀{f:ae->ae->Sem ae}{C:Int->Int->Prop}{q:Int->Int->Int} (o:O2),OpR X f (rI C λi j=>.int (q i j))->(∀da db d,op2 o da db=.ok d->∃i j,da=.int i/\db=.int j/\C i j/\d=.int (q i j))->OpR X f (rOp g o):=λo k e=>by
  refine OpR.imp k λx y H Q ⟨S,da,db,hs,ra,rb,m⟩=>?_
  cases e1:op2 o da db with
  |ok d=>
   rw[e1]at m;obtain⟨i,j,rfl,rfl,c,rfl⟩:=e da db d e1;exact⟨i,j,ra.int,rb.int,c,m _ _ (qg.refl _) (.int _) (λz=>nomatch z)⟩
  |ex c=>rw[e1]at m;exact m.elim
  |no=>rw[e1]at m;exact m.elim
 have two0:∀{f:ae->ae->Sem ae}{q:Int->Int->Int} (o:O2),OpR X f (rI0 λi j=>.int (q i j))->(∀da db d,op2 o da db=.ok d->∃i j,da=.int i/\db=.int j/\d=.int (q i j))->OpR X f (rOp g o):=λ{f q} o k e=>
  two (C:=λ_ _=>True) (q:=q) o (OpR.imp k λx y H Q ⟨i,j,h1,h2,_,h3⟩=>⟨i,j,h1,h2,h3⟩) λda db d h=>by
   obtain⟨i,j,h1,h2,h3⟩:=e da db d h;exact⟨i,j,h1,h2,trivial,h3⟩
 cases op<;>simp only[o2,bJ]at h<;>first|subst h|cases h
 ·-- Add
  refine OpR.imp (Dm.or (uX.or (sJ.or rG))) λx y H Q ⟨S,da,db,hs,ra,rb,m⟩=>?_
  cases da with
  |int i=>
   cases db with
   |int j=>exact .inl ⟨i,j,ra.int,rb.int,m _ _ (qg.refl _) (.int _) (λz=>nomatch z)⟩
   |_=>exact m.elim
  |tup xs=>
   cases db with
   |tup ys=>
    simp only[op2,true_and]at m;split at m
    ·rename_i e
     split at e<;>cases e
     rename_i hz
     obtain⟨a,vs,rfl,h1,r1⟩:=ra.tup;obtain⟨b,us,rfl,h2,r2⟩:=rb.tup;refine .inr (.inl ⟨a,b,vs,us,rfl,rfl,by rw[hK];exact h1,by rw[hK];exact h2,by rw[<-r1.length,<-r2.length];exact fR hz,λe=>?_,λ_ e=>?_,λ_ _ p hp=>?_⟩)
     ·subst e;cases r1;exact m _ _ (qg.refl _) (rb.strong (by intro _ z;cases z)) (λz=>nomatch z)
     ·subst e;cases r2;rw[List.append_nil]at m;exact m _ _ (qg.refl _) (ra.strong (by intro _ z;cases z)) (λz=>nomatch z)
     ·exact m _ _ (zo hp) (eY hs hp (r1.append r2)) (λz=>nomatch z)
    ·exact m.elim
   |_=>exact m.elim
  |lst xs=>
   cases db with
   |lst ys=>
    simp only[op2,true_and]at m;split at m
    ·rename_i e
     split at e<;>cases e
     rename_i hz
     obtain⟨a,vs,rfl,h1,r1⟩:=ra.lst;obtain⟨b,us,rfl,h2,r2⟩:=rb.lst;refine .inr (.inr (.inl ⟨a,b,vs,us,rfl,rfl,by rw[hK];exact h1,by rw[hK];exact h2,by rw[<-r1.length,<-r2.length];exact fR hz,λp hp=>?_⟩));exact m _ _ (zo hp) (eZ hs hp (r1.append r2)) (λ_=>iW (qg.refl _) hp (r1.append r2))
    ·exact m.elim
   |_=>exact m.elim
  |str i=>
   cases db with
   |str j=>
    simp only[op2,true_and]at m;split at m
    ·rename_i e
     split at e<;>cases e
     rename_i hz
     have hx:x=.str i:=by cases ra.rep;rfl
     have hy:y=.str j:=by cases rb.rep;rfl
     exact .inr (.inr (.inr ⟨i,j,hx,hy,fR hz,m _ _ (qg.refl _) (.str _) (λz=>nomatch z)⟩))
    ·exact m.elim
   |_=>exact m.elim
  |_=>exact m.elim
 ·exact two0 .sub CA λda db d h=>by obtain⟨i,j,rfl,rfl,h'⟩:=iI (by decide) (by decide) h;clear h;rename _=>h;cases h;exact⟨_,_,rfl,rfl,rfl⟩
 ·refine OpR.imp Bv λx y H Q ⟨S,da,db,hs,ra,rb,m⟩=>?_
  cases e1:op2 .mul da db with
  |ok d=>
   rw[e1]at m;unfold op2 at e1;split at e1
   ·simp only[opI]at e1;split at e1
    ·rename_i i j hc
     cases e1;refine⟨i,j,ra.int,rb.int,?_,m _ _ (qg.refl _) (.int _) (λz=>nomatch z)⟩;rcases(by simpa using hc)with z|z
     ·exact .inl (mV z)
     ·exact .inr (mV z)
    ·cases e1
   ·rw[if_neg (λz=>nomatch z.1)]at e1;cases e1
   ·rw[if_neg (λz=>nomatch z.1)]at e1;cases e1
   ·rw[if_neg (λz=>nomatch z.1)]at e1;cases e1
   ·cases e1
  |ex c=>rw[e1]at m;exact m.elim
  |no=>rw[e1]at m;exact m.elim
 ·exact two .mod wB λda db d h=>by obtain⟨i,j,rfl,rfl,h'⟩:=iI (by decide) (by decide) h;clear h;rename _=>h;simp only[opI]at h;split at h<;>cases h;rename_i hc;exact⟨_,_,rfl,rfl,hc,rfl⟩
 ·exact two .pow vS λda db d h=>by obtain⟨i,j,rfl,rfl,h'⟩:=iI (by decide) (by decide) h;clear h;rename _=>h;simp only[opI]at h;split at h<;>cases h;rename_i hc;exact⟨_,_,rfl,rfl,hc,rfl⟩
 ·exact two .shr sS λda db d h=>by obtain⟨i,j,rfl,rfl,h'⟩:=iI (by decide) (by decide) h;clear h;rename _=>h;simp only[opI]at h;split at h<;>cases h;rename_i hc;exact⟨_,_,rfl,rfl,hc,rfl⟩
 ·exact two .fdiv x_ λda db d h=>by obtain⟨i,j,rfl,rfl,h'⟩:=iI (by decide) (by decide) h;clear h;rename _=>h;simp only[opI]at h;split at h<;>cases h;rename_i hc;exact⟨_,_,rfl,rfl,hc,rfl⟩
theorem jv(hK:X.K=g.K){pins:List (Addr×Obj)}{σ:L2.St}{H:Hp}{s:af}(I:Inv X pins σ H s){d:D}{v:V}{u:ae}(r:Rep g H d v)(a:d.asks=true)(ru:RelV v u):∃as,Reads s.heap u d.py as/\d.py.canLay0=true/\d.py.depth<=20:=by
 obtain⟨h1,h2⟩:=gQ.mp a;have h:=r.data h1;rw[<-hK]at h;obtain⟨as,q⟩:=I.reads h ru;exact⟨as,q,rK h1,by rw[o7];exact h2⟩
theorem mJ:∀(a b:List Int),eF a b=HT.lexLt a b
 | [],[]=>by simp[eF,HT.lexLt]
 | [],_::_=>by simp[eF,HT.lexLt]
 |_::_,[]=>by simp[eF,HT.lexLt]
 |a::r,b::t=>by
  simp only[eF,HT.lexLt];rw[mJ r t]
  try (by_cases h:a=b<;>simp[h])
noncomputable def rCm(g:Gc)(c:C2):R2:=λx y H Q=>∃S da db,zz g H S da x/\zz g H S db y /\
 match qh c da db with
 | .ok b=>Q (.bl b) H
 |_=>False
open Classical in
noncomputable def dZ(h:Heap)(q:PyData)(u:ae):Bool:=if e:∃d as,Reads h u d as then PyData.eqv e.choose q else false
theorem mE{h:Heap}{q d:PyData}{u:ae}{as:List Addr}(r:Reads h u d as):dZ h q u=PyData.eqv d q:=by
 have e:∃d as,Reads h u d as:=⟨d,as,r⟩
 unfold dZ;rw[dif_pos e];obtain⟨bs,r'⟩:=e.choose_spec;rw[(PySem.Reads.unique r' d as r).1]
theorem any_eq(hK:X.K=g.K){pins:List (Addr×Obj)}{σ:L2.St}{H:Hp}{s:af}(I:Inv X pins σ H s){da:D}(ha:da.asks=true){ds:List D}:∀{vs:List V}{us:List ae},qV g H ds vs->Vals vs us->ds.all D.asks=true ->
  us.any (dZ s.heap da.py)=inD da ds/\∀u∈us,∃d as,Reads s.heap u d as/\d.canLay0=true/\d.depth<=20:=by
 induction ds with
 |nil=>intro vs us h r _;cases h;cases r;exact⟨rfl,λu h=>nomatch h⟩
 |cons d ds ih=>
  intro vs us h q e;cases h with
  |cons h r=>cases q with
   |cons q t=>
    rw[List.all_cons,aH]at e;obtain⟨as,h1,h2,h3⟩:=jv hK I h e.1 q;obtain⟨i1,i2⟩:=ih r t e.2;refine⟨?_,λu hu=>?_⟩
    ·rw[List.any_cons,i1,mE h1,lD _ _ (gQ.mp e.1).1 (gQ.mp ha).1]
     rfl
    ·rcases aG.mp hu with rfl|hu
     ·exact⟨_,as,h1,h2,h3⟩
     ·exact i2 u hu
theorem tm{A:ax}{s:af}{u v:ae}{d:PyData}{as:List Addr}{q:PyData}{bs:List Addr}(hu:A.units+60<cLine)(r:Reads s.heap u d as)(r':Reads s.heap v q bs)(h1:d.canLay0=true)(h2:q.canLay0=true)(h3:d.depth<=20):SeqAt.EqAt A.in1 s u v (dZ s.heap q u):=by
 rw[mE r];refine SeqAt.eqAt_reads d q A.in1 s u v as bs r r' h1 h2 ?_;have:min d.depth q.depth<=d.depth:=Nat.min_le_left _ _;show A.units+1+_<_;lia
theorem oC(hK:X.K=g.K)(hu:X.A.units+64<cLine)(neg:Bool):OpR X (aW (if neg then .NotIn else .In)) (λx y H Q=>∃S da db ds,zz g H S da x/\zz g H S db y/\seq? db=some ds/\da.asks=true/\ds.all D.asks=true/\Q (.bl (if neg then !inD da ds else inD da ds)) H):=by
 intro pins s σ H x y v u Q I rx ry h;obtain⟨S,da,db,ds,ra,rb,es,aa,ad,q⟩:=h;obtain⟨as,h1,h2,h3⟩:=jv hK I ra.rep aa rx;obtain⟨a,vs,rfl,hsq,rr⟩:=rb.seq es;cases ry;have go:∀{its:List ae},Vals vs its->(∀w∈its.toArray,SeqAt.EqAt X.A.in1 s w v (dZ s.heap da.py w))/\its.toArray.any (dZ s.heap da.py)=inD da ds:=λ{its} rv=>by
  obtain⟨i1,i2⟩:=any_eq hK I aa (rr.mono zI) rv ad;refine⟨λw hw=>?_,by simpa using i1⟩;obtain⟨d,bs,r1,r2,r3⟩:=i2 w (by simpa using hw);exact tm (Nat.lt_of_le_of_lt (Nat.add_le_add_left (by decide) _) hu) r1 h1 r2 h2 r3
 rcases hsq with hsq|hsq
 ·obtain⟨its,rv,pl,_⟩:=I.list (by rw[hK];exact hsq);obtain⟨g1,g2⟩:=go rv;cases neg with
  |false=>exact SeqAt.in_listAt (dZ s.heap da.py) pl.isList g1 ⟨.bl _,H,I,rfl,by rw[g2];exact q⟩
  |true=>exact SeqAt.notIn_listAt (dZ s.heap da.py) pl.isList g1 ⟨.bl _,H,I,rfl,by rw[g2];exact q⟩
 ·obtain⟨its,rv,pl,_⟩:=I.tuple (by rw[hK];exact hsq);obtain⟨g1,g2⟩:=go rv;cases neg with
  |false=>exact SeqAt.in_tupleAt (dZ s.heap da.py) pl g1 ⟨.bl _,H,I,rfl,by rw[g2];exact q⟩
  |true=>exact SeqAt.notIn_tupleAt (dZ s.heap da.py) pl g1 ⟨.bl _,H,I,rfl,by rw[g2];exact q⟩
theorem oM(hK:X.K=g.K)(hu:X.A.units+64<cLine)(neg:Bool):OpR X (aW (if neg then .NotEq else .Eq)) (λx y H Q=>∃S da db,zz g H S da x/\zz g H S db y/\da.asks=true/\db.asks=true/\Q (.bl (if neg then !da.eqv db else da.eqv db)) H):=by
 intro pins s σ H x y v u Q I rx ry h;obtain⟨S,da,db,ra,rb,aa,ab,q⟩:=h;obtain⟨as,h1,h2,h3⟩:=jv hK I ra.rep aa rx;obtain⟨bs,k1,k2,k3⟩:=jv hK I rb.rep ab ry;have e:=lD da db (gQ.mp aa).1 (gQ.mp ab).1;have room:X.A.units+min da.py.depth db.py.depth<cLine:=by
  have:min da.py.depth db.py.depth<=da.py.depth:=Nat.min_le_left _ _;lia
 cases neg with
 |false=>exact SeqAt.compareEq_reads h1 k1 h2 k2 room ⟨.bl _,H,I,by rw[e];rfl,q⟩
 |true=>exact SeqAt.compareNe_reads h1 k1 h2 k2 room ⟨.bl _,H,I,by rw[e];rfl,q⟩
theorem zz.non_iff{S:Sh}{H:Hp}{d:D}{v:V}(r:zz g H S d v):decide (v=.non)=eQ d:=by
 cases r.rep<;>rfl
theorem dY{op:CmpOp}{c:C2}{r:R2}(h:OpR X (aW op) r)(k:∀S da db b x y H Q,zz g H S da x->zz g H S db y->qh c da db=.ok b->Q (.bl b) H->r x y H Q):OpR X (aW op) (rCm g c):=by
 refine OpR.imp h λx y H Q ⟨S,da,db,ra,rb,m⟩=>?_
 cases e:qh c da db with
 |ok b=>rw[e]at m;exact k S da db b x y H Q ra rb e m
 |ex c'=>rw[e]at m;exact m.elim
 |no=>rw[e]at m;exact m.elim
theorem vN:OpR X (aW .Is) (λx y H Q=>∃a b,x=.bl a/\y=.bl b/\Q (.bl (a==b)) H):=by
 intro pins s σ H x y v u Q I rx ry h;obtain⟨a,b,rfl,rfl,q⟩:=h;cases rx;cases ry;exact is_bool (gD I q rfl)
theorem Dq:OpR X (aW .IsNot) (λx y H Q=>∃a b,x=.bl a/\y=.bl b/\Q (.bl (!(a==b))) H):=by
 intro pins s σ H x y v u Q I rx ry h;obtain⟨a,b,rfl,rfl,q⟩:=h;cases rx;cases ry;exact isnot_bool (gD I q rfl)
theorem oh{n:Bool}{a b:EV.D}{c:Bool}(h:isB n a b=.ok c):∃x y,a=.bl x/\b=.bl y/\c=(n != (x==y)):=by
 unfold isB at h;split at h
 ·cases h;exact⟨_,_,rfl,rfl,rfl⟩
 ·cases h
theorem rM{a b:EV.D}{c:Bool}(h:dF a b=.ok c):∃i j,a=.str i/\b=.str j/\c = !(Builtin.Str.occurrences j i 0 j.length 1).isEmpty:=by
 unfold dF at h;split at h
 ·cases h;exact⟨_,_,rfl,rfl,rfl⟩
 ·cases h
theorem dy(hK:X.K=g.K)(hu:X.A.units+64<cLine)(op:CmpOp):OpR X (aW op) (rCm g (c2 op)):=by
 cases op
 ·exact dY (oM hK hu false) λS da db b x y H Q ra rb e q=>by
   simp only[c2,qh]at e;split at e<;>cases e
   rename_i a
   simp only[aH]at a;exact⟨S,da,db,ra,rb,a.1,a.2,q⟩
 ·exact dY (oM hK hu true) λS da db b x y H Q ra rb e q=>by
   simp only[c2,qh]at e;split at e<;>cases e
   rename_i a
   simp only[aH]at a;exact⟨S,da,db,ra,rb,a.1,a.2,q⟩
 ·exact dY (xX.or (DC (by lia))) λS da db b x y H Q ra rb e q=>by
   simp only[c2]at e;cases da with
   |int i=>
    cases db with
    |int j=>cases e;exact .inl ⟨i,j,ra.int,rb.int,q⟩
    |_=>cases e
   |tup xs=>
    cases db with
    |tup ys=>
     simp only[qh]at e;split at e
     ·rename_i ns ms e1 e2
      cases e;obtain⟨a,vs,rfl,h1,r1⟩:=ra.tup;obtain⟨b,us,rfl,h2,r2⟩:=rb.tup;obtain⟨rfl,_⟩:=r1.ints e1;obtain⟨rfl,_⟩:=r2.ints e2;exact .inr ⟨a,b,ns,ms,rfl,rfl,by rw[hK];exact h1,by rw[hK];exact h2,mJ ns ms▸q⟩
     ·cases e
    |_=>cases e
   |_=>cases db<;>cases e
 ·exact dY uk λS da db b x y H Q ra rb e q=>by
   cases da with
   |int i=>
    cases db with
    |int j=>cases e;exact⟨_,_,ra.int,rb.int,q⟩
    |_=>cases e
   |_=>cases e
 ·exact dY Bo λS da db b x y H Q ra rb e q=>by
   cases da with
   |int i=>
    cases db with
    |int j=>cases e;exact⟨_,_,ra.int,rb.int,q⟩
    |_=>cases e
   |_=>cases e
 ·exact dY tw λS da db b x y H Q ra rb e q=>by
   cases da with
   |int i=>
    cases db with
    |int j=>cases e;exact⟨_,_,ra.int,rb.int,q⟩
    |_=>cases e
   |_=>cases e
 ·exact dY (vi.or vN) λS da db b x y H Q ra rb e q=>by
   simp only[c2,qh]at e;split at e
   ·rename_i hd
    cases e;have hd:db=.non:=by cases db<;>first|rfl|cases hd
    subst hd;cases rb.rep;exact .inl ⟨rfl,by rw[ra.non_iff];exact q⟩
   ·obtain⟨a,c,rfl,rfl,rfl⟩:=oh e;cases ra.rep;cases rb.rep;exact .inr ⟨a,c,rfl,rfl,by cases a<;>cases c<;>exact q⟩
 ·exact dY (Bp.or Dq) λS da db b x y H Q ra rb e q=>by
   simp only[c2,qh]at e;split at e
   ·rename_i hd
    cases e;have hd:db=.non:=by cases db<;>first|rfl|cases hd
    subst hd;cases rb.rep;exact .inl ⟨rfl,by rw[ra.non_iff];exact q⟩
   ·obtain⟨a,c,rfl,rfl,rfl⟩:=oh e;cases ra.rep;cases rb.rep;exact .inr ⟨a,c,rfl,rfl,by cases a<;>cases c<;>exact q⟩
 ·exact dY ((oC hK hu false).or sE) λS da db b x y H Q ra rb e q=>by
   simp only[c2,qh]at e;split at e
   ·rename_i xs es
    split at e<;>cases e
    rename_i a
    simp only[aH]at a;exact .inl ⟨S,da,db,xs,ra,rb,es,a.1,a.2,q⟩
   ·obtain⟨i,j,rfl,rfl,rfl⟩:=rM e;cases ra.rep;cases rb.rep;exact .inr ⟨i,j,rfl,rfl,q⟩
 ·exact dY ((oC hK hu true).or wc) λS da db b x y H Q ra rb e q=>by
   simp only[c2,qh]at e;split at e
   ·rename_i xs es
    split at e<;>cases e
    rename_i a
    simp only[aH]at a;exact .inl ⟨S,da,db,xs,ra,rb,es,a.1,a.2,q⟩
   ·cases z:dF da db with
    |ok r=>
     rw[z]at e;cases e;obtain⟨i,j,rfl,rfl,rfl⟩:=rM z;cases ra.rep;cases rb.rep;exact .inr ⟨i,j,rfl,rfl,q⟩
    |ex k=>rw[z]at e;cases e
    |no=>rw[z]at e;cases e
end
abbrev eD(g:Gc)(H:Hp)(S:Sh):List D->List V->Prop:=Paired (zz g H S)
section
variable{X:Cx}{g:Gc}
theorem mM{H:Hp}{ds:List D}{vs:List V}{i:Int}{d:D}(r:qV g H ds vs)(e:atI ds i=some d):∃v,atI vs i=some v/\Rep g H d v:=by
 unfold atI at e ⊢;rw[<-r.length];cases q:ixN ds.length i with
 |none=>rw[q]at e;cases e
 |some j=>rw[q]at e;exact r.get e
noncomputable def BU(g:Gc):R2:=λx y H Q=>∃S da db,zz g H S da x/\zz g H S db y /\
 match ixD da db with
 | .ok d=>∀v,Rep g (hid H S) d v->Q v H
 |_=>False
theorem sh(hK:X.K=g.K):IxR X (BU g):=by
 have k:IxR X (λx y H Q=>ni X.K x y H Q\/(pj X.K x y H Q\/rg x y H Q)):=Dt.or (Cg.or uK);intro value slice pins s σ H x y v u Q I rx ry h hs;refine k value slice pins s σ H x y v u Q I rx ry ?_ hs;obtain⟨S,da,db,ra,rb,m⟩:=h;cases da with
 |tup xs=>
  cases db with
  |int i=>
   simp only[ixD]at m;cases e:atI xs i with
   |none=>rw[e]at m;exact m.elim
   |some d=>
    rw[e]at m;obtain⟨a,vs,rfl,h1,r1⟩:=ra.tup;obtain⟨w,h2,h3⟩:=mM r1 e;exact .inr (.inl ⟨a,vs,i,w,rfl,rb.int,by rw[hK];exact h1,h2,m w h3⟩)
  |_=>exact m.elim
 |str z=>
  cases db with
  |int i=>
   simp only[ixD]at m;by_cases hz:z.length<=SZ
   ·rw[if_pos hz]at m;cases e:atI z.cps.toList i with
    |none=>rw[e]at m;exact m.elim
    |some c=>
     rw[e]at m;cases ra.rep;exact .inr (.inr ⟨z,i,c,rfl,rb.int,fR hz,e,m _ (.str _)⟩)
   ·rw[if_neg hz]at m;exact m.elim
  |_=>exact m.elim
 |lst xs=>
  cases db with
  |int i=>
   simp only[ixD]at m;cases e:atI xs i with
   |none=>rw[e]at m;exact m.elim
   |some d=>
    rw[e]at m;obtain⟨a,vs,rfl,h1,r1⟩:=ra.lst;obtain⟨w,h2,h3⟩:=mM r1 e;exact .inl ⟨a,vs,i,w,rfl,rb.int,by rw[hK];exact h1,h2,m w h3⟩
  |_=>exact m.elim
 |_=>exact m.elim
noncomputable def yd(g:Gc):V->Option Int->Option Int->Hp->VK->Prop:=λx lo hi H Q=>∃S da,Sub S H/\zz g H S da x /\
 match slD da lo hi with
 | .ok d=>∀v H',qg H H'->Rep g (hid H' S) d v->Q v H'
 |_=>False
theorem mT{H:Hp}{ds:List D}{vs:List V}(r:qV g H ds vs)(lo hi:Option Int):qV g H (cutD ds lo hi) (eR vs lo hi):=by
 unfold cutD eR;rw[r.length];exact(r.drop _).take _
theorem uv(hK:X.K=g.K):SlR X (yd g):=by
 intro pins s σ H x v vl vu lo hi sl Q I rx hs pl pu h;obtain⟨S,da,hS,ra,m⟩:=h;cases da with
 |lst xs=>
  obtain⟨a,vs,rfl,h1,r1⟩:=ra.lst;exact vV pins s σ H _ v vl vu lo hi sl Q I rx hs pl pu ⟨a,vs,rfl,by rw[hK];exact h1,λp hp=>m _ _ (zo hp) (eZ hS hp (mT r1 lo hi))⟩
 |tup xs=>
  obtain⟨a,vs,rfl,h1,r1⟩:=ra.tup;simp only[slD]at m;by_cases hw:HT.sIx xs.length 0 lo=0/\HT.sIx xs.length xs.length hi=xs.length
  ·have e:cutD xs lo hi=xs:=by unfold cutD;rw[hw.1,hw.2];simp
   rw[e]at m;rw[r1.length]at hw;exact Cz pins s σ H _ v vl vu lo hi sl Q I rx hs pl pu ⟨a,vs,rfl,by rw[hK];exact h1,hw.1,hw.2,m _ _ (qg.refl _) (ra.strong (by intro _ z;cases z))⟩
  ·rw[r1.length]at hw;exact sZ pins s σ H _ v vl vu lo hi sl Q I rx hs pl pu ⟨a,vs,rfl,by rw[hK];exact h1,hw,λp hp=>m _ _ (zo hp) (eY hS hp (mT r1 lo hi))⟩
 |str z=>
  simp only[slD]at m;by_cases hz:(zq z lo hi).length<=SZ
  ·rw[if_pos hz]at m;have hx:x=.str z:=by cases ra.rep;rfl
   exact jZ pins s σ H _ v vl vu lo hi sl Q I rx hs pl pu ⟨z,hx,fR hz,m _ _ (qg.refl _) (.str _)⟩
  ·rw[if_neg hz]at m;exact m.elim
 |_=>exact m.elim
noncomputable def b1V:B1->ae
 | .len=>.builtin "len"
 | .tuple=>.type "tuple"
 | .list=>.type "list"
 | .sorted=>.builtin "sorted"
 | .all=>.builtin "all"
 | .any=>.builtin "any"
 | .sum=>.builtin "sum"
 | .min=>.builtin "min"
 | .max=>.builtin "max"
 | .abs=>.builtin "abs"
 | .int=>.type "int"
 | .bool=>.type "bool"
noncomputable def rB1(g:Gc)(b:B1):List V->Hp->VK->Prop:=λvs H Q=>∃S ds,Sub S H/\eD g H S ds vs /\
 match b1 b ds with
 | .ok d=>∀v H',qg H H'->Rep g (hid H' S) d v->(b=.list\/b=.sorted->Fr g H S H' d v)->Q v H'
 |_=>False
theorem zm.imp{f:ae}{r r':List V->Hp->VK->Prop}(h:zm X f r)(i:∀xs H Q,r' xs H Q->r xs H Q):zm X f r':=
 λpins s σ H xs us Q I rv q=>h pins s σ H xs us Q I rv (i _ _ _ q)
theorem fb{f:ae}{b:B1}{r:List V->Hp->VK->Prop}(h:zm X f r)
  (k:∀S ds d vs H Q,Sub S H->eD g H S ds vs->b1 b ds=.ok d->(∀v H',qg H H'->Rep g (hid H' S) d v->(b=.list\/b=.sorted->Fr g H S H' d v)->Q v H')->r vs H Q):zm X f (rB1 g b):=by
 refine zm.imp h λvs H Q ⟨S,ds,hs,rs,m⟩=>?_
 cases e:b1 b ds with
 |ok d=>rw[e]at m;exact k S ds d vs H Q hs rs e m
 |ex c=>rw[e]at m;exact m.elim
 |no=>rw[e]at m;exact m.elim
theorem kA{f:ae}{b:B1}(h1:∀d,b11 b d=.no)(h2:∀d e,b12 b d e=.no):zm X f (rB1 g b):=λpins s σ H xs us Q I rv ⟨S,ds,hs,rs,m⟩=>by
 have e:b1 b ds=.no:=by
  unfold b1;split
  ·exact h1 _
  ·exact h2 _ _
  ·rfl
 rw[e]at m;exact m.elim
theorem ip{b:B1}(hb:∀x y,b12 b x y=.no){ds:List D}{d:D}(h:b1 b ds=.ok d):∃x,ds=[x]/\b11 b x=.ok d:=by
 match ds,h with
 | [x],h=>exact⟨x,rfl,h⟩
 | [x,y],h=>have h:b12 b x y=.ok d:=h;rw[hb]at h;cases h
 | [],h=>cases h
 |_::_::_::_,h=>cases h
theorem jw{x r:D}{k:List D->R D}(h:cV x k=.ok r):∃xs,x=.lst xs/\k xs=.ok r:=by
 cases x with
 |lst xs=>exact⟨xs,rfl,h⟩
 |_=>cases h
theorem xm{x r:D}{f:Int->R D}{q:Bool->R D}(h:ibR x f q=.ok r):(∃i,x=.int i/\f i=.ok r)\/(∃b,x=.bl b/\q b=.ok r):=by
 cases x with
 |int i=>exact .inl ⟨i,rfl,h⟩
 |bl i=>exact .inr ⟨i,rfl,h⟩
 |_=>cases h
theorem pC{x y r:D}{k:Int->Int->R D}(h:iiR x y k=.ok r):∃i j,x=.int i/\y=.int j/\k i j=.ok r:=by
 cases x with
 |int i=>
  cases y with
  |int j=>exact⟨i,j,rfl,rfl,h⟩
  |_=>cases h
 |_=>cases h
theorem iH{α β:Type}{o:Option α}{k:α->R β}{r:β}(h:zO o k=.ok r):∃a,o=some a/\k a=.ok r:=by
 cases o with
 |some a=>exact⟨a,rfl,h⟩
 |none=>cases h
theorem rD{b:B1}{ds:List D}{d:D}{q:List D->R D}(h:b1 b ds=.ok d)(e:∀x,b1 b [x]=zO (seq? x) q)(n:ds.length≠1->b1 b ds=.no):∃x xs,ds=[x]/\seq? x=some xs/\q xs=.ok d:=by
 match ds with
 | []=>rw[n (by simp)]at h;cases h
 | [x]=>
  rw[e]at h;cases z:seq? x with
  |none=>rw[z]at h;cases h
  |some xs=>rw[z]at h;exact⟨x,xs,rfl,z,h⟩
 |x::y::r=>rw[n (by simp)]at h;cases h
theorem wy(hK:X.K=g.K):zm X (.builtin "len") (rB1 g .len):=fb (CI.or Bu) λS ds d vs H Q hs rs h q=>by
 obtain⟨x,rfl,h'⟩:=ip (λ_ _=>rfl) h;cases rs with
 |cons r rs=>
  cases rs;by_cases hx:∃z,x=.str z
  ·obtain⟨z,rfl⟩:=hx;have h':(if z.length<=SZ then R.ok (D.int z.length)else .no)=R.ok d:=h';split at h'
   ·rename_i hz
    cases h';cases r.rep;exact .inr ⟨z,rfl,fR hz,q _ _ (qg.refl _) (.int _) (by simp)⟩
   ·cases h'
  ·have h':(zO (seq? x) λxs=>R.ok (D.int xs.length))=R.ok d:=by cases x<;>first|exact absurd ⟨_,rfl⟩ hx|exact h'
   obtain⟨xs,e,h2⟩:=iH h';cases h2;obtain⟨a,us,rfl,h1,r1⟩:=r.seq e;exact .inl ⟨a,us,rfl,by rw[hK];exact h1,by rw[<-r1.length];exact q _ _ (qg.refl _) (.int _) (by simp)⟩
theorem DD(hK:X.K=g.K):zm X (.type "tuple") (rB1 g .tuple):=fb vD λS ds d vs H Q hs rs h q=>by
 obtain⟨x,xs,rfl,e,h⟩:=rD (q:=λxs=>.ok (.tup xs)) h (λ_=>rfl) (λn=>by match ds,n with | [],_=>rfl | [_,_],_=>rfl|_::_::_::_,_=>rfl);cases h;cases rs with
 |cons r rs=>
  cases rs;cases x with
  |lst ys=>
   cases e;obtain⟨a,us,rfl,h1,r1⟩:=r.lst;exact⟨a,us,rfl,.inl ⟨by rw[hK];exact h1,λp hp=>q _ _ (zo hp) (eY hs hp r1) (by simp)⟩⟩
  |tup ys=>
   cases e;have z:=r.strong (by intro _ z;cases z);obtain⟨a,us,rfl,h1,r1⟩:=r.tup;exact⟨a,us,rfl,.inr ⟨by rw[hK];exact h1,q _ _ (qg.refl _) z (by simp)⟩⟩
  |_=>cases e
theorem vt(hK:X.K=g.K):zm X (.type "list") (rB1 g .list):=fb tJ λS ds d vs H Q hs rs h q=>by
 obtain⟨x,xs,rfl,e,h⟩:=rD (q:=λxs=>.ok (.lst xs)) h (λ_=>rfl) (λn=>by match ds,n with | [],_=>rfl | [_,_],_=>rfl|_::_::_::_,_=>rfl);cases h;cases rs with
 |cons r rs=>
  cases rs;obtain⟨a,us,rfl,h1,r1⟩:=r.seq e;exact⟨a,us,rfl,by rw[hK];exact h1,λp hp=>q _ _ (zo hp) (eZ hs hp r1) λ_=>iW (qg.refl _) hp r1⟩
theorem y7(hc:X.calm=true)(al:Bool):zm X (.builtin (if al then "all" else "any")) (λxs H Q=>∃(l:Addr) (bs:List Bool),xs=[.ref l]/\SqL X.K H l (bs.map V.bl)/\Q (.bl (if al then bs.all id else bs.any id)) H):=by
 intro pins s σ H xs us Q I r h;obtain⟨l,bs,rfl,hl,q⟩:=h;obtain⟨u,rfl,ru⟩:=r.one;cases ru;obtain⟨its,rv,pl,hz⟩:=I.list hl;have e:=kF (A:=X.A) rv;subst e;have hlt:l<s.heap.objs.size:=by obtain⟨_,e,_⟩:=pl.isList;exact aF e
 have tr:TruthOf X.prog X.w X.A.in1 (λi v=>(bs.map bu).toArray[i]? = some v) (λi=>(bs[i]?).getD al):=λi v s' Q' E' hP hQ=>by
  have hv:(bs.map bu)[i]? = some v:=by simpa using hP
  rw[List.getElem?_map]at hv;cases e:bs[i]? with
  |none=>rw[e]at hv;cases hv
  |some b=>
   rw[e]at hv;cases hv;simp only[e,Option.getD_some]at hQ;exact bB hQ
 have wk:=Walks.list (prog:=X.prog) (w:=X.w) (A:=X.A.in1) (I.ok.hd hc) s.heap.objs.size l (aU hlt) (bs.map bu).toArray;cases al with
 |true=>
  refine call_all_walk (wpAny_pyIter_list pl.isList ?_);refine⟨s.heap.objs.size,[s.heap.objs.size,l],[s.heap.objs.size],_,_,_,_,rfl,wk,⟨⟨_,Heap.get?_push_size _ rfl,rfl,rfl⟩,pl.isList.push _⟩,tr,λh' tk hk=>?_⟩;have e:((aR (bs.map bu).toArray.size).all λi=>(bs[i]?).getD true)=bs.all id:=by
   rw[aL,aV];exact LSm.range_all bs
  rw[e];exact⟨.bl _,H,I.kept (LSm.kept_iter hk),rfl,q⟩
 |false=>
  refine call_any_walk (wpAny_pyIter_list pl.isList ?_);refine⟨s.heap.objs.size,[s.heap.objs.size,l],[s.heap.objs.size],_,_,_,_,rfl,wk,⟨⟨_,Heap.get?_push_size _ rfl,rfl,rfl⟩,pl.isList.push _⟩,tr,λh' tk hk=>?_⟩;have e:((aR (bs.map bu).toArray.size).any λi=>(bs[i]?).getD false)=bs.any id:=by
   rw[aL,aV,Bool.eq_iff_iff];simp only[List.any_eq_true,List.mem_range,id];constructor
   ·rintro⟨i,hi,e⟩;rw[List.getElem?_eq_getElem hi]at e;exact⟨_,cN hi,e⟩
   ·rintro⟨b,hb,e⟩;obtain⟨i,hi,rfl⟩:=List.getElem_of_mem hb;exact⟨i,hi,by rw[List.getElem?_eq_getElem hi];exact e⟩
  rw[e];exact⟨.bl _,H,I.kept (LSm.kept_iter hk),rfl,q⟩
theorem nq(hK:X.K=g.K)(hc:X.calm=true)(al:Bool):zm X (.builtin (if al then "all" else "any")) (rB1 g (if al then .all else .any)):=fb (y7 hc al) λS ds d vs H Q hs rs h q=>by
 obtain⟨xs,bs,rfl,e,rfl⟩:∃xs bs,ds=[.lst xs]/\bools? xs=some bs/\d=.bl (if al then bs.all id else bs.any id):=by
  cases al
  ·obtain⟨x,rfl,h'⟩:=ip (λ_ _=>rfl) h;obtain⟨xs,rfl,h'⟩:=jw h';obtain⟨bs,e,h'⟩:=iH h';cases h';exact⟨xs,bs,rfl,e,rfl⟩
  ·obtain⟨x,rfl,h'⟩:=ip (λ_ _=>rfl) h;obtain⟨xs,rfl,h'⟩:=jw h';obtain⟨bs,e,h'⟩:=iH h';cases h';exact⟨xs,bs,rfl,e,rfl⟩
 cases rs with
 |cons r rs=>
  cases rs;obtain⟨a,us,rfl,h1,r1⟩:=r.lst;have e2:=r1.bools e;subst e2;exact⟨a,bs,rfl,by rw[hK];exact h1,q _ _ (qg.refl _) (.bl _) (by cases al<;>simp)⟩
end
end EV
namespace TS
open PySem PyProof.Rows
structure Cmp(prog:ay)(w:au)(A:ax)(s:af)(κ:SortKind)(D:aC->Prop)(LT:aC->aC->Bool):Prop where
 lt:∀x y,D x->D y->∀Q:Bool->af->Prop,Q (LT x y) s->aj (ak prog w) A (keyLt' κ x.1 y.1) Q (λ_ _=>False) s
 asym:∀x y,LT x y=true->LT y x=false
 neg:∀x y z,LT y x=false->LT z y=false->LT z x=false
section
variable{prog:ay}{w:au}{A:ax}{E:ae->af->Prop}{s:af}{κ:SortKind}{D:aC->Prop}{LT:aC->aC->Bool}
end
section
variable{LT:aC->aC->Bool}
abbrev df:Keyed:=(bA,bA)
noncomputable def at'(a:Array aC)(i:Nat):Keyed:=a.getD i df
variable{a b out:Array aC}{ia ib:Nat}
end
section
variable{prog:ay}{w:au}{A:ax}{E:ae->af->Prop}{s:af}{κ:SortKind}{D:aC->Prop}{LT:aC->aC->Bool}
end
section
variable{LT:aC->aC->Bool}
variable{a b out:Array aC}{na nb:Nat}
end
section
variable{prog:ay}{w:au}{A:ax}{E:ae->af->Prop}{s:af}{κ:SortKind}{D:aC->Prop}{LT:aC->aC->Bool}
end
structure SB(κ:SortKind)(p:Array (Nat×Nat×Nat))(a₁:Array aC)(lo:Nat)(st:SortSt):Prop where
 kd:kindOf st=κ
 fl:failedOf st=none
 pn:pendingOf st=p
 pm:(arrOf st).Perm a₁
 lw:∀i,i<lo->at' (arrOf st) i=at' a₁ i
noncomputable def Kr(R:aC->Int)(xs:Array aC)(i:Nat):Int:=R (at' xs i)
noncomputable def Seg(R:aC->Int)(xs:Array aC)(lo n:Nat):Prop:=∀i j,i<=j->j<n->Kr R xs (lo+i)<=Kr R xs (lo+j)
noncomputable def Dsc(R:aC->Int)(xs:Array aC)(lo n:Nat):Prop:=∀i j,i<=j->j<n->Kr R xs (lo+j)<=Kr R xs (lo+i)
section
variable{prog:ay}{w:au}{A:ax}{E:ae->af->Prop}{s:af}{κ:SortKind}{D:aC->Prop}{LT:aC->aC->Bool}{R:aC->Int}{p:Array (Nat×Nat×Nat)}{a₁:Array aC}{lo:Nat}
theorem SB.size{st:SortSt}(h:SB κ p a₁ lo st):(arrOf st).size=a₁.size:=h.pm.size_eq
end
section
variable{prog:ay}{w:au}{A:ax}{E:ae->af->Prop}{s:af}{κ:SortKind}{D:aC->Prop}{LT:aC->aC->Bool}{R:aC->Int}{p:Array (Nat×Nat×Nat)}{a₁:Array aC}{lo:Nat}{xs:Array aC}
theorem Seg.one:Seg R xs lo 1:=λi j a b=>by rw[show i=j by lia];exact Int.le_refl _
theorem Dsc.one:Dsc R xs lo 1:=λi j a b=>by rw[show i=j by lia];exact Int.le_refl _
noncomputable def Flat(R:aC->Int)(xs:Array aC)(lo m neq:Nat):Prop:=∀i,lo+m-(neq+1)<=i->i<lo+m->Kr R xs i=Kr R xs (lo+m-1)
theorem Flat.zero{m:Nat}:Flat R xs lo m 0:=λi a b=>by rw[show i=lo+m-1 by lia]
end
section
variable{prog:ay}{w:au}{A:ax}{E:ae->af->Prop}{s:af}{κ:SortKind}{D:aC->Prop}{LT:aC->aC->Bool}{R:aC->Int}
end
section
variable{prog:ay}{w:au}{A:ax}{E:ae->af->Prop}{s:af}{κ:SortKind}{D:aC->Prop}{LT:aC->aC->Bool}{R:aC->Int}
end
noncomputable def pr(x:Nat×Nat×Nat):Nat×Nat:=(x.1,x.2.1)
noncomputable def Runs(R:aC->Int)(a:Array aC):Nat->List (Nat×Nat)->Nat->Prop
 |b,[],e=>b=e
 |b,x::l,e=>x.1=b/\1<=x.2/\Seg R a b x.2/\Runs R a (b+x.2) l e
section
variable{R:aC->Int}{a a':Array aC}
end
structure SR(κ:SortKind)(R:aC->Int)(a₁:Array aC)(lo:Nat)(st:SortSt):Prop where
 kd:kindOf st=κ
 fl:failedOf st=none
 pm:(arrOf st).Perm a₁
 rn:Runs R (arrOf st) 0 ((pendingOf st).toList.map pr) lo
 le:lo<=a₁.size
section
variable{prog:ay}{w:au}{A:ax}{E:ae->af->Prop}{s:af}{κ:SortKind}{D:aC->Prop}{LT:aC->aC->Bool}{R:aC->Int}{a₁:Array aC}{lo:Nat}
theorem SR.sz{st:SortSt}(h:SR κ R a₁ lo st):(arrOf st).size=a₁.size:=h.pm.size_eq
end
section
variable{prog:ay}{w:au}{A:ax}{E:ae->af->Prop}{s:af}{κ:SortKind}{D:aC->Prop}{LT:aC->aC->Bool}{R:aC->Int}{a₁:Array aC}{lo:Nat}
end
section
variable{prog:ay}{w:au}{A:ax}{E:ae->af->Prop}{s:af}
end
end TS
namespace TS
open PySem PySem.W PyProof.Rows
section
variable{M:Model}{A:ax}{E:ae->af->Prop}{s:af}
end
section
variable{M:Model}{A:ax}{E:ae->af->Prop}{s:af}
end
section
variable{prog:ay}{w:au}{A:ax}{E:ae->af->Prop}{s:af}
end
end TS
namespace L2
open PySem PySem.Spec PyProof.Rows TS
end L2
namespace L2
open PySem PySem.Spec PyProof.Rows
section
variable{X:Cx}
theorem nz{A:ax}{s:af}{bs:List Bool}{prog:ay}:∀y∈(bs.map bu).toArray,SeqAt.EqAt A s y (.bool true) (y==.bool true):=by
 intro y hy;have hy':y∈bs.map ae.bool:=by simpa using hy
 obtain⟨b,_,rfl⟩:=aQ.mp hy';have:=SeqAt.EqAt.bool_bool (A:=A) (s:=s) b true;have e2:(bu b==bu true)=(b==true):=by cases b<;>decide
 rw[e2];exact this
noncomputable def xO(K:av):V->List V->Hp->VK->Prop:=λx vs H Q=>∃(l:Addr) (bs:List Bool),x=.ref l/\vs=[.bl true]/\SqL K H l (bs.map V.bl)/\Q (.int ((bs.countP id:Nat):Int)) H
theorem AX:MtM X "list.count" (xO X.K):=by
 intro pins s σ H x vs v us Q I rx rv h;obtain⟨l,bs,rfl,rfl,hH,q⟩:=h;cases rx;obtain⟨u,rfl,ru⟩:=rv.one;cases ru;obtain⟨its,r,⟨o,n,e,hc,hd,hs⟩,hz⟩:=I.list hH;have ei:=kF (A:=X.A) r;subst ei;obtain⟨oc,od,oo,os⟩:=o;simp only at hc hd hs;subst hc hd hs;refine call_meets F.slot_list_count ⟨_,e,rfl⟩ F.entry_list_count (F.args_list_count_2 _ _) (SeqAt.list_countAt l _ n none os (.bool true) (λy=>y==.bool true)) ⟨e,nz (prog:=X.prog),?_⟩;refine⟨.int ((bs.countP id:Nat):Int),H,I.tok _,⟨s.toks,?_⟩,q⟩;have:(List.map bu bs).countP (λy=>y==bu true)=bs.countP id:=by
  rw[List.countP_map]
  congr 1
  funext b;cases b<;>rfl
 rw[show ((List.map bu bs).toArray.toList)=List.map bu bs from rfl,this]
noncomputable def yq(K:av):V->List V->Hp->VK->Prop:=λx vs H Q=>∃(l:Addr) (bs:List Bool) (j:Nat),x=.ref l/\vs=[.bl true]/\SqL K H l (bs.map V.bl)/\bs.findIdx? id=some j/\Q (.int (j:Int)) H
theorem Ce:MtM X "list.index" (yq X.K):=by
 intro pins s σ H x vs v us Q I rx rv h;obtain⟨l,bs,j,rfl,rfl,hH,hj,q⟩:=h;cases rx;obtain⟨u,rfl,ru⟩:=rv.one;cases ru;obtain⟨its,r,⟨o,n,e,hc,hd,hs⟩,hz⟩:=I.list hH;have ei:=kF (A:=X.A) r;subst ei;obtain⟨oc,od,oo,os⟩:=o;simp only at hc hd hs;subst hc hd hs;obtain⟨hjl,h1,h2⟩:=List.findIdx?_eq_some_iff_getElem.mp hj;have hz':bs.length<=sizeLine:=by simpa using hz
 refine call_meets F.slot_list_index ⟨_,e,rfl⟩ F.entry_list_index (F.args_list_index_2 _ _) (SeqAt.list_indexAt l _ n none os (.bool true) (λy=>y==.bool true) j (by simpa using hjl) (by rw[bp]at hz';lia) ?_ ?_) ⟨e,nz (prog:=X.prog),?_⟩
 ·have:bs[j]=true:=h1;simp[this]
 ·intro m hm hmj;have hm':m<bs.length:=by simpa using hm
  have:bs[m]=false:=by simpa using h2 m hmj
  simp[this]
 ·exact⟨.int (j:Int),H,I.tok _,⟨s.toks,rfl⟩,q⟩
end
section
variable{X:Cx}
end
end L2
namespace EV
open PySem PySem.Spec PySem.P PyProof.Rows L2
theorem insI_perm(i:Int):∀l,(insI i l).Perm (i::l)
 | []=>.refl _
 |j::r=>by
  unfold insI;split
  ·exact .refl _
  ·exact((insI_perm i r).cons j).trans (.swap ..)
theorem sortI_perm:∀l,(sortI l).Perm l
 | []=>.refl _
 |i::r=>(insI_perm i _).trans ((sortI_perm r).cons i)
theorem pG(i:Int):∀{l:List Int},l.Pairwise (·<=·)->(insI i l).Pairwise (·<=·)
 | [],_=>by simp[insI]
 |j::r,h=>by
  unfold insI;obtain⟨h1,h2⟩:=List.pairwise_cons.mp h;split
  ·rename_i hij
   refine List.pairwise_cons.mpr ⟨λx hx=>?_,h⟩;rcases aG.mp hx with rfl|hx
   ·exact hij
   ·exact Int.le_trans hij (h1 x hx)
  ·rename_i hij
   refine List.pairwise_cons.mpr ⟨λx hx=>?_,pG i h2⟩;rcases aG.mp ((insI_perm i r).mem_iff.mp hx)with rfl|hx
   ·lia
   ·exact h1 x hx
theorem mH:∀l:List Int,(sortI l).Pairwise (·<=·)
 | []=>.nil
 |i::r=>pG i (mH r)
theorem mS{l m:List Int}(h1:m.Perm l)(h2:m.Pairwise (·<=·)):m=sortI l:=PySem.W.ksm_same (h1.trans (sortI_perm l).symm) h2 (mH l)
section
variable{X:Cx}{g:Gc}
theorem uB(hK:X.K=g.K)(hu:X.A.units+64<cLine):zm X (.builtin "sorted") (rB1 g .sorted):=fb DT λS ds d vs H Q hs rs h q=>by
 obtain⟨x,rfl,h'⟩:=ip (λ_ _=>rfl) h;cases h'
theorem nj(hK:X.K=g.K)(hc:X.calm=true)(mx:Bool):zm X (.builtin (if mx then "max" else "min")) (rB1 g (if mx then .max else .min)):=by
 have two:∀{S:Sh}{H:Hp}{x y:D}{vs:List V}{i j:Int},x=.int i->y=.int j->eD g H S [x,y] vs->vs=[.int i,.int j]:=by
  intro S H x y vs i j hx hy rs;subst hx hy;cases rs with
  |cons r1 rs=>
   cases rs with
   |cons r2 rs=>cases rs;rw[r1.int,r2.int]
 have inv:∀{b:B1}{ds:List D}{d:D},b1 b ds=.ok d->(∃x,ds=[x]/\b11 b x=.ok d)\/∃x y,ds=[x,y]/\b12 b x y=.ok d:=by
  intro b ds d h
  match ds,h with
  | [x],h=>exact .inl ⟨x,rfl,h⟩
  | [x,y],h=>exact .inr ⟨x,y,rfl,h⟩
  | [],h=>cases h
  |_::_::_::_,h=>cases h
 cases mx
 ·exact fb (wR hc) λS ds d vs H Q hs rs h q=>by
   rcases inv h with ⟨x,rfl,h'⟩|⟨x,y,rfl,h'⟩
   ·cases h'
   ·obtain⟨i,j,hx,hy,h'⟩:=pC h';cases h';exact⟨i,j,two hx hy rs,q _ _ (qg.refl _) (.int _) (by simp)⟩
 ·exact fb (uw hc) λS ds d vs H Q hs rs h q=>by
   rcases inv h with ⟨x,rfl,h'⟩|⟨x,y,rfl,h'⟩
   ·cases h'
   ·obtain⟨i,j,hx,hy,h'⟩:=pC h';cases h';exact⟨i,j,two hx hy rs,q _ _ (qg.refl _) (.int _) (by simp)⟩
theorem Cd{S:Sh}{H:Hp}{vs:List V}{i:Int}(rs:eD g H S [.int i] vs):vs=[.int i]:=by
 cases rs with
 |cons r1 rs=>cases rs;rw[r1.int]
theorem CM{S:Sh}{H:Hp}{vs:List V}{i:Bool}(rs:eD g H S [.bl i] vs):vs=[.bl i]:=by
 cases rs with
 |cons r1 rs=>cases rs;rw[r1.bl]
theorem sN:zm X (.builtin "abs") (rB1 g .abs):=kA (λ_=>rfl) λ_ _=>rfl
theorem uf:zm X (.type "int") (rB1 g .int):=fb (w_.or uV) λS ds d vs H Q hs rs h q=>by
 obtain⟨x,rfl,h'⟩:=ip (λ_ _=>rfl) h;by_cases hx:∃z,x=.str z
 ·obtain⟨z,rfl⟩:=hx;have h':(if z.length<=640 then zO (PySem.intText? z) λn=>R.ok (D.int n)else .no)=R.ok d:=h';split at h'
  ·rename_i hz
   obtain⟨n,e,h2⟩:=iH h';cases h2;cases rs with
   |cons r rs=>
    cases rs;cases r.rep;exact .inr ⟨z,n,rfl,e,hz,q _ _ (qg.refl _) (.int _) (by simp)⟩
  ·cases h'
 ·have h':ibR x (λi=>.ok (.int i)) (λb=>.ok (.int (if b then 1 else 0)))=R.ok d:=by cases x<;>first|exact absurd ⟨_,rfl⟩ hx|exact h'
  rcases xm h' with ⟨i,rfl,h'⟩|⟨i,rfl,h'⟩
  ·cases h';exact .inl (.inl ⟨i,Cd rs,q _ _ (qg.refl _) (.int _) (by simp)⟩)
  ·cases h';exact .inl (.inr ⟨i,CM rs,q _ _ (qg.refl _) (.int _) (by simp)⟩)
theorem yK:zm X (.type "bool") (rB1 g .bool):=kA (λ_=>rfl) λ_ _=>rfl
theorem CT(hK:X.K=g.K)(hc:X.calm=true):zm X (.builtin "sum") (rB1 g .sum):=kA (λ_=>rfl) λ_ _=>rfl
theorem oU(hK:X.K=g.K)(hu:X.A.units+64<cLine):∀b,(X.calm=true\/b=.len\/b=.abs\/b=.tuple\/b=.list\/b=.int\/b=.bool)->zm X (b1V b) (rB1 g b)
 | .len,_=>wy hK
 | .tuple,_=>DD hK
 | .list,_=>vt hK
 | .sorted,_=>uB hK hu
 | .all,h=>nq hK (by simpa using h) true
 | .any,h=>nq hK (by simpa using h) false
 | .sum,h=>CT hK (by simpa using h)
 | .min,h=>nj hK (by simpa using h) false
 | .max,h=>nj hK (by simpa using h) true
 | .abs,_=>sN
 | .int,_=>uf
 | .bool,_=>yK
theorem nH{H:Hp}{ds:List D}{vs:List V}(r:qV g H ds vs):ds.isEmpty=vs.isEmpty:=by cases r<;>rfl
theorem ue(hK:X.K=g.K){S:Sh}{H:Hp}{d:D}{v:V}{b:Bool}(r:zz g H S d v)(e:truth d=.ok b):kR X.K v H b:=by
 cases d with
 |non=>cases r.rep;cases e;exact rfl
 |bl c=>cases r.rep;cases e;exact rfl
 |int i=>cases r.rep;cases e;exact rfl
 |tup xs=>
  cases e;obtain⟨a,vs,rfl,h1,r1⟩:=r.tup;exact .inr (.inl ⟨vs,by rw[hK];exact h1,by rw[nH r1]⟩)
 |lst xs=>
  cases e;obtain⟨a,vs,rfl,h1,r1⟩:=r.lst;exact .inl ⟨vs,by rw[hK];exact h1,by rw[nH r1]⟩
 |_=>cases e
theorem BA(hK:X.K=g.K):zm X (.builtin "isinstance") (λxs H Q=>∃S d v n t,xs=[v,.ty n]/\zz g H S d v/\tyD d=some t/\n∈["int","bool","str","list","tuple"]/\Q (.bl (fJ t n)) H):=by
 intro pins s σ H xs us Q I r h;obtain⟨S,d,v,n,t,rfl,rd,ht,hn,q⟩:=h;obtain⟨u,cu,rfl,rx,rc⟩:=r.two;cases rc;have fin:∀tk,EP X pins σ Q (.bool (fJ t n)) {s with toks:=tk}:=λtk=>⟨.bl _,H,I.tok tk,rfl,q⟩
 have kb:t∈["NoneType","bool","int","str","list","tuple","dict"]->bc X.K (.type t) (.type n)=some (fJ t n):=λh=>yE h hn
 cases d with
 |non=>cases ht;cases rd.rep;exact fW I rx .non (kb (by simp)) fin
 |bl c=>cases ht;cases rd.rep;exact fW I rx (.bl c) (kb (by simp)) fin
 |int i=>cases ht;cases rd.rep;exact fW I rx (.int i) (kb (by simp)) fin
 |str i=>cases ht;cases rd.rep;exact fW I rx (.str i) (kb (by simp)) fin
 |tup xs=>
  cases ht;obtain⟨a,vs,rfl,h1,_⟩:=rd.tup;cases rx;obtain⟨its,_,⟨o,e1,e2,_⟩,_⟩:=I.tuple (by rw[hK];exact h1);exact bC PySem.W.kitx_tuple I.kIn ⟨o,e1,e2⟩ (kb (by simp)) (λz=>nomatch z) fin
 |lst xs=>
  cases ht;obtain⟨a,vs,rfl,h1,_⟩:=rd.lst;cases rx;obtain⟨its,_,pl,_⟩:=I.list (by rw[hK];exact h1);obtain⟨o,e1,e2,_⟩:=pl.isList;exact bC PySem.W.kitx_list I.kIn ⟨o,e1,e2⟩ (kb (by simp)) (λz=>nomatch z) fin
 |dic=>
  cases ht;cases rd.rep with
  |dic h1=>exact fW I rx (.dK h1) (kb (by simp)) fin
 |_=>cases ht
end
theorem An{o:O2}{a b:Int}{c:Str}:opI o a b≠.ex c:=by
 cases o<;>simp only[opI]<;>(try split)<;>intro h<;>cases h
theorem su{o:O2}{a b:D}{c:Str}:op2 o a b≠.ex c:=by
 unfold op2;split
 ·exact An
 all_goals ((try split)<;>intro h<;>cases h)
theorem xH{n:Bool}{a b:D}{c:Str}:isB n a b≠.ex c:=by
 unfold isB;split<;>intro h<;>cases h
theorem oB{a b:D}{c:Str}:dF a b≠.ex c:=by
 unfold dF;split<;>intro h<;>cases h
theorem yc{a b:D}{c:Str}:((dF a b).bind λr=>R.ok (!r))≠.ex c:=by
 cases h:dF a b with
 |ok r=>intro z;cases z
 |ex k=>exact absurd h oB
 |no=>intro z;cases z
theorem DX{o:C2}{a b:D}{c:Str}:qh o a b≠.ex c:=by
 unfold qh;split<;>(try split)<;>(try split)<;>intro h<;>first|cases h|exact xH h|exact oB h|exact yc h
theorem A4{a:D}{c:Str}:truth a≠.ex c:=by
 unfold truth;split<;>intro h<;>cases h
theorem vZ{a b:D}{c:Str}:ixD a b≠.ex c:=by
 unfold ixD;split<;>(try split)<;>(try split)<;>intro h<;>cases h
theorem xI{a:D}{l h:Option Int}{c:Str}:slD a l h≠.ex c:=by
 unfold slD;split<;>(try split)<;>intro h<;>cases h
theorem jB{x:D}{k:List D->R D}{c:Str}(h:∀xs,k xs≠.ex c):cV x k≠.ex c:=by
 cases x with
 |lst xs=>exact h xs
 |_=>intro z;cases z
theorem tO{x:D}{f:Int->R D}{q:Bool->R D}{c:Str}(h:∀i,f i≠.ex c)(h':∀i,q i≠.ex c):ibR x f q≠.ex c:=by
 cases x with
 |int i=>exact h i
 |bl i=>exact h' i
 |_=>intro z;cases z
theorem mZ{x y:D}{k:Int->Int->R D}{c:Str}(h:∀i j,k i j≠.ex c):iiR x y k≠.ex c:=by
 cases x with
 |int i=>
  cases y with
  |int j=>exact h i j
  |_=>intro z;cases z
 |_=>intro z;cases z
theorem fu{α β:Type}{o:Option α}{k:α->R β}{c:Str}(h:∀a,k a≠.ex c):zO o k≠.ex c:=by
 cases o with
 |some a=>exact h a
 |none=>intro z;cases z
theorem cX{α:Type}{a:α}{c:Str}:R.ok a≠.ex c:=by intro z;cases z
theorem cR{α:Type}{c:Str}:(R.no:R α)≠.ex c:=by intro z;cases z
theorem r_{b:B1}{d:D}{c:Str}:b11 b d≠.ex c:=by
 cases b with
 |len=>
  show (match d with | .str x=>if x.length<=SZ then R.ok (D.int x.length)else .no|d=>zO (seq? d) λxs=>.ok (.int xs.length))≠.ex c;split
  ·split
   ·exact cX
   ·exact cR
  ·exact fu λ_=>cX
 |tuple=>exact fu λ_=>cX
 |list=>exact fu λ_=>cX
 |all=>exact jB λ_=>fu λ_=>cX
 |any=>exact jB λ_=>fu λ_=>cX
 |sorted=>exact cR
 |abs=>exact cR
 |int=>
  show (match d with | .str x=>if x.length<=640 then zO (PySem.intText? x) λn=>R.ok (D.int n)else .no|d=>ibR d (λi=>.ok (.int i)) λb=>.ok (.int (if b then 1 else 0)))≠.ex c;split
  ·split
   ·exact fu λ_=>cX
   ·exact cR
  ·exact tO (λ_=>cX) λ_=>cX
 |bool=>exact cR
 |sum=>exact cR
 |min=>exact cR
 |max=>exact cR
theorem vp{b:B1}{ds:List D}{c:Str}:b1 b ds≠.ex c:=by
 match ds with
 | []=>exact cR
 | [_]=>exact r_
 | [x,y]=>
  cases b with
  |min=>exact mZ λ_ _=>cX
  |max=>exact mZ λ_ _=>cX
  |_=>exact cR
 |_::_::_::_=>exact cR
structure aZ(g:Gc)(c:Cc)(e:E)(S:Sh)(H:Hp)(d:D)(v:V)(H':Hp):Prop where
 same:qg H H'
 rb:zz g H' S d v
 st:esc e=true->Rep g (hid H' S) d v
 fr:fresh c e=true->Fr g H S H' d v
structure SE(g:Gc)(c:Cc)(τ:Env)(σ:L2.St)(H:Hp)(S:Sh):Prop where
 len:τ.length=σ.length
 val:∀(i:Nat) (d:D),τ[i]? = some (some d)->∃v,σ[i]? = some (some v)/\zz g H S d v/\∀x,c.N[i]? = some x->c.own.contains x=false->Rep g (hid H S) d v
 sub:Sub S H
theorem SE.up{g:Gc}{c:Cc}{τ:Env}{σ:L2.St}{H H':Hp}{S:Sh}(s:SE g c τ σ H S)(e:qg H H'):SE g c τ σ H' S:=
 ⟨s.len,λi d h=>let ⟨v,h1,h2,h3⟩:=s.val i d h;⟨v,h1,h2.mono e,λx a b=>(h3 x a b).mono (zp e)⟩,s.sub.same e⟩
noncomputable def tR{α:Type}(g:Gc)(E:XK)(H:Hp)(r:R α)(k:α->Prop):Prop:=match r with
 | .ok a=>k a
 | .ex c=>∀H' C,qg H H'->g.clA c=some C->E (.ref C) none H'
 | .no=>False
theorem tR.up{α:Type}{g:Gc}{E:XK}{H H':Hp}{r:R α}{k:α->Prop}(h:tR g E H r k)(e:qg H H'):tR g E H' r k:=by
 cases r with
 |ok a=>exact h
 |ex c=>exact λH2 C e2 hc=>h H2 C (e.trans e2) hc
 |no=>exact h
theorem tR.imp{α:Type}{g:Gc}{E:XK}{H:Hp}{r:R α}{k k':α->Prop}(h:tR g E H r k)(i:∀a,k a->k' a):tR g E H r k':=by
 cases r with
 |ok a=>exact i a h
 |ex c=>exact h
 |no=>exact h
section
variable(w:W)(g:Gc)(c:Cc)(E:XK)
noncomputable def tE(e:EV.E):TE:=λσ H Q=>∃τ S,SE g c τ σ H S/\tR g E H (evE w e τ) λd=>∀v H',aZ g c e S H d v H'->Q v H'
noncomputable def tT(t:T):TT:=λσ H Q=>∃τ S,SE g c τ σ H S/\tR g E H (evT w t τ) λb=>∀H',qg H H'->Q b H'
noncomputable def tA(es:Es):TA:=λσ H Q=>∃τ S,SE g c τ σ H S/\tR g E H (zt w es τ) λds=>∀vs H',qg H H'->eD g H' S ds vs->(dW es=true->qV g (hid H' S) ds vs)->Q vs H'
noncomputable def tOe(o:OE):TO:=λσ H Q=>∃τ S,SE g c τ σ H S/\tR g E H (evO w o τ) λi=>∀H',qg H H'->Q i H'
noncomputable def Goes(g:Gc)(J:L2.It)(ds:List D)(H:Hp)(S:Sh):Prop:=
 (∀i,ds.length<=i->J.stop i H)/\∀i d,ds[i]? = some d->J.go i H/\∀x H',J.yld i H x H'->qg H H'/\Rep g (hid H' S) d x
noncomputable def tIt(it:It):TI:=λσ H R=>∃τ S,SE g c τ σ H S/\tR g E H (evI w it τ) λds=>∀J H',qg H H' ->
 (∀H2 S2,qg H' H2->qg (hid H' S) (hid H2 S2)->Sub S2 H2->Goes g J ds H2 S2)->(owned it=false->∀H2 S2,qg (hid H' S) (hid H2 S2)->Sub S2 H2->Goes g J ds H2 S2)->R J H'
end
theorem PE.imp{X:Cx}{e:Expr}{t t':TE}(h:PE X e t)(i:∀σ H Q,t' σ H Q->t σ H Q):PE X e t':=λpins s σ H Q I q=>h pins s σ H Q I (i _ _ _ q)
theorem PT.imp{X:Cx}{e:Expr}{t t':TT}(h:PT X e t)(i:∀σ H Q,t' σ H Q->t σ H Q):PT X e t':=λpins s σ H Q I q=>h pins s σ H Q I (i _ _ _ q)
theorem PW.imp{X:Cx}{e:Expr}{t t':TT}(h:PW X e t)(i:∀σ H Q,t' σ H Q->t σ H Q):PW X e t':=λwh pins s σ H Q I q=>h wh pins s σ H Q I (i _ _ _ q)
theorem PA.imp{X:Cx}{e:List Expr}{t t':TA}(h:PA X e t)(i:∀σ H Q,t' σ H Q->t σ H Q):PA X e t':=λpos pins s σ H Q I q=>h pos pins s σ H Q I (i _ _ _ q)
theorem PO.imp{X:Cx}{e:Option Expr}{t t':TO}(h:PO X e t)(i:∀σ H Q,t' σ H Q->t σ H Q):PO X e t':=λpins s σ H Q I q=>h pins s σ H Q I (i _ _ _ q)
theorem PI.imp{X:Cx}{tg e:Expr}{t t':TI}(h:PI X tg e t)(i:∀σ H Q,t' σ H Q->t σ H Q):PI X tg e t':=λpins s σ H Q I q=>h pins s σ H Q I (i _ _ _ q)
theorem PS.imp{X:Cx}{e:Stmt}{t t':TS}(h:PS X e t)(i:∀D σ H,t' D σ H->t D σ H):PS X e t':=λpins s σ H Q I q=>h pins s σ H Q I (i _ _ _ q)
theorem PSs.imp{X:Cx}{e:List Stmt}{t t':TS}(h:PSs X e t)(i:∀D σ H,t' D σ H->t D σ H):PSs X e t':=λpins s σ H Q I q=>h pins s σ H Q I (i _ _ _ q)
section
variable{w:W}{g:Gc}{c:Cc}{E:XK}{τ:Env}{σ:L2.St}{H H0:Hp}{S:Sh}
theorem zh{α:Type}{e:EV.E}{f:D->R α}{P:α->Prop}{Q:VK}(se:SE g c τ σ H S)(h:tR g E H ((evE w e τ).bind f) P)(k:∀d v H',evE w e τ=.ok d->aZ g c e S H d v H'->tR g E H' (f d) P->Q v H'):tE w g c E e σ H Q:=by
 refine⟨τ,S,se,?_⟩;cases q:evE w e τ with
 |ok d=>rw[q]at h;exact λv H' p=>k d v H' q p (tR.up h p.same)
 |ex x=>rw[q]at h;exact h
 |no=>rw[q]at h;exact h
theorem jr{α:Type}{t:T}{f:Bool->R α}{P:α->Prop}{Q:Bool->Hp->Prop}(se:SE g c τ σ H S)(h:tR g E H ((evT w t τ).bind f) P)(k:∀b H',evT w t τ=.ok b->qg H H'->tR g E H' (f b) P->Q b H'):tT w g c E t σ H Q:=by
 refine⟨τ,S,se,?_⟩;cases q:evT w t τ with
 |ok d=>rw[q]at h;exact λH' p=>k d H' q p (tR.up h p)
 |ex x=>rw[q]at h;exact h
 |no=>rw[q]at h;exact h
theorem gq{α:Type}{es:Es}{f:List D->R α}{P:α->Prop}{Q:List V->Hp->Prop}(se:SE g c τ σ H S)(h:tR g E H ((zt w es τ).bind f) P)
  (k:∀ds vs H',zt w es τ=.ok ds->qg H H'->eD g H' S ds vs->(dW es=true->qV g (hid H' S) ds vs)->tR g E H' (f ds) P->Q vs H'):tA w g c E es σ H Q:=by
 refine⟨τ,S,se,?_⟩;cases q:zt w es τ with
 |ok d=>rw[q]at h;exact λvs H' p r r'=>k d vs H' q p r r' (tR.up h p)
 |ex x=>rw[q]at h;exact h
 |no=>rw[q]at h;exact h
theorem pA{α:Type}{o:OE}{f:Option Int->R α}{P:α->Prop}{Q:Option Int->Hp->Prop}(se:SE g c τ σ H S)(h:tR g E H ((evO w o τ).bind f) P)(k:∀b H',evO w o τ=.ok b->qg H H'->tR g E H' (f b) P->Q b H'):tOe w g c E o σ H Q:=by
 refine⟨τ,S,se,?_⟩;cases q:evO w o τ with
 |ok d=>rw[q]at h;exact λH' p=>k d H' q p (tR.up h p)
 |ex x=>rw[q]at h;exact h
 |no=>rw[q]at h;exact h
theorem aZ.of{e:EV.E}{d:D}{v:V}{H':Hp}(s:qg H H')(r:Rep g (hid H' S) d v)(f:fresh c e=false):aZ g c e S H d v H':=⟨s,.inl r,λ_=>r,λz=>by rw[f]at z;cases z⟩
theorem aZ.new{e:EV.E}{d:D}{v:V}{H':Hp}(s:qg H H')(r:Rep g (hid H' S) d v)(f:Fr g H S H' d v):aZ g c e S H d v H':=⟨s,.inl r,λ_=>r,λ_=>f⟩
theorem Fr.low{d:D}{v:V}{H1 H':Hp}(f:Fr g H1 S H' d v)(e:qg H H1):Fr g H S H' d v:=by
 obtain⟨a,vs,ds,h1,h2,h3,h4,h5⟩:=f;exact⟨a,vs,ds,h1,h2,e.free h3,h4,h5⟩
end
noncomputable def b1N:B1->Str
 | .len=>"len"
 | .tuple=>"tuple"
 | .list=>"list"
 | .sorted=>"sorted"
 | .all=>"all"
 | .any=>"any"
 | .sum=>"sum"
 | .min=>"min"
 | .max=>"max"
 | .abs=>"abs"
 | .int=>"int"
 | .bool=>"bool"
theorem mw:∀b,bz (b1N b)=some (b1V b)
 | .len | .tuple | .list | .sorted | .all | .any | .sum | .min | .max | .abs | .int | .bool=>by decide +kernel
noncomputable def spF(w:W)(g:Gc)(x:Str)(fr:Bool):Sp:=λvs H Q E=>∃S ds,Sub S H/\qV g (hid H S) ds vs /\
 tR g E H (w.call x ds) λd=>∀v H',qg H H'->Rep g (hid H' S) d v->(fr=true->Fr g H S H' d v)->Q v H'
structure ju(w:W)(g:Gc)(P:ay)(wl:au)(mg:Str->Option ae)(base:Heap)(A:ax)(calm:Bool)(x:Str)(f:Addr)(fr:Bool):Prop where
 at_:mg x=some (.ref f)
 kp:b9 g.K (.ref f)=true
 fn:∃k fd ps,Binds g.K fd ps []/\((calm=true/\eV P wl g.K mg base (CX1 P wl) k f fd ps (spF w g x fr)/\bW k A)\/(calm=false/\h8 P wl g.K mg base (CX1 P wl) k f fd ps (spF w g x fr)/\dN k A))
noncomputable def GM(w:W)(g:Gc)(P:ay)(wl:au)(mg:Str->Option ae)(base:Heap)(A:ax)(calm:Bool)(x:Str):GK->Prop
 | .fn fr=>∃f,g.fnA x=some f/\ju w g P wl mg base A calm x f fr
 | .val=>∃u v d,mg x=some u/\RelV v u/\w.glb x=some d/\∀H,Rep g H d v
 | .bi b=>mg x=none/\x=b1N b/\∃id,b1V b=.builtin id
 | .rng=>mg x=none/\x = "range"
 | .enum=>mg x=none/\x = "enumerate"
 | .zip=>mg x=none/\x = "zip"
 | .isi=>mg x=none/\x = "isinstance"
 | .ty n b=>mg x=none/\bz x=some (.type n)/\(n∈["int","bool","str","list","tuple"]\/n = "ValueError")/\∀b',b=some b'->x=b1N b'/\b1V b'=.type n
 | .exc=>∃C,mg x=some (.ref C)/\g.clA x=some C
 | .exk=>∃C,mg x=some (.ref C)/\g.clA x=some C
 | .set=>mg x=none/\bz x=some (.type "set")
structure XO(w:W)(g:Gc)(c:Cc)(E:XK)(X:Cx):Prop where
 K:X.K=g.K
 nm:X.env.scope.names=c.nm
 N:X.N=c.N
 nd:c.N.Nodup
 calm:c.calm=true->X.calm=true
 units:X.A.units+64<cLine
 fn:∀x,(c.fnc=true\/c.oc.contains x=true)->X.fn x=true
 kind:X.env.scope.kind=.function
 pass:Passes (CX1 X.prog X.w) X E
 gok:∀x k,c.G.lookup x=some k->GM w g X.prog X.w X.mg X.base X.A X.calm x k
 fns:X.calm=true->∀x f,g.fnA x=some f->∃fr,ju w g X.prog X.w X.mg X.base X.A X.calm x f fr
 -- what isinstance says of a caught error
 sub:∀k cl b,w.sub k cl=some b->∃C cv,g.clA k=some C/\zQ g.K C/\bc g.K (.ref C) cv=some b/\match cl with
  | .ty n=>n = "ValueError"/\cv=.type n
  | .ex x=>∃D,g.clA x=some D/\cv=.ref D
section
variable{w:W}{g:Gc}{c:Cc}{E:XK}{X:Cx}
theorem et{x:Str}{i:Nat}(h:loc c x=some i):c.N[i]? = some x/\(c.nm.lookup x=some .local\/c.nm.lookup x=some .cell\/c.nm.lookup x=some .free)/\(x==("__debug__" : Str))=false/\(x==("__classdict__" : Str))=false:=by
 unfold loc at h;split at h
 ·cases h
 ·rename_i hd
  have hd':(x==("__debug__" : Str))=false/\(x==("__classdict__" : Str))=false:=by simpa using hd
  have fin:∀{j},(if c.N[j]? = some x then some j else none)=some i->c.N[i]? = some x:=λ{j} z=>by
   split at z
   ·cases z;assumption
   ·cases z
  split at h
  ·rename_i q;exact⟨fin h,.inl q,hd'⟩
  ·rename_i q;exact⟨fin h,.inr (.inl q),hd'⟩
  ·rename_i q;exact⟨fin h,.inr (.inr q),hd'⟩
  ·cases h
theorem qX{x:Str}{k:GK}(h:glob c x=some k):c.nm.lookup x=some .globalImplicit/\c.G.lookup x=some k/\(x==("__debug__" : Str))=false/\x≠"__name__":=by
 unfold glob at h;split at h
 ·cases h
 ·rename_i hd
  have hd':(x==("__debug__" : Str))=false/\(x==("__name__" : Str))=false:=by simpa using hd
  split at h
  ·rename_i q;exact⟨q,h,hd'.1,by simpa using hd'.2⟩
  ·cases h
theorem XO.gl(O:XO w g c E X){x:Str}{k:GK}(h:glob c x=some k):Gl X x:=by
 show X.env.scope.names.lookup x=_;rw[O.nm];exact(qX h).1
theorem XO.gm(O:XO w g c E X){x:Str}{k:GK}(h:glob c x=some k):GM w g X.prog X.w X.mg X.base X.A X.calm x k:=O.gok x k (qX h).2.1
theorem qk{e:Expr}{es:List Expr}{env:PySem.Env}(h:isStar e=false):aP (e::es) env=(false,eval e env)::aP es env:=by
 cases e<;>first|rfl|(simp[isStar]at h)
theorem iJ{es:List Expr}{env:PySem.Env}{pos:Pos}:(∀e∈es,isStar e=false)->(backTo pos (aP es env)).any (·.1)=false:=by
 induction es with
 |nil=>intro _;rfl
 |cons e es ih=>
  intro h;rw[qk (h e aK)];show (false||(backTo pos (aP es env)).any (·.1))=false;rw[ih λe he=>h e (aJ _ he)]
  rfl
theorem eU:∀{n:Nat}{es:List Expr}{ir:Es},cEs n c es=some ir->∀e∈es,isStar e=false
 | 0,_,_,h=>by simp[cEs]at h
 |n+1,[],_,_=>by simp
 |n+1,e::es,ir,h=>by
  simp only[cEs]at h;cases hs:isStar e with
  |true=>simp[hs]at h
  |false=>
   simp only[hs,bg,if_false,aE,aD]at h;obtain⟨_,_,r,hr,_⟩:=h;intro x hx;rcases aG.mp hx with rfl|hx
   ·exact hs
   ·exact eU hr x hx
theorem ud{x:Str}{f:Addr}{fr:Bool}{e:Expr}{es:List Expr}{p pos:Pos}{t:TA}(O:XO w g c E X)(C:ju w g X.prog X.w X.mg X.base X.A X.calm x f fr)(hg:Gl X x)(hd:(x==("__debug__" : Str))=false)(ha:PA X (e::es) t)
  (hs:∀z∈e::es,isStar z=false):PE X (.Call (.Name x p) (e::es) [] pos) (kL (spF w g x fr) [] E t):=by
 obtain⟨k,fd,ps,hb,h⟩:=C.fn;have he:=qk (es:=es) (env:=X.env) (hs e aK);have hp:=iJ (env:=X.env) (pos:=pos) λz hz=>hs z (aJ _ hz)
 rw[<-O.K]at hb h;rcases h with ⟨_,F,r⟩|⟨_,F,r⟩
 ·exact yP F r hg C.at_ (by rw[O.K];exact C.kp) hb .nil O.pass ha hd he hp
 ·exact vK F r hg C.at_ (by rw[O.K];exact C.kp) hb .nil O.pass ha hd he hp
end
end EV
namespace L2
open PySem PySem.Spec PyProof.Rows
section
variable{X:Cx}
end
end L2
namespace EV
open PySem PySem.Spec PySem.P PyProof.Rows L2
section
variable{w:W}{g:Gc}{c:Cc}{E:XK}{X:Cx}{a b d f:Expr}{ia ib id' if':EV.E}{pos p2:Pos}{ta tb:T}
theorem jA{e:Expr}{v:V}{dd:D}(h:PE X e (tC v))(r:∀H,Rep g H dd v):PE X e (tE w g c E (.con dd)):=PE.imp h λσ H Q ⟨τ,S,se,k⟩=>k v H (aZ.of (qg.refl _) (r _) rfl)
theorem kG{x:Str}{i:Nat}(O:XO w g c E X)(h:loc c x=some i):PE X (.Name x pos) (tE w g c E (if c.own.contains x then .own i else .var i)):=by
 obtain⟨h1,h2,h3,h4⟩:=et h;refine PE.imp (jf (i:=i) (by rw[O.N];exact h1) (by unfold fN;rw[O.nm];exact h2) h3 h4) λσ H Q ⟨τ,S,se,k⟩=>?_
 have key:∀e,evE w e τ=bP τ i->fresh c e=false->(esc e=true->c.own.contains x=false)->tR g E H (evE w e τ) (λd=>∀v H',aZ g c e S H d v H'->Q v H')->iA i σ H Q:=λe e1 e2 e3 k=>by
  rw[e1]at k;unfold bP at k;cases q:τ[i]? with
  |none=>rw[q]at k;exact k.elim
  |some o=>
   cases o with
   |none=>rw[q]at k;exact k.elim
   |some d=>
    rw[q]at k;obtain⟨v,z1,z2,z3⟩:=se.val i d q;exact⟨v,z1,k v H ⟨qg.refl _,z2,λz=>z3 x h1 (e3 z),λz=>by rw[e2]at z;cases z⟩⟩
 cases ho:c.own.contains x with
 |true=>rw[ho]at k;exact key (.own i) (by simp[qW,zb,qZ,zj,zf,zd,ze,zk,zg,qp,qA,qF,qu,qB,qN,qq,qw,qo,qx,ql,qG,qm,qz,qJ,qD,qr,qK,qP,qQ,qs,qH,qS,qR,qE,qy,qC,qt,qO,qI,qT,qU,qM]) rfl (by intro z;cases z) k
 |false=>rw[ho]at k;exact key (.var i) (by simp[qW,zb,qZ,zj,zf,zd,ze,zk,zg,qp,qA,qF,qu,qB,qN,qq,qw,qo,qx,ql,qG,qm,qz,qJ,qD,qr,qK,qP,qQ,qs,qH,qS,qR,qE,qy,qC,qt,qO,qI,qT,qU,qM]) rfl (λ_=>ho) k
theorem wK{x:Str}(O:XO w g c E X)(h:glob c x=some .val):PE X (.Name x pos) (tE w g c E (.glb x)):=by
 obtain⟨u,v,d,h1,h2,h3,h4⟩:=O.gm h;refine PE.imp (jO (O.gl h) h1 h2 (qX h).2.2.1) λσ H Q ⟨τ,S,se,k⟩=>?_
 simp only[qW,zb,qZ,zj,zf,zd,ze,zk,zg,qp,qA,qF,qu,qB,qN,qq,qw,qo,qx,ql,qG,qm,qz,qJ,qD,qr,qK,qP,qQ,qs,qH,qS,qR,qE,qy,qC,qt,qO,qI,qT,qU,qM,h3]at k;exact k v H (aZ.of (qg.refl _) (h4 _) rfl)
theorem rV{x:Str}{fr:Bool}(O:XO w g c E X)(h:glob c x=some (.fn fr)):PE X (.Name x pos) (tE w g c E (.fnv x)):=λpins s σ H Q I ⟨τ,S,se,kk⟩=>by
 simp only[qW,zb,qZ,zj,zf,zd,ze,zk,zg,qp,qA,qF,qu,qB,qN,qq,qw,qo,qx,ql,qG,qm,qz,qJ,qD,qr,qK,qP,qQ,qs,qH,qS,qR,qE,qy,qC,qt,qO,qI,qT,qU,qM]at kk;exact aS kk
theorem oO{τ:EV.Env}{e:EV.E}{d:D}(h:isL e=true)(he:evE w e τ=.ok d):og d=true:=by
 cases e<;>first|(cases h;done)|skip
 ·simp only[qW,zb,qZ,zj,zf,zd,ze,zk,zg,qp,qA,qF,qu,qB,qN,qq,qw,qo,qx,ql,qG,qm,qz,qJ,qD,qr,qK,qP,qQ,qs,qH,qS,qR,qE,qy,qC,qt,qO,qI,qT,qU,qM]at he;cases q:zt w ‹_› τ with
  |ok ds=>rw[q]at he;cases he;rfl
  |ex z=>rw[q]at he;cases he
  |no=>rw[q]at he;cases he
 ·simp only[qW,zb,qZ,zj,zf,zd,ze,zk,zg,qp,qA,qF,qu,qB,qN,qq,qw,qo,qx,ql,qG,qm,qz,qJ,qD,qr,qK,qP,qQ,qs,qH,qS,qR,qE,qy,qC,qt,qO,qI,qT,qU,qM]at he;cases q:evI w ‹_› τ with
  |ok ds=>rw[q]at he;cases he;rfl
  |ex z=>rw[q]at he;cases he
  |no=>rw[q]at he;cases he
 ·simp only[qW,zb,qZ,zj,zf,zd,ze,zk,zg,qp,qA,qF,qu,qB,qN,qq,qw,qo,qx,ql,qG,qm,qz,qJ,qD,qr,qK,qP,qQ,qs,qH,qS,qR,qE,qy,qC,qt,qO,qI,qT,qU,qM]at he;cases q:evI w ‹_› τ with
  |ok ds=>
   rw[q]at he;simp only[R.bind_ok]at he;split at he
   ·cases he
   ·generalize ck _ _ _ _=r at he;cases r with
    |ok o=>cases he;rfl
    |ex z=>cases he
    |no=>cases he
  |ex z=>rw[q]at he;cases he
  |no=>rw[q]at he;cases he
theorem Cj(O:XO w g c E X){op:Operator}{o:O2}(ho:o2 op=some o)(ha:PE X a (tE w g c E ia))(hb:PE X b (tE w g c E ib)):PE X (.BinOp a op b pos) (tE w g c E (.op o ia ib)):=
 PE.imp (p_ (Af O.K ho) ha hb) λσ H Q ⟨τ,S,se,k⟩=>by
  simp only[qW,zb,qZ,zj,zf,zd,ze,zk,zg,qp,qA,qF,qu,qB,qN,qq,qw,qo,qx,ql,qG,qm,qz,qJ,qD,qr,qK,qP,qQ,qs,qH,qS,qR,qE,qy,qC,qt,qO,qI,qT,qU,qM]at k;refine zh se k λda va H1 e1 p1 k1=>zh (se.up p1.same) k1 λdb vb H2 e2 p2 k2=>⟨S,da,db,(se.up (p1.same.trans p2.same)).sub,p1.rb.mono p2.same,p2.rb,?_⟩
  cases q:op2 o da db with
  |ok r=>
   rw[q]at k2;exact λv H' s r f=>k2 v H' ⟨(p1.same.trans p2.same).trans s,.inl r,λ_=>r,λz=>by
    simp only[fresh,bE,aH,beq_iff_eq]at z;refine(f ?_).low (p1.same.trans p2.same);rcases z with z|⟨rfl,z⟩
    ·exact oO z.2 e1
    ·have:=oO z e2;cases db<;>first|(cases this;done)|skip
     cases da<;>first|rfl|(cases q;done)⟩
  |ex z=>exact su q
  |no=>rw[q]at k2;exact k2
theorem Bq(ha:PE X a (tE w g c E ia)):PE X (.UnaryOp .USub a pos) (tE w g c E (.neg ia)):=
 PE.imp (je jb ha) λσ H Q ⟨τ,S,se,k⟩=>by
  simp only[qW,zb,qZ,zj,zf,zd,ze,zk,zg,qp,qA,qF,qu,qB,qN,qq,qw,qo,qx,ql,qG,qm,qz,qJ,qD,qr,qK,qP,qQ,qs,qH,qS,qR,qE,qy,qC,qt,qO,qI,qT,qU,qM]at k;refine zh se k λda va H1 e1 p1 k1=>?_
  cases da with
  |int i=>exact⟨i,p1.rb.int,k1 _ _ (aZ.of p1.same (.int _) rfl)⟩
  |_=>exact k1.elim
theorem l_(O:XO w g c E X)(ix:Bool){x:Str}{i:Nat}{ap cp p q:Pos}{kk:Nat}(h:loc c x=some i)(hl:(ap.endLine==cp.line)=true) :
  PE X (.Call (.Attribute (.Name x p) (if ix then "index" else "count") ap) [.Constant (.bool true) kk q] [] cp) (tE w g c E (.mth ix (if c.own.contains x then .own i else .var i))):=by
 have hst:=qk (e:=.Constant (.bool true) kk q) (es:=[]) (env:=X.env) rfl;have pa:PA X [.Constant (.bool true) kk q] _:=zr oS zK hst;have hK:=O.K;cases ix with
 |false=>
  refine PE.imp (gv (X:=X) (apos:=ap) (cpos:=cp) PySem.F.plainAttrs_list PySem.F.slot_list_count (by rfl) AX (kG O h) pa rfl (by rw[hst];rfl) hl hst rfl) λσ H Q ⟨τ,S,se,k⟩=>?_
  simp only[qW,zb,qZ,zj,zf,zd,ze,zk,zg,qp,qA,qF,qu,qB,qN,qq,qw,qo,qx,ql,qG,qm,qz,qJ,qD,qr,qK,qP,qQ,qs,qH,qS,qR,qE,qy,qC,qt,qO,qI,qT,qU,qM]at k;refine zh se k λda va H1 e1 p1 k1=>?_
  cases da with
  |lst xs=>
   obtain⟨a,vs,rfl,h1,h2⟩:=p1.rb.lst;simp only[i',cV]at k1;cases e:bools? xs with
   |none=>rw[e]at k1;exact k1.elim
   |some bs=>
    rw[e]at k1;have:=h2.bools e;subst this;exact⟨.inl ⟨rfl,_,by rw[hK];exact h1⟩,a,bs,rfl,rfl,by rw[hK];exact h1,k1 _ _ (aZ.of p1.same (.int _) rfl)⟩
  |_=>exact k1.elim
 |true=>
  refine PE.imp (gv (X:=X) (apos:=ap) (cpos:=cp) PySem.F.plainAttrs_list PySem.F.slot_list_index (by rfl) Ce (kG O h) pa rfl (by rw[hst];rfl) hl hst rfl) λσ H Q ⟨τ,S,se,k⟩=>?_
  simp only[qW,zb,qZ,zj,zf,zd,ze,zk,zg,qp,qA,qF,qu,qB,qN,qq,qw,qo,qx,ql,qG,qm,qz,qJ,qD,qr,qK,qP,qQ,qs,qH,qS,qR,qE,qy,qC,qt,qO,qI,qT,qU,qM]at k;refine zh se k λda va H1 e1 p1 k1=>?_
  cases da with
  |lst xs=>
   obtain⟨a,vs,rfl,h1,h2⟩:=p1.rb.lst;simp only[i',cV]at k1;cases e:bools? xs with
   |none=>rw[e]at k1;exact k1.elim
   |some bs=>
    rw[e]at k1;have:=h2.bools e;subst this;simp only[zO]at k1;rw[if_pos trivial]at k1;cases ej:bs.findIdx? id with
    |none=>rw[ej]at k1;exact k1.elim
    |some j=>
     rw[ej]at k1;exact⟨.inl ⟨rfl,_,by rw[hK];exact h1⟩,a,bs,j,rfl,rfl,by rw[hK];exact h1,ej,k1 _ _ (aZ.of p1.same (.int _) rfl)⟩
  |_=>exact k1.elim
theorem D0(O:XO w g c E X){o:Expr}{m:Str}{ap cp:Pos}{as:List Expr}{e:EV.E}(h:cMt c o m ap as cp=some e):PE X (.Call (.Attribute o m ap) as [] cp) (tE w g c E e):=by
 unfold cMt at h;split at h
 ·split at h
  ·split at h
   ·split at h
    ·split at h
     ·rename_i hx
      split at h
      ·rename_i hb
       simp only[aH]at hb;obtain⟨rfl,hl⟩:=hb;split at h
       ·rename_i hm
        subst hm;cases h;exact l_ O false hx hl
       ·split at h
        ·rename_i hm
         subst hm;cases h;exact l_ O true hx hl
        ·cases h
      ·cases h
     ·cases h
    ·cases h
   ·cases h
  ·cases h
 ·cases h
theorem pW{o:Expr}{m:Str}(h:baseOk o=true):attributeBase o m X.env (eval o X.env)=eval o X.env:=by
 unfold baseOk at h;split at h
 ·rfl
 ·rfl
 ·cases h
theorem wY(O:XO w g c E X){o:Expr}{ap cp:Pos}(hb:baseOk o=true)(ho:PE X o (tE w g c E ia))(ha:PE X a (tE w g c E ib))(hs:isStar a=false)(hl:(ap.endLine==cp.line)=true) :
  PE X (.Call (.Attribute o "count" ap) [a] [] cp) (tE w g c E (.cnt ia ib)):=λpins s σ H Q I ⟨τ,S,se,kk⟩=>by
 simp only[qW,zb,qZ,zj,zf,zd,ze,zk,zg,qp,qA,qF,qu,qB,qN,qq,qw,qo,qx,ql,qG,qm,qz,qJ,qD,qr,qK,qP,qQ,qs,qH,qS,qR,qE,qy,qC,qt,qO,qI,qT,qU,qM]at kk;exact aS kk
theorem Cp(ha:PE X a (tE w g c E ia)):PE X (.UnaryOp .Invert a pos) (tE w g c E (.inv ia)):=λpins s σ H Q I ⟨τ,S,se,kk⟩=>by
 simp only[qW,zb,qZ,zj,zf,zd,ze,zk,zg,qp,qA,qF,qu,qB,qN,qq,qw,qo,qx,ql,qG,qm,qz,qJ,qD,qr,qK,qP,qQ,qs,qH,qS,qR,qE,qy,qC,qt,qO,qI,qT,qU,qM]at kk;exact aS kk
theorem yl(ha:PE X a (tE w g c E ia)):PE X (.UnaryOp .Not a pos) (tE w g c E (.not ia)):=
 PE.imp (tX ha) λσ H Q ⟨τ,S,se,k⟩=>by
  simp only[qW,zb,qZ,zj,zf,zd,ze,zk,zg,qp,qA,qF,qu,qB,qN,qq,qw,qo,qx,ql,qG,qm,qz,qJ,qD,qr,qK,qP,qQ,qs,qH,qS,qR,qE,qy,qC,qt,qO,qI,qT,qU,qM]at k;refine zh se k λda va H1 e1 p1 k1=>?_
  cases da with
  |bl i=>exact⟨i,p1.rb.bl,k1 _ _ (aZ.of p1.same (.bl _) rfl)⟩
  |_=>exact k1.elim
theorem aZ.pass{e e':EV.E}{S:Sh}{H H1 H':Hp}{dd:D}{v:V}(s:qg H H1)(p:aZ g c e S H1 dd v H')(h:esc e=true)(f:fresh c e'=false):aZ g c e' S H dd v H':=aZ.of (s.trans p.same) (p.st h) f
theorem ve{rest:List Expr}{ir:EV.E}(ha:PE X a (tE w g c E ia))(hb:PE X (.BoolOp .And (b::rest) pos) (tE w g c E ir))(he:esc ir=true):PE X (.BoolOp .And (a::b::rest) pos) (tE w g c E (.and ia ir)):=
 PE.imp (wZ ha hb) λσ H Q ⟨τ,S,se,k⟩=>by
  simp only[qW,zb,qZ,zj,zf,zd,ze,zk,zg,qp,qA,qF,qu,qB,qN,qq,qw,qo,qx,ql,qG,qm,qz,qJ,qD,qr,qK,qP,qQ,qs,qH,qS,qR,qE,qy,qC,qt,qO,qI,qT,qU,qM]at k;refine zh se k λda va H1 e1 p1 k1=>?_
  cases da with
  |bl i=>
   refine⟨i,p1.rb.bl,?_⟩;cases i with
   |true=>
    refine⟨τ,S,se.up p1.same,tR.imp k1 λd hk v H' p=>hk v H' (p.pass p1.same he rfl)⟩
   |false=>exact k1 _ _ (aZ.of p1.same (.bl _) rfl)
  |_=>exact k1.elim
theorem Bl{rest:List Expr}{ir:EV.E}(ha:PE X a (tE w g c E ia))(hb:PE X (.BoolOp .Or (b::rest) pos) (tE w g c E ir))(he:esc ir=true):PE X (.BoolOp .Or (a::b::rest) pos) (tE w g c E (.or ia ir)):=
 PE.imp (x9 ha hb) λσ H Q ⟨τ,S,se,k⟩=>by
  simp only[qW,zb,qZ,zj,zf,zd,ze,zk,zg,qp,qA,qF,qu,qB,qN,qq,qw,qo,qx,ql,qG,qm,qz,qJ,qD,qr,qK,qP,qQ,qs,qH,qS,qR,qE,qy,qC,qt,qO,qI,qT,qU,qM]at k;refine zh se k λda va H1 e1 p1 k1=>?_
  cases da with
  |bl i=>
   refine⟨i,p1.rb.bl,?_⟩;cases i with
   |false=>
    refine⟨τ,S,se.up p1.same,tR.imp k1 λd hk v H' p=>hk v H' (p.pass p1.same he rfl)⟩
   |true=>exact k1 _ _ (aZ.of p1.same (.bl _) rfl)
  |_=>exact k1.elim
theorem fP{op:CmpOp}{b:Expr}(h:zv b=true):behindInMarks op b=false:=by cases b<;>first|rfl|(simp[zv]at h)
theorem dA{o:C2}{S:Sh}{H:Hp}{da db:D}{va vb:V}{r:R Bool}{P:Bool->Prop}{Q:VK}(ra:zz g H S da va)(rb:zz g H S db vb)(q:tR g E H (qh o da db) P)(k:∀z,qh o da db=.ok z->P z->Q (.bl z) H):rCm g o va vb H Q:=by
 refine⟨S,da,db,ra,rb,?_⟩;cases e:qh o da db with
 |ok z=>rw[e]at q;exact k z e q
 |ex z=>exact DX e
 |no=>rw[e]at q;exact q
theorem tR.bnd{α β:Type}{H:Hp}{r:R α}{f:α->R β}{P:β->Prop}(h:tR g E H (r.bind f) P):tR g E H r λa=>tR g E H (f a) P:=by
 cases r with
 |ok a=>exact h
 |ex z=>exact h
 |no=>exact h
theorem t_(O:XO w g c E X){op:CmpOp}(ha:PE X a (tE w g c E ia))(hb:PE X b (tE w g c E ib))(hs:zv b=true):PE X (.Compare a [op] [b] pos) (tE w g c E (.cmp (c2 op) ia ib)):=
 PE.imp (vY (dy O.K O.units op) ha hb (fP hs)) λσ H Q ⟨τ,S,se,k⟩=>by
  simp only[qW,zb,qZ,zj,zf,zd,ze,zk,zg,qp,qA,qF,qu,qB,qN,qq,qw,qo,qx,ql,qG,qm,qz,qJ,qD,qr,qK,qP,qQ,qs,qH,qS,qR,qE,qy,qC,qt,qO,qI,qT,qU,qM]at k;refine zh se k λda va H1 e1 p1 k1=>zh (se.up p1.same) k1 λdb vb H2 e2 p2 k2=>?_
  exact dA (r:=.no) (p1.rb.mono p2.same) p2.rb (tR.bnd k2) λz _ q=>q _ _ (aZ.of (p1.same.trans p2.same) (.bl _) rfl)
theorem sG(O:XO w g c E X){op:CmpOp}(ha:PE X a (tE w g c E ia))(hb:PE X b (tE w g c E ib))(hs:zv b=true):PT X (.Compare a [op] [b] pos) (tT w g c E (.cmp (c2 op) ia ib)):=
 PT.imp (wX (dy O.K O.units op) ha hb (fP hs)) λσ H Q ⟨τ,S,se,k⟩=>by
  simp only[eM,eK,dH,eX,eT,cY,fc]at k;refine zh se k λda va H1 e1 p1 k1=>zh (se.up p1.same) k1 λdb vb H2 e2 p2 k2=>?_
  exact dA (r:=.no) (p1.rb.mono p2.same) p2.rb k2 λz _ q=>⟨z,rfl,q _ (p1.same.trans p2.same)⟩
theorem tq(O:XO w g c E X){op op':CmpOp}(ha:PE X a (tE w g c E ia))(hb:PE X b (tE w g c E ib))(hd:PE X d (tE w g c E id'))(hs':zv d=true):PE X (.Compare a [op,op'] [b,d] pos) (tE w g c E (.cmp2 (c2 op) (c2 op') ia ib id')):=
 PE.imp (Dz (dy O.K O.units op) (dy O.K O.units op') ha hb hd (fP hs')) λσ H Q ⟨τ,S,se,k⟩=>by
  simp only[qW,zb,qZ,zj,zf,zd,ze,zk,zg,qp,qA,qF,qu,qB,qN,qq,qw,qo,qx,ql,qG,qm,qz,qJ,qD,qr,qK,qP,qQ,qs,qH,qS,qR,qE,qy,qC,qt,qO,qI,qT,qU,qM]at k;refine zh se k λda va H1 e1 p1 k1=>zh (se.up p1.same) k1 λdb vb H2 e2 p2 k2=>?_
  have s2:=p1.same.trans p2.same;refine dA (r:=.no) (p1.rb.mono p2.same) p2.rb (tR.bnd k2) λz _ q=>⟨z,rfl,?_⟩
  cases z with
  |true=>
   exact zh (se.up s2) q λdd vd H3 e3 p3 k3=>dA (r:=.no) (p2.rb.mono p3.same) p3.rb (tR.bnd k3) λz _ q=>q _ _ (aZ.of (s2.trans p3.same) (.bl _) rfl)
  |false=>exact q _ _ (aZ.of s2 (.bl _) rfl)
theorem Aw(O:XO w g c E X){op op':CmpOp}(ha:PE X a (tE w g c E ia))(hb:PE X b (tE w g c E ib))(hd:PE X d (tE w g c E id'))(hs':zv d=true):PT X (.Compare a [op,op'] [b,d] pos) (tT w g c E (.cmp2 (c2 op) (c2 op') ia ib id')):=
 PT.imp (Dj (dy O.K O.units op) (dy O.K O.units op') ha hb hd (fP hs')) λσ H Q ⟨τ,S,se,k⟩=>by
  simp only[eM,eK,dH,eX,eT,cY,fc]at k;refine zh se k λda va H1 e1 p1 k1=>zh (se.up p1.same) k1 λdb vb H2 e2 p2 k2=>?_
  have s2:=p1.same.trans p2.same;refine dA (r:=.no) (p1.rb.mono p2.same) p2.rb (tR.bnd k2) λz _ q=>⟨z,rfl,?_⟩
  cases z with
  |true=>
   exact zh (se.up s2) q λdd vd H3 e3 p3 k3=>dA (r:=.no) (p2.rb.mono p3.same) p3.rb k3 λz _ q=>⟨z,rfl,q _ (s2.trans p3.same)⟩
  |false=>exact⟨false,rfl,q _ s2⟩
theorem vU(O:XO w g c E X){op op' op'':CmpOp}(ha:PE X a (tE w g c E ia))(hb:PE X b (tE w g c E ib))(hd:PE X d (tE w g c E id'))(hf:PE X f (tE w g c E if'))(hs':zv f=true):PE X (.Compare a [op,op',op''] [b,d,f] pos) (tE w g c E (.cmp3 (c2 op) (c2 op') (c2 op'') ia ib id' if')):=
 PE.imp (Bj (dy O.K O.units op) (dy O.K O.units op') (dy O.K O.units op'') ha hb hd hf (fP hs')) λσ H Q ⟨τ,S,se,k⟩=>by
  simp only[qW,zb,qZ,zj,zf,zd,ze,zk,zg,qp,qA,qF,qu,qB,qN,qq,qw,qo,qx,ql,qG,qm,qz,qJ,qD,qr,qK,qP,qQ,qs,qH,qS,qR,qE,qy,qC,qt,qO,qI,qT,qU,qM]at k;refine zh se k λda va H1 e1 p1 k1=>zh (se.up p1.same) k1 λdb vb H2 e2 p2 k2=>?_
  have s2:=p1.same.trans p2.same;refine dA (r:=.no) (p1.rb.mono p2.same) p2.rb (tR.bnd k2) λz _ q=>⟨z,rfl,?_⟩
  cases z with
  |true=>
   refine zh (se.up s2) q λdd vd H3 e3 p3 k3=>dA (r:=.no) (p2.rb.mono p3.same) p3.rb (tR.bnd k3) λz _ q=>⟨z,rfl,?_⟩
   have s3:=s2.trans p3.same;cases z with
   |true=>exact zh (se.up s3) q λdf vf H4 e4 p4 k4=>dA (r:=.no) (p3.rb.mono p4.same) p4.rb (tR.bnd k4) λz _ q=>q _ _ (aZ.of (s3.trans p4.same) (.bl _) rfl)
   |false=>exact q _ _ (aZ.of s3 (.bl _) rfl)
  |false=>exact q _ _ (aZ.of s2 (.bl _) rfl)
theorem AM{a b c d:Expr}{ta tb tc td:TE}{pos:Pos}{op op' op'':CmpOp}{r r' r'':R2}(ho:OpR X (aW op) r)(ho':OpR X (aW op') r')(ho'':OpR X (aW op'') r'')(ha:PE X a ta)(hb:PE X b tb)(hc:PE X c tc)(hd:PE X d td)
  (hm:lastMarks [op,op',op''] [b,c,d]=false):PT X (.Compare a [op,op',op''] [b,c,d] pos) (jU (nZ r r' r'' ta tb tc td)):=by
 intro pins s σ H Q I h;refine isTrue_chain (thn (ha pins s σ H _ I h) λv s1 ⟨x,H1,I1,r1,q1⟩=>test_link (thn (hb pins s1 σ H1 _ I1 q1) λu s2 ⟨y,H2,I2,r2,q2⟩=>
  thn (ho pins s2 σ H2 x y v u _ I2 r1 r2 q2) λd s3 ⟨z,H3,I3,r3,k,e,q3⟩=>?_)) hm
 subst e;cases r3;refine bB ?_;cases k with
 |false=>
  obtain⟨k',e',q'⟩:=q3;cases e';exact ite_ff ⟨H3,I3,q'⟩
 |true=>
  refine ite_tt (test_link (thn (hc pins s3 σ H3 _ I3 q3) λw' s4 ⟨z',H4,I4,r4,q4⟩=>thn (ho' pins s4 σ H4 y z' u w' _ I4 r2 r4 q4) λd' s5 ⟨z2,H5,I5,r5,k2,e2,q5⟩=>?_));subst e2;cases r5;refine bB ?_;cases k2 with
  |false=>
   obtain⟨k',e',q'⟩:=q5;cases e';exact ite_ff ⟨H5,I5,q'⟩
  |true=>
   refine ite_tt (test_last (thn (hd pins s5 σ H5 _ I5 q5) λw'' s6 ⟨z3,H6,I6,r6,q6⟩=>thn (ho'' pins s6 σ H6 z' z3 w' w'' _ I6 r4 r6 q6) λd'' s7 ⟨z4,H7,I7,r7,k4,e4,q7⟩=>?_));subst e4;cases r7;exact bB ⟨H7,I7,q7⟩
theorem R.bind_assoc{α β γ:Type}(r:R α)(f:α->R β)(h:β->R γ):(r.bind f).bind h=r.bind λa=>(f a).bind h:=by cases r<;>rfl
theorem tV(O:XO w g c E X){op op' op'':CmpOp}(ha:PE X a (tE w g c E ia))(hb:PE X b (tE w g c E ib))(hd:PE X d (tE w g c E id'))(hf:PE X f (tE w g c E if'))(hs':zv f=true):PT X (.Compare a [op,op',op''] [b,d,f] pos) (tT w g c E (.val (.cmp3 (c2 op) (c2 op') (c2 op'') ia ib id' if'))):=
 PT.imp (AM (dy O.K O.units op) (dy O.K O.units op') (dy O.K O.units op'') ha hb hd hf (fP hs')) λσ H Q ⟨τ,S,se,k⟩=>by
  simp only[eM,eK,dH,eX,eT,cY,fc,qW,zb,qZ,zj,zf,zd,ze,zk,zg,qp,qA,qF,qu,qB,qN,qq,qw,qo,qx,ql,qG,qm,qz,qJ,qD,qr,qK,qP,qQ,qs,qH,qS,qR,qE,qy,qC,qt,qO,qI,qT,qU,qM,R.bind_assoc]at k;refine zh se k λda va H1 e1 p1 k1=>zh (se.up p1.same) k1 λdb vb H2 e2 p2 k2=>?_
  have s2:=p1.same.trans p2.same;refine dA (r:=.no) (p1.rb.mono p2.same) p2.rb (tR.bnd k2) λz _ q=>⟨z,rfl,?_⟩
  cases z with
  |true=>
   simp only[if_true,R.bind_assoc]at q;refine zh (se.up s2) q λdd vd H3 e3 p3 k3=>dA (r:=.no) (p2.rb.mono p3.same) p3.rb (tR.bnd k3) λz _ q=>⟨z,rfl,?_⟩
   have s3:=s2.trans p3.same;cases z with
   |true=>
    simp only[if_true,R.bind_assoc]at q;exact zh (se.up s3) q λdf vf H4 e4 p4 k4=>dA (r:=.no) (p3.rb.mono p4.same) p4.rb (tR.bnd k4) λz _ q=>⟨z,rfl,q _ (s3.trans p4.same)⟩
   |false=>exact⟨false,rfl,q _ s3⟩
  |false=>exact⟨false,rfl,q _ s2⟩
theorem DH(ht:PT X d (tT w g c E ta))(ha:PE X a (tE w g c E ia))(hb:PE X b (tE w g c E ib))(h1:esc ia=true)(h2:esc ib=true):PE X (.IfExp d a b pos) (tE w g c E (.ite ta ia ib)):=
 PE.imp (xV ht ha hb) λσ H Q ⟨τ,S,se,k⟩=>by
  simp only[qW,zb,qZ,zj,zf,zd,ze,zk,zg,qp,qA,qF,qu,qB,qN,qq,qw,qo,qx,ql,qG,qm,qz,qJ,qD,qr,qK,qP,qQ,qs,qH,qS,qR,qE,qy,qC,qt,qO,qI,qT,qU,qM]at k;refine jr se k λz H1 e1 s1 k1=>?_
  cases z with
  |true=>exact⟨τ,S,se.up s1,tR.imp k1 λdd hk v H' p=>hk v H' (p.pass s1 h1 rfl)⟩
  |false=>exact⟨τ,S,se.up s1,tR.imp k1 λdd hk v H' p=>hk v H' (p.pass s1 h2 rfl)⟩
theorem Df:PA X [] (tA w g c E .nil):=PA.imp zK λσ H Q ⟨τ,S,se,k⟩=>k [] H (qg.refl _) .nil λ_=>.nil
theorem Bh{es:List Expr}{ies:Es}(ha:PE X a (tE w g c E ia))(hr:PA X es (tA w g c E ies))(hs:isStar a=false):PA X (a::es) (tA w g c E (.cons ia ies)):=
 PA.imp (zr ha hr (qk hs)) λσ H Q ⟨τ,S,se,k⟩=>by
  simp only[zt]at k;refine zh se k λda va H1 e1 p1 k1=>gq (se.up p1.same) k1 λds vs H2 e2 s2 r2 r2' k2=>k2 _ _ (p1.same.trans s2) (.cons (p1.rb.mono s2) r2) λz=>?_
  simp only[dW,aH]at z;exact .cons ((p1.st z.1).mono (zp s2)) (r2' z.2)
theorem iP:∀{es:Es}{τ:Env}{ds:List D}{l:List Expr}{n:Nat},cEs n c l=some es->zt w es τ=.ok ds->ds.length=l.length
 |_,_,_,l,0,h,_=>by simp[cEs]at h
 |es,τ,ds,[],n+1,h,e=>by
  simp only[cEs,bJ]at h;subst h;simp only[zt,R.ok.injEq]at e;subst e;rfl
 |es,τ,ds,x::l,n+1,h,e=>by
  simp only[cEs]at h;cases hs:isStar x with
  |true=>simp[hs]at h
  |false=>
   simp only[hs,bg,if_false,aE,aD]at h;obtain⟨i1,_,r,hr,h⟩:=h;cases h;simp only[zt]at e;cases q:evE w i1 τ with
   |ok z=>
    rw[q]at e;simp only[R.bind_ok]at e;cases q2:zt w r τ with
    |ok zs=>
     rw[q2]at e;cases e;simp[iP hr q2]
    |ex z=>rw[q2]at e;cases e
    |no=>rw[q2]at e;cases e
   |ex z=>rw[q]at e;cases e
   |no=>rw[q]at e;cases e
theorem kZ{n:Nat}(h:n<=100000):n<=sizeLine:=aX h (by rw[bp];decide)
theorem v9{es:List Expr}{ies:Es}{k:Nat}(ha:PA X es (tA w g c E ies))(he:dW ies=true)(hl:∀τ ds,zt w ies τ=.ok ds->ds.length<=100000):PE X (.Tuple es k pos) (tE w g c E (.tup ies)):=
 PE.imp (uY ha) λσ H Q ⟨τ,S,se,k⟩=>by
  simp only[qW,zb,qZ,zj,zf,zd,ze,zk,zg,qp,qA,qF,qu,qB,qN,qq,qw,qo,qx,ql,qG,qm,qz,qJ,qD,qr,qK,qP,qQ,qs,qH,qS,qR,qE,qy,qC,qt,qO,qI,qT,qU,qM]at k;refine gq se k λds vs H1 e1 s1 r1 r1' k1=>?_
  have r:=r1' he;exact⟨by rw[<-r.length];exact kZ (hl _ _ e1),λp hp=>k1 _ _ (aZ.of (s1.trans (zo hp)) (eY (se.sub.same s1) hp r) rfl)⟩
theorem yg{es:List Expr}{ies:Es}(ha:PA X es (tA w g c E ies))(he:dW ies=true)(hl:∀τ ds,zt w ies τ=.ok ds->ds.length<=100000):PE X (.List es pos) (tE w g c E (.lst ies)):=
 PE.imp (vM ha) λσ H Q ⟨τ,S,se,k⟩=>by
  simp only[qW,zb,qZ,zj,zf,zd,ze,zk,zg,qp,qA,qF,qu,qB,qN,qq,qw,qo,qx,ql,qG,qm,qz,qJ,qD,qr,qK,qP,qQ,qs,qH,qS,qR,qE,qy,qC,qt,qO,qI,qT,qU,qM]at k;refine gq se k λds vs H1 e1 s1 r1 r1' k1=>?_
  have r:=r1' he;exact⟨by rw[<-r.length];exact kZ (hl _ _ e1),λp hp=>k1 _ _ (aZ.new (s1.trans (zo hp)) (eZ (se.sub.same s1) hp r) (iW s1 hp r))⟩
theorem wM{b:Expr}(h:isSlice b=false):rH b:=λo i=>by cases b<;>first|rfl|(simp[isSlice]at h)
theorem sO(O:XO w g c E X)(ha:PE X a (tE w g c E ia))(hb:PE X b (tE w g c E ib))(hs:isSlice b=false):PE X (.Subscript a b pos) (tE w g c E (.ix ia ib)):=
 PE.imp (DW (sh O.K) ha hb (wM hs)) λσ H Q ⟨τ,S,se,k⟩=>by
  simp only[qW,zb,qZ,zj,zf,zd,ze,zk,zg,qp,qA,qF,qu,qB,qN,qq,qw,qo,qx,ql,qG,qm,qz,qJ,qD,qr,qK,qP,qQ,qs,qH,qS,qR,qE,qy,qC,qt,qO,qI,qT,qU,qM]at k;refine zh se k λda va H1 e1 p1 k1=>zh (se.up p1.same) k1 λdb vb H2 e2 p2 k2=>⟨S,da,db,p1.rb.mono p2.same,p2.rb,?_⟩
  cases q:ixD da db with
  |ok r=>rw[q]at k2;exact λv r=>k2 v H2 (aZ.of (p1.same.trans p2.same) r rfl)
  |ex z=>exact vZ q
  |no=>rw[q]at k2;exact k2
theorem DY(O:XO w g c E X){lo hi:Option Expr}{il ih:OE}(ha:PE X a (tE w g c E ia))(hl:PO X lo (tOe w g c E il))(hh:PO X hi (tOe w g c E ih)):PE X (.Subscript a (.Slice lo hi none p2) pos) (tE w g c E (.sl ia il ih)):=
 PE.imp (BB (uv O.K) ha hl hh) λσ H Q ⟨τ,S,se,k⟩=>by
  simp only[qW,zb,qZ,zj,zf,zd,ze,zk,zg,qp,qA,qF,qu,qB,qN,qq,qw,qo,qx,ql,qG,qm,qz,qJ,qD,qr,qK,qP,qQ,qs,qH,qS,qR,qE,qy,qC,qt,qO,qI,qT,qU,qM]at k;refine zh se k λda va H1 e1 p1 k1=>pA (se.up p1.same) k1 λl H2 e2 s2 k2=>pA (se.up (p1.same.trans s2)) k2 λh H3 e3 s3 k3=>?_
  have s:=(p1.same.trans s2).trans s3;refine⟨S,da,se.sub.same s,p1.rb.mono (s2.trans s3),?_⟩;cases q:slD da l h with
  |ok r=>rw[q]at k3;exact λv H' s' r=>k3 v H' (aZ.of (s.trans s') r rfl)
  |ex z=>exact xI q
  |no=>rw[q]at k3;exact k3
theorem sU:PO X none (tOe w g c E .none):=PO.imp Ak λσ H Q ⟨τ,S,se,k⟩=>k H (qg.refl _)
theorem Dy(ha:PE X a (tE w g c E ia)):PO X (some a) (tOe w g c E (.some ia)):=PO.imp (uN ha) λσ H Q ⟨τ,S,se,k⟩=>by
 simp only[evO]at k;refine zh se k λda va H1 e1 p1 k1=>?_
 cases da with
 |int i=>exact⟨i,p1.rb.int,k1 _ p1.same⟩
 |_=>exact k1.elim
theorem wq(O:XO w g c E X){x:Str}{fr:Bool}{e:Expr}{es:List Expr}{ies:Es}(h:glob c x=some (.fn fr))(ha:PA X (e::es) (tA w g c E ies))(he:dW ies=true)(hs:∀z∈e::es,isStar z=false):PE X (.Call (.Name x p2) (e::es) [] pos) (tE w g c E (.call x ies)):=by
 obtain⟨f,h1,h2⟩:=O.gm h;refine PE.imp (ud O h2 (O.gl h) (qX h).2.2.1 ha hs) λσ H Q ⟨τ,S,se,k⟩=>?_
 simp only[qW,zb,qZ,zj,zf,zd,ze,zk,zg,qp,qA,qF,qu,qB,qN,qq,qw,qo,qx,ql,qG,qm,qz,qJ,qD,qr,qK,qP,qQ,qs,qH,qS,qR,qE,qy,qC,qt,qO,qI,qT,qU,qM]at k;refine gq se k λds vs H1 e1 s1 r1 r1' k1=>⟨S,ds,se.sub.same s1,by rw[List.append_nil];exact r1' he,tR.imp k1 λdd hk v H' s' r f=>hk v H' ⟨s1.trans s',.inl r,λ_=>r,λz=>?_⟩⟩
 simp only[fresh,(qX h).2.1,beq_iff_eq,bJ,GK.fn.injEq]at z;exact(f z).low s1
theorem AG(O:XO w g c E X){x:Str}{fr:Bool}{e:Expr}{es:List Expr}{ies:Es}(h:glob c x=some (.fn fr))(ha:PA X (e::es) (tA w g c E ies))(hs:∀z∈e::es,isStar z=false):PE X (.Call (.Name x p2) (e::es) [] pos) (tE w g c E (.callo x ies)):=λpins s σ H Q I ⟨τ,S,se,kk⟩=>by
 simp only[qW,zb,qZ,zj,zf,zd,ze,zk,zg,qp,qA,qF,qu,qB,qN,qq,qw,qo,qx,ql,qG,qm,qz,qJ,qD,qr,qK,qP,qQ,qs,qH,qS,qR,qE,qy,qC,qt,qO,qI,qT,qU,qM]at kk;exact aS kk
theorem szl:SZ<=sizeLine:=by rw[bp];decide
theorem lu{i:Int}(h:qY i=true):i.natAbs.log2<1920:=by
 simp only[qY,aH,decide_eq_true_eq]at h;by_cases h0:i.natAbs=0
 ·rw[h0];decide
 ·exact Nat.lt_trans ((Nat.log2_lt h0).mpr (show i.natAbs<2^20 by lia)) (by decide)
theorem yk{a b:Expr}{ia ib:EV.E}{t0 t1 t2:Str}{k0 k1 k2}{p0 p1 p2 p3 p4 pos:Pos}(h0:(Str.empty++t0).length<=1000)(ha:PE X a (tE w g c E ia))(hb:PE X b (tE w g c E ib)) :
  PE X (.JoinedStr [.Constant (.str t0) k0 p0,.FormattedValue a (-1) none p1,.Constant (.str t1) k1 p2,.FormattedValue b (-1) none p3,.Constant (.str t2) k2 p4] pos) (tE w g c E (.fst2 t0 ia t1 ib t2)):=λpins s σ H Q I ⟨τ,S,se,kk⟩=>by
 simp only[qW,zb,qZ,zj,zf,zd,ze,zk,zg,qp,qA,qF,qu,qB,qN,qq,qw,qo,qx,ql,qG,qm,qz,qJ,qD,qr,qK,qP,qQ,qs,qH,qS,qR,qE,qy,qC,qt,qO,qI,qT,qU,qM]at kk;exact aS kk
theorem B0:PE X (.Dict [] [] pos) (tE w g c E .dic):=PE.imp Am λσ H Q ⟨τ,S,se,k⟩ p hp=>by
 simp only[qW,zb,qZ,zj,zf,zd,ze,zk,zg,qp,qA,qF,qu,qB,qN,qq,qw,qo,qx,ql,qG,qm,qz,qJ,qD,qr,qK,qP,qQ,qs,qH,qS,qR,qE,qy,qC,qt,qO,qI,qT,qU,qM]at k;exact k _ _ (aZ.of (zo hp) (.dic (lb se.sub hp)) rfl)
theorem pJ{b:B1}{S:Sh}{H0 H:Hp}{ds:List D}{vs:List V}{Q:VK}{ies:Es}(s:qg H0 H)(hS:Sub S H)(r:eD g H S ds vs)(k:tR g E H (b1 b ds) λd=>∀v H',aZ g c (.bi b ies) S H0 d v H'->Q v H'):rB1 g b vs H Q:=by
 refine⟨S,ds,hS,r,?_⟩;cases q:b1 b ds with
 |ok d=>
  rw[q]at k;exact λv H' s' r' f=>k v H' ⟨s.trans s',.inl r',λ_=>r',λz=>by
   have:b=.list\/b=.sorted:=by cases b<;>simp[fresh]at z ⊢
   exact(f this).low s⟩
 |ex z=>exact vp q
 |no=>rw[q]at k;exact k
theorem xf(O:XO w g c E X){x:Str}{b:B1}{e:Expr}{es:List Expr}{ies:Es}(h:glob c x=some (.bi b))(hc:X.calm=true\/b=.len\/b=.abs)(ha:PA X (e::es) (tA w g c E ies))(hs:∀z∈e::es,isStar z=false):PE X (.Call (.Name x p2) (e::es) [] pos) (tE w g c E (.bi b ies)):=by
 obtain⟨h1,h2,id,h3⟩:=O.gm h;have hb:=mw b;rw[<-h2,h3]at hb;have hcall:=oU (X:=X) (g:=g) O.K O.units b (by rcases hc with z|z|z;exact .inl z;exact .inr (.inl z);exact .inr (.inr (.inl z)));rw[h3]at hcall;refine PE.imp (lg hcall (O.gl h) h1 hb ha (qX h).2.2.2 (qX h).2.2.1 (qk (hs e aK)) (iJ λz hz=>hs z (aJ _ hz))) λσ H Q ⟨τ,S,se,k⟩=>?_
 simp only[qW,zb,qZ,zj,zf,zd,ze,zk,zg,qp,qA,qF,qu,qB,qN,qq,qw,qo,qx,ql,qG,qm,qz,qJ,qD,qr,qK,qP,qQ,qs,qH,qS,qR,qE,qy,qC,qt,qO,qI,qT,qU,qM]at k;exact gq se k λds vs H1 e1 s1 r1 r1' k1=>pJ (ies:=ies) s1 (se.sub.same s1) r1 k1
theorem Au(O:XO w g c E X){x:Str}{n:String}{b:B1}{e:Expr}{es:List Expr}{ies:Es}(h:glob c x=some (.ty n (some b)))(ha:PA X (e::es) (tA w g c E ies))(hs:∀z∈e::es,isStar z=false):PE X (.Call (.Name x p2) (e::es) [] pos) (tE w g c E (.bi b ies)):=by
 obtain⟨h1,h2,_,h3⟩:=O.gm h;obtain⟨_,h4⟩:=h3 b rfl;have hcall:=oU (X:=X) (g:=g) O.K O.units b (by cases b<;>simp[b1V]at h4 ⊢);rw[h4]at hcall;refine PE.imp (gC hcall (O.gl h) h1 h2 ha (qX h).2.2.2 (qX h).2.2.1 (qk (hs e aK)) (iJ λz hz=>hs z (aJ _ hz))) λσ H Q ⟨τ,S,se,k⟩=>?_
 simp only[qW,zb,qZ,zj,zf,zd,ze,zk,zg,qp,qA,qF,qu,qB,qN,qq,qw,qo,qx,ql,qG,qm,qz,qJ,qD,qr,qK,qP,qQ,qs,qH,qS,qR,qE,qy,qC,qt,qO,qI,qT,qU,qM]at k;exact gq se k λds vs H1 e1 s1 r1 r1' k1=>pJ (ies:=ies) s1 (se.sub.same s1) r1 k1
end
section
variable{w:W}{g:Gc}{c:Cc}{E:XK}{X:Cx}{a b d f:Expr}{ia ib id' if':EV.E}{pos p2:Pos}{ta tb:T}
noncomputable def vy(w:W)(g:Gc)(d:D)(vc:V)(bb:Bool):Cl->Prop
 | .ty n=>vc=.ty n/\((n∈["int","bool","str","list","tuple"]/\∃t,tyD d=some t/\bb=fJ t n)\/∃k,d=.exn k/\w.sub k (.ty n)=some bb)
 | .ex x=>∃D k,g.clA x=some D/\vc=.ref D/\d=.exn k/\w.sub k (.ex x)=some bb
noncomputable def clV(g:Gc)(vc:V):Cl->Prop
 | .ty n=>vc=.ty n/\(n∈["int","bool","str","list","tuple"]\/n = "ValueError")
 | .ex x=>∃D,g.clA x=some D/\vc=.ref D
theorem wz(O:XO w g c E X):zm X (.builtin "isinstance") (λxs H Q=>∃(S:Sh) (d:D) (v:V) (cl:Cl) (vc:V) (bb:Bool),xs=[v,vc]/\zz g H S d v/\vy w g d vc bb cl/\Q (.bl bb) H):=by
 have k:=(BA (X:=X) (g:=g) O.K).or (DB (X:=X));refine zm.imp k λxs H Q ⟨S,d,v,cl,vc,bb,e,rd,h,q⟩=>?_
 have exn:∀(kk:Str) (cv:ae),d=.exn kk->kB vc=some cv->(∃C,g.clA kk=some C/\zQ g.K C/\bc g.K (.ref C) cv=some bb)->∃x c cv t b,xs=[x,c]/\kB c=some cv/\TyX X.K H x t/\bc X.K t cv=some b/\Q (.bl b) H:=λkk cv ed hv ⟨C,h1,h2,h3⟩=>by
  subst ed;cases rd.rep with
  | @exn _ a C' z1 z2=>
   rw[h1]at z1;cases z1;exact⟨_,vc,cv,.ref C,bb,e,hv,.inr ⟨a,C,rfl,rfl,z2,by rw[O.K];exact h2⟩,by rw[O.K];exact h3,q⟩
 cases cl with
 |ty n=>
  obtain⟨rfl,⟨hn,t,ht,rfl⟩|⟨kk,rfl,hk⟩⟩:=h
  ·exact .inl ⟨S,d,v,n,t,e,rd,ht,hn,q⟩
  ·obtain⟨C,cv,z1,z2,z3,z4,z5⟩:=O.sub kk (.ty n) bb hk;exact .inr (exn kk (.type n) rfl rfl ⟨C,z1,z2,z5▸z3⟩)
 |ex x=>
  obtain⟨D,kk,h1,rfl,rfl,hk⟩:=h;obtain⟨C,cv,z1,z2,z3,D',z4,z5⟩:=O.sub kk (.ex x) bb hk;rw[h1]at z4;cases z4;exact .inr (exn kk (.ref D) rfl rfl ⟨C,z1,z2,z5▸z3⟩)
theorem uz{x:D}{cl:Cl}:(∃t n,tyD x=some t/\cl=.ty n/\n≠"ValueError"/\zL w x cl=.ok (.bl (fJ t n)))\/(∃k b,x=.exn k/\w.sub k cl=some b/\zL w x cl=.ok (.bl b))\/zL w x cl=.no:=by
 unfold zL;cases e:tyD x with
 |some t=>
  cases cl with
  |ty n=>
   by_cases hn:n = "ValueError"
   ·exact .inr (.inr (by simp[hn]))
   ·exact .inl ⟨t,n,rfl,rfl,hn,by simp[hn]⟩
  |ex y=>exact .inr (.inr rfl)
 |none=>
  cases x with
  |exn k=>
   cases q:w.sub k cl with
   |none=>exact .inr (.inr (by simp[q]))
   |some b=>exact .inr (.inl ⟨k,b,rfl,q,by simp[q]⟩)
  |fn y=>exact .inr (.inr (by cases cl<;>rfl))
  |_=>cases e
theorem vw(O:XO w g c E X){x:Str}{k:Expr}{cl:Cl}(h:glob c x=some .isi)(ha:PE X a (tE w g c E ia))(hk:iS c k=some cl)(hs:isStar a=false):PE X (.Call (.Name x p2) [a,k] [] pos) (tE w g c E (.isi ia cl)):=by
 obtain⟨h1,rfl⟩:=O.gm h;obtain⟨y,q,rfl⟩:∃y q,k=.Name y q:=by
  cases k<;>first|exact⟨_,_,rfl⟩|(simp[iS]at hk)
 obtain⟨vc,hv,hc⟩:∃vc,PE X (.Name y q) (tC vc)/\clV g vc cl:=by
  simp only[iS]at hk;split at hk
  ·rename_i n b e
   cases hk;obtain⟨z1,z2,z3,_⟩:=O.gm e;exact⟨.ty n,yO (O.gl e) z1 z2 rfl (qX e).2.2.2 (qX e).2.2.1,rfl,z3⟩
  ·rename_i e
   cases hk;obtain⟨C,z1,z2⟩:=O.gm e;exact⟨.ref C,jO (O.gl e) z1 rfl (qX e).2.2.1,C,z2,rfl⟩
  ·rename_i e
   cases hk;obtain⟨C,z1,z2⟩:=O.gm e;exact⟨.ref C,jO (O.gl e) z1 rfl (qX e).2.2.1,C,z2,rfl⟩
  ·cases hk
 refine PE.imp (lg (wz O) (O.gl h) h1 (by decide +kernel) (zr ha (zr hv zK) (qk hs)) (by decide) (by decide) (qk hs) rfl) λσ H Q ⟨τ,S,se,k⟩=>?_
 simp only[qW,zb,qZ,zj,zf,zd,ze,zk,zg,qp,qA,qF,qu,qB,qN,qq,qw,qo,qx,ql,qG,qm,qz,qJ,qD,qr,qK,qP,qQ,qs,qH,qS,qR,qE,qy,qC,qt,qO,qI,qT,qU,qM]at k;refine zh se k λda va H1 e1 p1 k1=>?_
 rcases uz (w:=w) (x:=da) (cl:=cl)with ⟨t,n,z1,rfl,z2,z3⟩|⟨kk,bb,rfl,z2,z3⟩|z3
 ·rw[z3]at k1;obtain⟨rfl,hc|hc⟩:=hc
  ·exact⟨S,da,va,.ty n,.ty n,_,rfl,p1.rb,⟨rfl,.inl ⟨hc,t,z1,rfl⟩⟩,k1 _ _ (aZ.of p1.same (.bl _) rfl)⟩
  ·exact absurd hc z2
 ·rw[z3]at k1;refine⟨S,.exn kk,va,cl,vc,bb,rfl,p1.rb,?_,k1 _ _ (aZ.of p1.same (.bl _) rfl)⟩;cases cl with
  |ty n=>exact⟨hc.1,.inr ⟨kk,rfl,z2⟩⟩
  |ex x=>obtain⟨D,z4,z5⟩:=hc;exact⟨D,kk,z4,z5,rfl,z2⟩
 ·rw[z3]at k1;exact k1.elim
theorem yD(O:XO w g c E X)(ha:PE X a (tE w g c E ia))(he:∀whole,isTrue a X.env whole=(do let v <-whole;standAt a.pos;holding [v] (truthy v))):PT X a (tT w g c E (.val ia)):=
 PT.imp (r8 ha he) λσ H Q ⟨τ,S,se,k⟩=>by
  simp only[eM,eK,dH,eX,eT,cY,fc]at k;refine zh se k λda va H1 e1 p1 k1=>?_
  cases q:truth da with
  |ok z=>rw[q]at k1;exact⟨z,ue O.K p1.rb q,k1 _ p1.same⟩
  |ex z=>exact absurd q A4
  |no=>rw[q]at k1;exact k1.elim
theorem xZ(ha:PT X a (tT w g c E ta)):PT X (.UnaryOp .Not a pos) (tT w g c E (.not ta)):=
 PT.imp (vo ha) λσ H Q ⟨τ,S,se,k⟩=>by
  simp only[eM,eK,dH,eX,eT,cY,fc]at k;exact jr se k λz H1 e1 s1 k1=>k1 _ s1
theorem Dv{rest:List Expr}(ha:PT X a (tT w g c E ta))(hb:PW X (.BoolOp .And (b::rest) pos) (tT w g c E tb)):PW X (.BoolOp .And (a::b::rest) pos) (tT w g c E (.and ta tb)):=
 PW.imp (Ay ha hb) λσ H Q ⟨τ,S,se,k⟩=>by
  simp only[eM,eK,dH,eX,eT,cY,fc]at k;refine jr se k λz H1 e1 s1 k1=>?_
  cases z with
  |true=>exact⟨τ,S,se.up s1,tR.imp k1 λb hk H' s=>hk H' (s1.trans s)⟩
  |false=>exact k1 _ s1
theorem uZ{rest:List Expr}(ha:PT X a (tT w g c E ta))(hb:PW X (.BoolOp .Or (b::rest) pos) (tT w g c E tb)):PW X (.BoolOp .Or (a::b::rest) pos) (tT w g c E (.or ta tb)):=
 PW.imp (AN ha hb) λσ H Q ⟨τ,S,se,k⟩=>by
  simp only[eM,eK,dH,eX,eT,cY,fc]at k;refine jr se k λz H1 e1 s1 k1=>?_
  cases z with
  |false=>exact⟨τ,S,se.up s1,tR.imp k1 λb hk H' s=>hk H' (s1.trans s)⟩
  |true=>exact k1 _ s1
theorem PI.or{tg e:Expr}{t t':TI}(h:PI X tg e t)(h':PI X tg e t'):PI X tg e (λσ H R=>t σ H R\/t' σ H R):=λpins s σ H R I q=>by
 rcases q with q|q
 ·exact h pins s σ H R I q
 ·exact h' pins s σ H R I q
theorem mR{K:av}{a:Addr}{vs:List V}{ds:List D}{H:Hp}{S:Sh}(hl:SqL K H a vs)(r:qV g (hid H S) ds vs):Goes g (Itl K a) ds H S:=by
 refine⟨λi hi=>⟨vs,hl,by rw[<-r.length];exact hi⟩,λi d hd=>?_⟩;obtain⟨v,h1,h2⟩:=r.get hd;refine⟨⟨vs,v,hl,h1⟩,λx H' ⟨e,hx⟩=>?_⟩;subst e;have:=hx vs hl;rw[h1]at this;cases this;exact⟨qg.refl _,h2⟩
theorem pO{K:av}{a:Addr}{vs:List V}{ds:List D}{H:Hp}{S:Sh}(hl:SqT K H a vs)(r:qV g (hid H S) ds vs):Goes g (Itt K a) ds H S:=by
 refine⟨λi hi=>⟨vs,hl,by rw[<-r.length];exact hi⟩,λi d hd=>?_⟩;obtain⟨v,h1,h2⟩:=r.get hd;refine⟨⟨vs,v,hl,h1⟩,λx H' ⟨e,hx⟩=>?_⟩;subst e;have:=hx vs hl;rw[h1]at this;cases this;exact⟨qg.refl _,h2⟩
theorem lT:∀{xs:List D}{k i:Nat}{d:D},(dB k xs)[i]? = some d->∃x,xs[i]? = some x/\d=.tup [.int ((k+i:Nat):Int),x]
 | [],_,_,_,h=>by simp[dB]at h
 |x::r,k,0,d,h=>by simp[dB]at h;exact⟨x,rfl,by rw[<-h];rfl⟩
 |x::r,k,i+1,d,h=>by
  simp only[dB,List.getElem?_cons_succ]at h;obtain⟨y,h1,h2⟩:=lT h;exact⟨y,by simpa using h1,by rw[h2,show k+1+i=k+(i+1)by lia]⟩
theorem mF:∀(xs:List D) (k:Nat),(dB k xs).length=xs.length
 | [],_=>rfl
 |x::r,k=>by simp[dB,mF r]
theorem nK{K:av}{a:Addr}{vs:List V}{ds:List D}{H:Hp}{S:Sh}(hl:SqL K H a vs)(r:qV g (hid H S) ds vs)(hS:Sub S H):Goes g (Ite K a) (dB 0 ds) H S:=by
 refine⟨λi hi=>⟨vs,hl,by rw[<-r.length,<-mF ds 0];exact hi⟩,λi d hd=>?_⟩;obtain⟨y,h0,rfl⟩:=lT hd;obtain⟨v,h1,h2⟩:=r.get h0;refine⟨⟨vs,v,hl,h1⟩,λx H' ⟨p,z,hp,e1,e2,hx⟩=>?_⟩;subst e1 e2;have:=hx vs hl;rw[h1]at this;cases this;refine⟨zo hp,?_⟩;rw[Nat.zero_add];exact eY hS hp (.cons (.int _) (.cons h2 .nil))
theorem pQ:∀{xs ys:List D}{i:Nat}{d:D},(cx xs ys)[i]? = some d->∃x y,xs[i]? = some x/\ys[i]? = some y/\d=.tup [x,y]
 | [],_,_,_,h=>by simp[cx]at h
 |_::_,[],_,_,h=>by simp[cx]at h
 |x::r,y::t,0,d,h=>by simp[cx]at h;exact⟨x,y,rfl,rfl,h.symm⟩
 |x::r,y::t,i+1,d,h=>by
  simp only[cx,List.getElem?_cons_succ]at h;obtain⟨x',y',h1,h2,h3⟩:=pQ h;exact⟨x',y',by simpa using h1,by simpa using h2,h3⟩
theorem o9:∀(xs ys:List D),(cx xs ys).length=min xs.length ys.length
 | [],_=>by simp[cx]
 |_::_,[]=>by simp[cx]
 |x::r,y::t=>by simp[cx,o9 r t]
theorem iV{K:av}{tup:Bool}{a b:Addr}{vs us:List V}{ds es:List D}{H:Hp}{S:Sh}(hl:Sq2 K tup H a vs)(hl':Sq2 K tup H b us)(r:qV g (hid H S) ds vs)(r':qV g (hid H S) es us)(hn:ds.length=es.length)(hS:Sub S H):Goes g (Itz K tup a b) (cx ds es) H S:=by
 refine⟨λi hi=>⟨vs,us,hl,hl',by rw[o9]at hi;rw[<-r.length];lia⟩,λi d hd=>?_⟩;obtain⟨x,y,h0,h0',rfl⟩:=pQ hd;obtain⟨v,h1,h2⟩:=r.get h0;obtain⟨u,h3,h4⟩:=r'.get h0';refine⟨⟨vs,us,v,u,hl,hl',h1,h3⟩,λx H' ⟨p,z,z',hp,e1,e2,hx,hx'⟩=>?_⟩;subst e1 e2;have q:=hx vs hl;rw[h1]at q;cases q;have q:=hx' us hl';rw[h3]at q;cases q;exact⟨zo hp,eY hS hp (.cons h2 (.cons h4 .nil))⟩
theorem iZ{lo:Int}{n:Nat}{H:Hp}{S:Sh}:Goes g (Itr lo n) (zA lo n) H S:=by
 refine⟨λi hi=>by show n<=i;simpa[zA]using hi,λi d hd=>?_⟩;unfold zA at hd;rw[List.getElem?_map]at hd;cases q:(aR n)[i]? with
 |none=>rw[q]at hd;cases hd
 |some j=>
  rw[q]at hd;cases hd;have hi:=(List.getElem?_eq_some_iff.mp q)
  obtain⟨h1,h2⟩:=hi;simp at h1 h2;subst h2;exact⟨h1,λx H' ⟨e1,e2⟩=>by subst e1 e2;exact⟨qg.refl _,.int _⟩⟩
theorem l7{x:Str}{H:Hp}{S:Sh}:Goes g (Its x) (jq x) H S:=by
 refine⟨λi hi=>by show x.cps.size<=i;simpa[jq]using hi,λi d hd=>?_⟩;unfold jq at hd;rw[List.getElem?_map]at hd;cases q:x.cps.toList[i]? with
 |none=>rw[q]at hd;cases hd
 |some c=>
  rw[q]at hd;cases hd;rw[Array.getElem?_toList]at q;obtain⟨h1,h2⟩:=Array.getElem?_eq_some_iff.mp q;refine⟨h1,λv H' ⟨e1,c',e2,e3⟩=>?_⟩;subst e1 e3;rw[q]at e2;cases e2;exact⟨qg.refl _,.str _⟩
theorem Cq(O:XO w g c E X){tg:Expr}(ha:PE X a (tE w g c E ia)):PI X tg a (tIt w g c E (.seq ia)):=
 PI.imp (PI.or (xc ha) (PI.or (Ae ha) (tf ha))) λσ H R ⟨τ,S,se,k⟩=>by
  have k0:=k;simp only[evI]at k;cases q:evE w ia τ with
  |ex z=>exact .inl ⟨τ,S,se,by rw[q]at k ⊢;exact k⟩
  |no=>rw[q]at k;exact k.elim
  |ok dd=>
   cases dd with
   |lst ds=>
    refine .inl (zh se k λda va H1 e1 p1 k1=>?_);rw[q]at e1;cases e1;obtain⟨ad,vs,rfl,h1,r1⟩:=p1.rb.lst;rw[<-O.K]at h1;refine⟨ad,rfl,⟨vs,h1⟩,k1 _ H1 p1.same (λH2 S2 s1 s2 _=>mR (s1.seq h1) (r1.mono s2)) λho H2 S2 s2 _=>?_⟩;have he:esc ia=true:=by
     cases ia<;>first|rfl|(simp[owned]at ho)
    cases p1.st he with
    |lst h2 r2=>exact mR (by rw[O.K];exact(s2.trans zI).seq h2) (r2.mono s2)
   |tup ds=>
    refine .inr (.inl (zh se k λda va H1 e1 p1 k1=>?_));rw[q]at e1;cases e1;cases p1.rb.strong (by intro _ z;cases z)with
    |tup h2 r2=>
     refine⟨_,rfl,⟨_,by rw[O.K];exact zF zI h2⟩,k1 _ H1 p1.same (λH2 S2 s1 s2 _=>pO (by rw[O.K];exact zF (s2.trans zI) h2) (r2.mono s2)) λho H2 S2 s2 _=>pO (by rw[O.K];exact zF (s2.trans zI) h2) (r2.mono s2)⟩
   |str z=>
    refine .inr (.inr (zh se k λda va H1 e1 p1 k1=>?_));rw[q]at e1;cases e1;have va':va=.str z:=by cases p1.rb.rep;rfl
    exact⟨z,va',k1 _ H1 p1.same (λH2 S2 s1 s2 _=>l7) λho H2 S2 s2 _=>l7⟩
   |_=>rw[q]at k;exact k.elim
theorem fv{j:Int}(h:qY j=true):-1000000<=j/\j<=1000000:=by simpa[qY]using h
theorem xr(O:XO w g c E X){x:Str}{tg:Expr}(h:glob c x=some .rng)(ha:PE X a (tE w g c E ia))(hs:isStar a=false):PI X tg (.Call (.Name x p2) [a] [] pos) (tIt w g c E (.rng ia)):=by
 obtain⟨h1,rfl⟩:=O.gm h;refine PI.imp (wG (O.gl h) h1 (zr ha zK (qk hs)) (qk hs)) λσ H R ⟨τ,S,se,k⟩=>?_
 simp only[evI]at k;refine zh se k λda va H1 e1 p1 k1=>?_
 cases da with
 |int j=>
  simp only at k1;cases q:qY j with
  |true=>
   rw[q,if_pos rfl]at k1;obtain⟨z1,z2⟩:=fv q;exact⟨j,by rw[p1.rb.int],by lia,by lia,k1 _ H1 p1.same (λ_ _ _ _ _=>iZ) λ_ _ _ _ _=>iZ⟩
  |false=>rw[q]at k1;exact k1.elim
 |_=>exact k1.elim
theorem tM(O:XO w g c E X){x:Str}{tg:Expr}(h:glob c x=some .rng)(ha:PE X a (tE w g c E ia))(hb:PE X b (tE w g c E ib))(hs:isStar a=false)(hs':isStar b=false):PI X tg (.Call (.Name x p2) [a,b] [] pos) (tIt w g c E (.rng2 ia ib)):=by
 obtain⟨h1,rfl⟩:=O.gm h;refine PI.imp (DO (O.gl h) h1 (zr ha (zr hb zK (qk hs')) (qk hs)) (by rw[qk hs,qk hs'];rfl) (qk hs')) λσ H R ⟨τ,S,se,k⟩=>?_
 simp only[evI]at k;refine zh se k λda va H1 e1 p1 k1=>zh (se.up p1.same) k1 λdb vb H2 e2 p2 k2=>?_
 cases da with
 |int i=>
  cases db with
  |int j=>
   simp only at k2;cases q:qY i&&qY j with
   |true=>
    rw[q,if_pos rfl]at k2;simp only[aH]at q;obtain⟨z1,z2⟩:=fv q.1;obtain⟨z3,z4⟩:=fv q.2;exact⟨i,j,by rw[p1.rb.int,p2.rb.int],⟨by lia,by lia,by lia,by lia⟩,k2 _ H2 (p1.same.trans p2.same) (λ_ _ _ _ _=>iZ) λ_ _ _ _ _=>iZ⟩
   |false=>rw[q]at k2;exact k2.elim
  |_=>exact k2.elim
 |_=>exact k2.elim
theorem tL(O:XO w g c E X){x:Str}{es:List Expr}{ek:Nat}{epos:Pos}(h:glob c x=some .enum)(ha:PE X a (tE w g c E ia))(hs:isStar a=false):PI X (.Tuple es ek epos) (.Call (.Name x p2) [a] [] pos) (tIt w g c E (.enum ia)):=by
 obtain⟨h1,rfl⟩:=O.gm h;refine PI.imp (w6 (O.gl h) h1 (by decide +kernel) (zr ha zK (qk hs)) (qk hs)) λσ H R ⟨τ,S,se,k⟩=>?_
 simp only[evI]at k;refine zh se k λda va H1 e1 p1 k1=>?_
 cases da with
 |lst ds=>
  obtain⟨ad,vs,rfl,h1,r1⟩:=p1.rb.lst;rw[<-O.K]at h1;refine⟨ad,rfl,⟨vs,h1⟩,k1 _ H1 p1.same (λH2 S2 s1 s2 s3=>nK (s1.seq h1) (r1.mono s2) s3) λho H2 S2 s2 s3=>?_⟩;have he:esc ia=true:=by
   cases ia<;>first|rfl|(simp[owned]at ho)
  cases p1.st he with
  |lst h2 r2=>exact nK (by rw[O.K];exact(s2.trans zI).seq h2) (r2.mono s2) s3
 |_=>exact k1.elim
theorem uy(O:XO w g c E X){x:Str}{es:List Expr}{ek:Nat}{epos:Pos}(h:glob c x=some .zip)(ha:PE X a (tE w g c E ia))(hb:PE X b (tE w g c E ib))(hs:isStar a=false)(hs':isStar b=false):PI X (.Tuple es ek epos) (.Call (.Name x p2) [a,b] [] pos) (tIt w g c E (.zip ia ib)):=by
 obtain⟨h1,rfl⟩:=O.gm h;refine PI.imp (AW (O.gl h) h1 (by decide +kernel) (zr ha (zr hb zK (qk hs')) (qk hs)) (by rw[qk hs,qk hs'];rfl) (qk hs')) λσ H R ⟨τ,S,se,k⟩=>?_
 simp only[evI]at k;refine zh se k λda va H1 e1 p1 k1=>zh (se.up p1.same) k1 λdb vb H2 e2 p2 k2=>?_
 have hown:∀{i1 i2:EV.E},owned (.zip i1 i2)=false->esc i1=true/\esc i2=true:=λ{i1 i2} z=>by
  have a:∀{i:EV.E},esc i=false->∃k,i=.own k:=λ{i} h=>by cases i<;>first|exact⟨_,rfl⟩|cases h
  cases e1:esc i1 with
  |false=>obtain⟨k,rfl⟩:=a e1;cases z
  |true=>
   cases e2:esc i2 with
   |false=>obtain⟨k,rfl⟩:=a e2;cases i1<;>cases z
   |true=>exact⟨rfl,rfl⟩
 have s12:=p1.same.trans p2.same;cases da with
 |lst ds=>
  cases db with
  |lst es=>
   simp only at k2;by_cases hn:ds.length=es.length
   ·rw[if_pos hn]at k2;obtain⟨ad,vs,rfl,h1,r1⟩:=(p1.rb.mono p2.same).lst;obtain⟨bd,us,rfl,h2,r2⟩:=p2.rb.lst;rw[<-O.K]at h1 h2;refine⟨false,ad,bd,rfl,⟨vs,h1⟩,⟨us,h2⟩,k2 _ H2 s12 (λH3 S3 s1 s2 s3=>iV (tup:=false) (s1.seq h1) (s1.seq h2) (r1.mono s2) (r2.mono s2) hn s3) λho H3 S3 s2 s3=>?_⟩;obtain⟨o1,o2⟩:=hown ho;cases (p1.st o1).mono (zp p2.same)with
    |lst h3 r3=>
     cases p2.st o2 with
     |lst h4 r4=>exact iV (tup:=false) (by rw[O.K];exact(s2.trans zI).seq h3) (by rw[O.K];exact(s2.trans zI).seq h4) (r3.mono s2) (r4.mono s2) hn s3
   ·rw[if_neg hn]at k2;exact k2.elim
  |_=>exact k2.elim
 |tup ds=>
  cases db with
  |tup es=>
   simp only at k2;by_cases hn:ds.length=es.length
   ·rw[if_pos hn]at k2;cases (p1.rb.mono p2.same).strong (by intro _ z;cases z)with
    |tup h3 r3=>
     cases p2.rb.strong (by intro _ z;cases z)with
     |tup h4 r4=>
      refine⟨true,_,_,rfl,⟨_,by rw[O.K];exact zF zI h3⟩,⟨_,by rw[O.K];exact zF zI h4⟩,k2 _ H2 s12 (λH3 S3 s1 s2 s3=>?_) λho H3 S3 s2 s3=>?_⟩
      ·exact iV (tup:=true) (by rw[O.K];exact zF (s2.trans zI) h3) (by rw[O.K];exact zF (s2.trans zI) h4) (r3.mono s2) (r4.mono s2) hn s3
      ·exact iV (tup:=true) (by rw[O.K];exact zF (s2.trans zI) h3) (by rw[O.K];exact zF (s2.trans zI) h4) (r3.mono s2) (r4.mono s2) hn s3
   ·rw[if_neg hn]at k2;exact k2.elim
  |_=>exact k2.elim
 |_=>exact k2.elim
end
noncomputable def gN:List Nat->TGs
 | []=>rC
 |i::is=>nO (ff i) (gN is)
noncomputable def gT(K:av):Tg->TG
 | .nm i=>ff i
 | .tp is=>l5 K is.length (gN is)
section
variable{w:W}{g:Gc}{c:Cc}{E:XK}{X:Cx}
theorem eN{x:Str}{i:Nat}(h:de c x=some i):loc c x=some i/\(c.nm.lookup x=some .local\/(c.nm.lookup x=some .cell/\(c.fnc=true\/c.oc.contains x=true))):=by
 unfold de at h;split at h
 ·rename_i q;exact⟨h,.inl q⟩
 ·rename_i q
  split at h
  ·rename_i z;exact⟨h,.inr ⟨q,by simpa using z⟩⟩
  ·cases h
 ·cases h
theorem mG(O:XO w g c E X){x:Str}{i:Nat}{pos:Pos}(h:de c x=some i):PG X (.Name x pos) (ff i):=by
 obtain⟨h1,h2⟩:=eN h;obtain⟨h3,_⟩:=et h1;refine u_ (by rw[O.N];exact O.nd) (by rw[O.N];exact h3) (by unfold L2.Loc;rw[O.nm];rcases h2 with z|z;exact .inl z;exact .inr z.1) ?_;rcases h2 with z|z
 ·exact .inr (by rw[O.nm];exact z)
 ·exact .inl (O.fn x z.2)
theorem nk:∀{es:List Expr}{xs:List Str},gk es=some xs->∃ps:List Pos,es=(xs.zip ps).map (λp=>Expr.Name p.1 p.2)/\ps.length=xs.length
 | [],xs,h=>by simp[gk]at h;subst h;exact⟨[],rfl,rfl⟩
 |e::es,xs,h=>by
  cases e with
  |Name y p=>
   simp only[gk,a_]at h;obtain⟨ys,h1,rfl⟩:=h;obtain⟨ps,h2,h3⟩:=nk h1;exact⟨p::ps,by rw[h2];rfl,by simp[h3]⟩
  |_=>simp[gk]at h
theorem o_(O:XO w g c E X):∀{xs:List Str}{ps:List Pos}{is:List Nat},ps.length=xs.length->xs.mapM (de c)=some is ->
  PGs X ((xs.zip ps).map λp=>Expr.Name p.1 p.2) (gN is)/\(assignEach ((xs.zip ps).map λp=>Expr.Name p.1 p.2) X.env).length=is.length/\(assignEach ((xs.zip ps).map λp=>Expr.Name p.1 p.2) X.env).findIdx? (·.1)=none
 | [],ps,is,_,h=>by
  simp at h;subst h;exact⟨B7,rfl,rfl⟩
 |x::xs,[],_,h,_=>by simp at h
 |x::xs,p::ps,is,hl,h=>by
  simp only[List.mapM_cons,aE,aD]at h;obtain⟨i,h1,js,h2,h3⟩:=h;cases h3;obtain⟨r1,r2,r3⟩:=o_ O (xs:=xs) (ps:=ps) (by simpa using hl) h2;refine⟨DV (mG O h1) r1 rfl,?_,?_⟩
  ·show (assignEach ((xs.zip ps).map λp=>Expr.Name p.1 p.2) X.env).length+1=js.length+1;rw[r2]
  ·show List.findIdx? (·.1) ((false,_)::assignEach ((xs.zip ps).map λp=>Expr.Name p.1 p.2) X.env)=none;rw[List.findIdx?_cons];simp only[bg,if_false];rw[r3];rfl
theorem jx(O:XO w g c E X){e:Expr}{tg:Tg}(h:cTg c e=some tg):PG X e (gT X.K tg):=by
 cases e with
 |Name x p=>
  simp only[cTg]at h;split at h
  ·cases h
  ·simp only[a_]at h;obtain⟨i,h1,rfl⟩:=h;exact mG O h1
 |Tuple es k p=>
  simp only[cTg]at h;split at h
  ·rename_i hc
   simp only[aE,aD]at h;obtain⟨xs,h1,h⟩:=h;split at h
   ·cases h
   ·simp only[aD]at h;obtain⟨is,h2,h⟩:=h;split at h
    ·cases h;obtain⟨ps,rfl,hl⟩:=nk h1;obtain⟨r1,r2,r3⟩:=o_ O hl h2;exact Cw (O.calm hc) r1 r2 r3
    ·cases h
  ·cases h
 |_=>simp[cTg]at h
noncomputable def iE(c:Cc):Tg->Prop
 | .nm i=>∀x,c.N[i]? = some x->c.own.contains x=false
 | .tp is=>∀i∈is,∀x,c.N[i]? = some x->c.own.contains x=false
theorem o5{α β:Type}{f:α->Option β}:∀{xs:List α}{ys:List β},xs.mapM f=some ys->∀y∈ys,∃x∈xs,f x=some y
 | [],ys,h,y,hy=>by simp at h;subst h;simp at hy
 |x::xs,ys,h,y,hy=>by
  simp only[List.mapM_cons,aE,aD]at h;obtain⟨z,h1,zs,h2,h3⟩:=h;cases h3;rcases aG.mp hy with rfl|hy
  ·exact⟨x,aK,h1⟩
  ·obtain⟨x',h4,h5⟩:=o5 h2 y hy;exact⟨x',aJ _ h4,h5⟩
theorem oj{e:Expr}{tg:Tg}(h:cTg c e=some tg):iE c tg:=by
 have one:∀{x:Str}{i:Nat},c.own.contains x=false->de c x=some i->∀y,c.N[i]? = some y->c.own.contains y=false:=λ{x i} ho hl y hy=>by
  obtain⟨h3,_⟩:=et (eN hl).1;rw[h3]at hy;cases hy;exact ho
 cases e with
 |Name x p=>
  simp only[cTg]at h;split at h
  ·cases h
  ·rename_i ho
   simp only[a_]at h;obtain⟨i,h1,rfl⟩:=h;exact one (by simpa using ho) h1
 |Tuple es k p=>
  simp only[cTg]at h;split at h
  ·simp only[aE,aD]at h;obtain⟨xs,h1,h⟩:=h;split at h
   ·cases h
   ·rename_i ho
    simp only[aD]at h;obtain⟨is,h2,h⟩:=h;split at h
    ·cases h;intro i hi;obtain⟨x,hx,hl⟩:=o5 h2 i hi;refine one ?_ hl;cases q:c.own.contains x with
     |false=>rfl
     |true=>exact absurd (List.any_eq_true.mpr ⟨x,hx,q⟩) ho
    ·cases h
  ·cases h
 |_=>simp[cTg]at h
section
variable{τ τ':Env}{σ:L2.St}{H:Hp}{S:Sh}
theorem SE.set{i:Nat}{d:D}{v:V}(se:SE g c τ σ H S)(r:Rep g (hid H S) d v):SE g c (τ.set i (some d)) (σ.set i (some v)) H S:=by
 refine⟨by simp[se.len],λj e h=>?_,se.sub⟩;by_cases hij:i=j
 ·subst hij;by_cases hi:i<τ.length
  ·simp[hi]at h;subst h;have hi':i<σ.length:=by rw[<-se.len];exact hi
   exact⟨v,by simp[hi'],.inl r,λ_ _ _=>r⟩
  ·rw[List.set_eq_of_length_le (by lia)]at h;rw[List.getElem?_eq_none (by lia)]at h;cases h
 ·rw[List.getElem?_set_ne hij]at h ⊢;exact se.val j e h
theorem SE.setAll{is:List Nat}:∀{ds:List D}{vs:List V}{τ:Env}{σ:L2.St}{Q:L2.St->Hp->Prop},SE g c τ σ H S->qV g (hid H S) ds vs->setAll is ds τ=.ok τ'->(∀σ',SE g c τ' σ' H S->Q σ' H)->gN is vs σ H Q:=by
 induction is with
 |nil=>
  intro ds vs τ σ Q se r h k;cases r with
  |nil=>cases (show R.ok τ=R.ok τ' from h);exact⟨rfl,k σ se⟩
  |cons _ _=>cases (show R.no=R.ok τ' from h)
 |cons i is ih=>
  intro ds vs τ σ Q se r h k;cases r with
  |nil=>cases (show R.no=R.ok τ' from h)
  |cons r rs=>exact⟨_,_,rfl,ih (se.set r) rs h k⟩
theorem yS(O:X.K=g.K){tg:Tg}{d:D}{v:V}{Q:L2.St->Hp->Prop}(se:SE g c τ σ H S)(r:Rep g (hid H S) d v)(h:store tg d τ=.ok τ')(k:∀σ',SE g c τ' σ' H S->Q σ' H):gT X.K tg v σ H Q:=by
 cases tg with
 |nm i=>
  simp only[store,R.ok.injEq]at h;subst h;exact k _ (se.set r)
 |tp is=>
  cases d with
  |tup ds=>
   simp only[store]at h;split at h
   ·rename_i hl
    cases r with
    |tup h1 r1=>exact⟨_,_,rfl,by rw[O];exact zF zI h1,by rw[<-r1.length];exact hl,se.setAll r1 h k⟩
   ·cases h
  |_=>simp[store]at h
end
end
abbrev c_(c:Cc)(sc:aO):Cc:={c with nm:=jm sc.names c.nm,N:=bR sc.names,fnc:=false,oc:=h_ sc.names}
section
variable{w:W}{g:Gc}{c:Cc}{E:XK}{X:Cx}
theorem XO.comp(O:XO w g c E X){sc:aO}(hk:sc.kind=.function)(hnd:(bR sc.names).Nodup)(cl:List (Str×Addr))(C:Addr)(s₀:af)(H₀:Hp)(fp:List Addr):XO w g (c_ c sc) E0 (zH X (bR sc.names) sc cl C s₀ H₀ fp) where
 K:=O.K
 nm:=by
  show (relabel sc X.env).names=jm sc.names c.nm;unfold relabel jm;simp only
  congr 1
  funext p;have h1:(X.env.scope.kind==ScopeKind.function)=true:=by rw[O.kind];rfl
  have h2:X.env.kindOf p.1=c.nm.lookup p.1:=by show X.env.scope.names.lookup p.1=_;rw[O.nm]
  obtain⟨n,k⟩:=p;simp only at h2;simp only[h1,h2,Bool.and_true]
 N:=rfl
 nd:=hnd
 calm:=O.calm
 units:=O.units
 fn:=λx z=>z.elim (λz=>by cases z) λz=>z
 kind:=hk
 pass:=kU rfl rfl
 gok:=O.gok
 fns:=O.fns
 sub:=O.sub
theorem CF{α:Type}{τ:Env}{σ:L2.St}{H:Hp}{S:Sh}{it:It}{f:List D->R α}{P:α->Prop}{R':L2.It->Hp->Prop}(se:SE g c τ σ H S)(h:tR g E H ((evI w it τ).bind f) P)
  (k:∀ds J H',evI w it τ=.ok ds->qg H H'->(∀H2 S2,qg H' H2->qg (hid H' S) (hid H2 S2)->Sub S2 H2->Goes g J ds H2 S2)->(owned it=false->∀H2 S2,qg (hid H' S) (hid H2 S2)->Sub S2 H2->Goes g J ds H2 S2)->tR g E H' (f ds) P->R' J H'):tIt w g c E it σ H R':=by
 refine⟨τ,S,se,?_⟩;cases q:evI w it τ with
 |ok d=>rw[q]at h;exact λJ H' s k1 k2=>k d J H' q s k1 k2 (tR.up h s)
 |ex x=>rw[q]at h;exact h
 |no=>rw[q]at h;exact h
theorem Dh{α:Type}{r:R α}{x:Str}:noEx r≠.ex x:=by cases r<;>intro h<;>cases h
theorem BS{α:Type}{r:R α}{a:α}(h:noEx r=.ok a):r=.ok a:=by cases r<;>first|exact h|cases h
theorem nX{body:D->Env->R (Env×List D)}(hb:∀d τ x,body d τ≠.ex x):∀{ds:List D}{τ:Env}{acc:List D}{x:Str},ck body ds τ acc≠.ex x
 | [],_,_,_,h=>by cases h
 |d::r,τ,acc,x,h=>by
  simp only[ck]at h;cases q:body d τ with
  |ok p=>rw[q]at h;exact nX hb h
  |ex y=>exact hb _ _ _ q
  |no=>rw[q]at h;cases h
theorem SE.caps{sc:aO}{cap:List (Option Nat)}{τ:Env}{σ:L2.St}{H:Hp}{S:Sh}(O:XO w g c E X)(hc:oq X (bR sc.names) cap sc)(se:SE g c τ σ H S):SE g (c_ c sc) (dX cap τ) (L2.caps cap σ) H S:=by
 refine⟨by simp[dX,L2.caps],λi d h=>?_,se.sub⟩;unfold dX at h;rw[List.getElem?_map]at h;cases q:cap[i]? with
 |none=>rw[q]at h;cases h
 |some o=>
  cases o with
  |none=>rw[q]at h;cases h
  |some j=>
   rw[q]at h;simp only[Option.map_some,Option.bind_some,bJ]at h;cases q2:τ[j]? with
   |none=>rw[q2]at h;cases h
   |some z=>
    rw[q2]at h;cases z with
    |none=>cases h
    |some d'=>
     have:d'=d:=by simpa using h
     subst this;obtain⟨v,h1,h2,h3⟩:=se.val j d' q2;refine⟨v,?_,h2,λx hx ho=>?_⟩
     ·unfold L2.caps;rw[List.getElem?_map,q];simp[h1]
     ·obtain⟨y,e1,e2,_⟩:=hc.2 i j q;have hx':(bR sc.names)[i]? = some x:=hx;rw[e1]at hx';cases hx';exact h3 _ (by rw[<-O.N];exact e2) ho
theorem gR{H:Hp}{S:Sh}{p:Addr}{o:HO}(h:S.h p=true):hid (upd H p o) S=hid H S:=by
 funext b;unfold hid;by_cases hb:b=p
 ·subst hb;rw[if_pos h,if_pos h]
 ·rw[qi hb]
theorem SE.grow{c:Cc}{τ:Env}{σ:L2.St}{H:Hp}{S:Sh}{p:Addr}{o:HO}(se:SE g c τ σ H S)(h:S.h p=true)(ho:S.o p=false):SE g c τ σ (upd H p o) S:=by
 refine⟨se.len,λi d e=>?_,λa ha n=>?_⟩
 ·obtain⟨v,h1,h2,h3⟩:=se.val i d e;refine⟨v,h1,?_,λx hx hy=>by rw[gR h];exact h3 x hx hy⟩;rcases h2 with h2|⟨a,vs,ds,z1,z2,z3,z4,z5⟩
  ·exact .inl (by rw[gR h];exact h2)
  ·refine .inr ⟨a,vs,ds,z1,z2,z3,?_,by rw[gR h];exact z5⟩;rw[qi (λz=>by rw[z,ho]at z1;cases z1)];exact z4
 ·by_cases hb:a=p
  ·subst hb;rw[zu]at n;cases n
  ·rw[qi hb]at n;exact se.sub a ha n
theorem SE.hide{c:Cc}{τ:Env}{σ:L2.St}{H:Hp}{S:Sh}{p:Addr}{vs:List V}(se:SE g c τ σ H S)(hp:H p=none):SE g c τ σ (upd H p (.lst vs)) (cj S p):=by
 refine⟨se.len,λi d e=>?_,λa ha n=>?_⟩
 ·obtain⟨v,h1,h2,h3⟩:=se.val i d e;refine⟨v,h1,?_,λx hx hy=>(h3 x hx hy).mono (jd hp)⟩;rcases h2 with h2|⟨a,vs,ds,z1,z2,z3,z4,z5⟩
  ·exact .inl (h2.mono (jd hp))
  ·exact .inr ⟨a,vs,ds,z1,z2,z3,zo hp _ _ z4,z5.mono (jd hp)⟩
 ·by_cases hb:a=p
  ·subst hb;rw[zu]at n;cases n
  ·rw[qi hb]at n;refine se.sub a ?_ n;rcases ha with ha|ha
   ·refine .inl ?_;have ha:(S.h a||a==p)=true:=ha
    simpa[hb]using ha
   ·exact .inr ha
theorem pN(O:XO w g c E X){sc:aO}{cap:List (Option Nat)}{iit:It}{itg:Tg}{tt:T}{ielt:EV.E}(hS:dC X (bR sc.names) cap sc)(he:esc ielt=true){σ:L2.St}{H:Hp}{Q:VK}(hq:tE w g c E (.comp iit cap itg tt ielt) σ H Q) :
  lh cap (tIt w g c E iit) (gT X.K itg) (tT w g (c_ c sc) E0 tt) (λacc=>jL acc (tE w g (c_ c sc) E0 ielt)) σ H Q:=by
 obtain⟨τ,S,se,k⟩:=hq;simp only[qW,zb,qZ,zj,zf,zd,ze,zk,zg,qp,qA,qF,qu,qB,qN,qq,qw,qo,qx,ql,qG,qm,qz,qJ,qD,qr,qK,qP,qQ,qs,qH,qS,qR,qE,qy,qC,qt,qO,qI,qT,qU,qM]at k;refine CF se k λds J H1 e1 s1 kW _ k1 acc hacc=>?_
 by_cases hz:SZ<ds.length
 ·rw[if_pos hz]at k1;exact k1.elim
 rw[if_neg hz]at k1;generalize hbody:(λx σ=>noEx ((store itg x σ).bind λσ'=>(evT w tt σ').bind λr=>if r=true then (evE w ielt σ').bind λd=>R.ok (σ',[d])else R.ok (σ',[])))=body at k1;have bex:∀d τ x,body d τ≠.ex x:=λd τ x=>by rw[<-hbody];exact Dh
 cases hl:ck body ds (dX cap τ) []with
 |ex z=>exact absurd hl (nX bex)
 |no=>rw[hl]at k1;exact k1.elim
 |ok out=>
  rw[hl]at k1;simp only[R.bind_ok]at k1;have k1:∀v H',aZ g c (.comp iit cap itg tt ielt) S H (.lst out) v H'->Q v H':=k1;have sub1:=se.sub.same s1;have hoacc:S.o acc=false:=sub1.freeO hacc;have hhacc:(cj S acc).h acc=true:=by show (S.h acc||acc==acc)=true;simp
  -- what holds between two turns
  refine⟨λi m σ' H'=>m=ds.length-i/\i<=ds.length/\∃τ' o,ck body (ds.drop i) τ' o=.ok out/\SE g (c_ c sc) τ' σ' H' (cj S acc)/\o.length<=i/\qg H1 H'/\∃vs,H' acc=some (.lst vs)/\qV g (hid H' (cj S acc)) o vs,
   ⟨ds.length,rfl,bH _,dX cap τ,[],hl,(se.up s1).caps O hS.cap |>.hide hacc,az _,zo hacc,[],zu,.nil⟩,?_⟩
  rintro i m σ' H' ⟨rfl,hi',τ',o,hlo,se',hol,s1',vs,hv,hr⟩;have keep:qg (hid H1 S) (hid H' (cj S acc)):=λb u hb=>by
   obtain⟨z1,z2⟩:=bO.mp hb;refine bO.mpr ⟨?_,s1' _ _ z2⟩;show (S.h b||b==acc)=false;rw[z1]
   simpa using λz:b=acc=>by rw[z,hacc]at z2;cases z2
  obtain⟨g1,g2⟩:=kW H' (cj S acc) s1' keep se'.sub;by_cases hlt:i<ds.length
  ·have hd:ds[i]? = some ds[i]:=List.getElem?_eq_getElem hlt;obtain⟨go1,go2⟩:=g2 i ds[i] hd;refine .inr ⟨go1,λσ'' H''=>∃τ' o,ck body (ds.drop (i+1)) τ' o=.ok out/\SE g (c_ c sc) τ' σ'' H'' (cj S acc)/\o.length<=i+1/\qg H1 H''/\∃vs,H'' acc=some (.lst vs)/\qV g (hid H'' (cj S acc)) o vs,
    λσ'' H'' z=>⟨ds.length-(i+1),by lia,rfl,hlt,z⟩,λx H2 hy=>?_⟩
   obtain⟨s2,rx⟩:=go2 x H2 hy;rw[List.drop_eq_getElem_cons hlt]at hlo;simp only[ck]at hlo;cases q:body ds[i] τ' with
   |ex z=>exact absurd q (bex _ _ _)
   |no=>rw[q]at hlo;cases hlo
   |ok p=>
    rw[q]at hlo;simp only[R.bind_ok]at hlo;rw[<-hbody]at q;have q:=BS q;cases q1:store itg ds[i] τ' with
    |ex z=>rw[q1]at q;cases q
    |no=>rw[q1]at q;cases q
    |ok τ1=>
     rw[q1]at q;simp only[R.bind_ok]at q;refine yS O.K (se'.up s2) rx q1 λσ1 se1=>?_
     cases q2:evT w tt τ1 with
     |ex z=>rw[q2]at q;cases q
     |no=>rw[q2]at q;cases q
     |ok r=>
      rw[q2]at q;simp only[R.bind_ok]at q;refine⟨τ1,cj S acc,se1,?_⟩;rw[q2];intro H3 s3;have hv3:=s3 _ _ (s2 _ _ hv);have s13:=s1'.trans (s2.trans s3);cases r with
      |false=>
       simp only[bg,if_false,R.ok.injEq]at q;subst q;rw[if_neg b6];exact⟨τ1,o++[],hlo,se1.up s3,by simp;lia,s13,vs,hv3,by rw[List.append_nil];exact hr.mono (zp (s2.trans s3))⟩
      |true=>
       simp only[if_true]at q;rw[if_pos rfl];cases q3:evE w ielt τ1 with
       |ex z=>rw[q3]at q;cases q
       |no=>rw[q3]at q;cases q
       |ok dd=>
        rw[q3]at q;simp only[R.bind_ok,R.ok.injEq]at q;subst q;refine⟨τ1,cj S acc,se1.up s3,?_⟩;rw[q3];intro v H4 p4;have hv4:=p4.same _ _ hv3;have hr4:=hr.mono (zp ((s2.trans s3).trans p4.same));have hz':vs.length<sizeLine:=by
         rw[<-hr.length,bp];have:ds.length<=SZ:=dw hz;unfold SZ at this;lia
        refine⟨vs,hv4,hz',τ1,o++[dd],hlo,(se1.up (s3.trans p4.same)).grow hhacc hoacc,by simp;lia,λb u hb=>?_,vs++[v],zu,?_⟩
        ·rw[qi (λz=>by rw[z,hacc]at hb;cases hb)];exact p4.same _ _ (s13 _ _ hb)
        ·rw[gR hhacc];exact hr4.append (.cons (p4.st he) .nil)
  ·have e:i=ds.length:=by lia
   subst e;refine .inl ⟨g1 ds.length (az _),?_⟩;rw[List.drop_length]at hlo;simp only[ck,R.ok.injEq]at hlo;subst hlo;have rep:Rep g (hid H' S) (.lst o) (.ref acc):=.lst (SqL.of (bO.mpr ⟨sub1.free hacc,hv⟩)) (hr.mono mm);exact k1 _ _ (aZ.new (s1.trans s1') rep ⟨acc,vs,o,rfl,rfl,s1.free hacc,hv,hr⟩)
theorem v8(O:XO w g c E X)(hcalm:X.calm=true){sc:aO}{cap:List (Option Nat)}{tgt it elt:Expr}{ifs:List Expr}{pos:Pos}{iit:It}{itg:Tg}{tt:T}{ielt:EV.E}(hS:dC X (bR sc.names) cap sc)(hnd:(bR sc.names).Nodup)
  (hi:PI X tgt it (tIt w g c E iit)) (hb:∀cl C s₀ H₀ fp,PG (zH X (bR sc.names) sc cl C s₀ H₀ fp) tgt (gT X.K itg)/\PTs (zH X (bR sc.names) sc cl C s₀ H₀ fp) ifs (tT w g (c_ c sc) E0 tt)/\PE (zH X (bR sc.names) sc cl C s₀ H₀ fp) elt (tE w g (c_ c sc) E0 ielt))
  (he:esc ielt=true) (hs:zv it=true):PE X (.ListComp elt [⟨tgt,it,ifs,0⟩] sc pos) (tE w g c E (.comp iit cap itg tt ielt)):=by
 exact PE.imp (BY (tb:=λacc=>jL acc (tE w g (c_ c sc) E0 ielt)) hcalm hS hi (λcl C s₀ H₀ fp=>⟨(hb cl C s₀ H₀ fp).1,(hb cl C s₀ H₀ fp).2.1,λacc=>nT rfl (hb cl C s₀ H₀ fp).2.2⟩) (by simp) (λx=>by cases it<;>first|rfl|(simp[zv]at hs))) λσ H Q q=>pN O hS he q
end
section
variable{prog:ay}{w:au}{A:ax}{E:ae->af->Prop}{s:af}
theorem xg{Q:List ae->af->Prop}{r:Addr}{a b c:Int}{t u v:Tok}{n:Nat}(hh:A.handled=none)(hr:IsRange s.heap r a b c t u v)(hsmall:Builtin.Range.small a b c=true)(hn:Builtin.Range.rangeSize a b c=n)(hlen:n<=2^24)
  (hQ:∀h' tk acc,(∀b o',s.heap.get? b=some o'->h'.get? b=some o')->ItemsOf (λi v=>∃t,v=.int (a+i * c) t) acc n->Q acc.toList {s with heap:=h',toks:=tk}):aj (ak prog w) A (collect (.ref r)) Q E s:=by
 unfold collect;refine ag (wpAny_runValue (b8 PySem.F.entry_proto_collect ?_));rw[dk PySem.F.plain_proto_collect _];show aj _ A.in1 (newList []>>=λl=>again (.builtin "list.__iadd__" ⟨[l,.ref r],[]⟩)) _ _ s;refine ag (bt ?_);refine ar ⟨plainId_quiet PySem.F.plain_list_iadd _,b8 PySem.F.entry_list_iadd ?_⟩;rw[dk PySem.F.plain_list_iadd _];show aj _ A.in1 (Builtin.List.listExtendWith (.ref s.heap.objs.size) (.ref r) (.ref s.heap.objs.size)) _ _ _;have hS:(s.heap.push {cls:=.type "list",data:=.seq ([]:List ae).toArray}).get? s.heap.objs.size=some {cls:=.type "list",data:=.seq #[] 0}:=Heap.get?_push_size _ rfl;have fin':∀(h':Heap) (tk:Nat) (acc:Array ae) (c':Nat),(∀b o,b≠s.heap.objs.size->(s.heap.push {cls:=.type "list",data:=.seq ([]:List ae).toArray}).get? b=some o->h'.get? b=some o)->h'.get? s.heap.objs.size=some {cls:=.type "list",dict:=none,data:=.seq acc c',slots:=#[]} ->
   ItemsOf (λi v=>∃t,v=.int (a+i * c) t) acc n->aj (ak prog w) A (match bf s.heap.objs.size with
   |bf a=>do
    match (<-load a).data with
     |Data.seq xs _=>pure xs.toList
     |_=>unsupported "internal:collect"
   |_=>unsupported "internal:collect") Q E {s with heap:=h',toks:=tk}:=λh' tk acc c' hk hS' hacc=>by
  show aj _ A (load s.heap.objs.size>>=_) _ _ _;refine ag (wpAny_load hS' ?_);exact ar (hQ h' tk acc (λb o' hb=>hk b o' (aU (aF hb)) (Heap.get?_push_of_some _ hb)) hacc)
 refine bI (wpAny_extend_range (A:=A) (R:=λr s'=>r=.ok (.ret (.ref s.heap.objs.size))/\∃h' tk acc c',s'={s with heap:=h',toks:=tk}/\(∀b o,b≠s.heap.objs.size->(s.heap.push {cls:=.type "list",data:=.seq ([]:List ae).toArray}).get? b=some o->h'.get? b=some o)/\h'.get? s.heap.objs.size=some {cls:=.type "list",dict:=none,data:=.seq acc c',slots:=#[]}/\ItemsOf (λi v=>∃t,v=.int (a+i * c) t) acc n)
  (s:={s with heap:=s.heap.push {cls:=.type "list",data:=.seq ([]:List ae).toArray}}) hh (Heap.get?_push_of_some _ hr) hsmall hn hlen _ _ 0 hS λh' tk acc c' hk hS' hacc=>⟨rfl,h',tk,acc,c',rfl,hk,hS',hacc⟩) (λfin s' h=>?_) (λe s' h=>?_)
 ·cases fin with
  |done f=>
   obtain⟨e,h',tk,acc,c',rfl,hk,hS',hacc⟩:=h;cases e;exact fin' h' tk acc c' hk hS' hacc
  |again c'=>exact⟨h.1,cb h.2 λr s'' hr=>by obtain⟨rfl,h',tk,acc,c',rfl,hk,hS',hacc⟩:=hr;exact fin' h' tk acc c' hk hS' hacc⟩
 ·exact absurd h.1 (by simp)
theorem Al(r:Addr)(a b c:Int)(t u v:Tok)(n:Nat)(hsmall:Builtin.Range.small a b c=true)(hn:Builtin.Range.rangeSize a b c=n)(hlen:n<=2^24) :
  PySem.Meets (Builtin.«tuple.__new__» ⟨[.type "tuple",.ref r],[]⟩)
   (λA R s=>A.handled=none/\IsRange s.heap r a b c t u v/\∀(h':Heap) (tk:Nat) (acc:Array ae),(∀b o',s.heap.get? b=some o'->h'.get? b=some o')->ItemsOf (λi v=>∃t,v=.int (a+i * c) t) acc n->R (.ok (.ret (.ref h'.objs.size))) {s with heap:=h'.push {cls:=.type "tuple",data:=.seq acc},toks:=tk}):=
 .of_wp λprog w A R s h=>by
  obtain⟨hh,ht,h⟩:=h;have hsub:=sub_tuple_self;have hinit:=init_tuple_lookup;have hmh:=madeHere_tuple;have hT:s.TypeIs (.ref r) "range":=⟨_,ht,rfl⟩
  have hh1:A.in1.handled=none:=hh
  wp_walk using wpAny_typeOf hT,xg (hsmall:=hsmall) (hn:=hn) (hlen:=hlen) hh1 ht
  intro h' tk acc hk hacc;show aj _ _ (bY acc.toList.toArray>>=λv=>ret v) _ _ _;unfold bY;refine ag (bt ?_ (show acc.toList.toArray.size<=aI by simp only[Array.toArray_toList];rw[hacc.1,bp];lia));refine ar ⟨_,rfl,?_⟩;have e:acc.toList.toArray=acc:=by simp
  rw[e];exact h h' tk acc hk hacc
theorem CQ{r:Addr}{a b c:Int}{t u v:Tok}{n:Nat}{Q:ae->af->Prop}(hh:A.handled=none)(hr:IsRange s.heap r a b c t u v)(hsmall:Builtin.Range.small a b c=true)(hn:Builtin.Range.rangeSize a b c=n)(hlen:n<=2^24)
  (h:∀(h':Heap) (tk:Nat) (acc:Array ae),(∀b o',s.heap.get? b=some o'->h'.get? b=some o')->ItemsOf (λi v=>∃t,v=.int (a+i * c) t) acc n->Q (.ref h'.objs.size) {s with heap:=h'.push {cls:=.type "tuple",data:=.seq acc},toks:=tk}) :
  aj (ak prog w) A (call (.type "tuple") [.ref r]) Q E s:=
 callType_new PySem.F.called_tuple (by decide) (PySem.F.typeCall_tuple_1 _) (PySem.F.newCall_tuple_1 _) (λobj=>PySem.F.args_object_init_2 obj _) PySem.F.entry_tuple_new
  (Al r a b c t u v n hsmall hn hlen) ⟨hh,hr,λh' tk acc hk hacc=>⟨⟨_,Heap.get?_push_size _ rfl,rfl⟩,h h' tk acc hk hacc⟩⟩
end
theorem mX:∀{xs:List V}{us:List ae},xs.length=us.length->(∀(i:Nat) x u,xs[i]? = some x->us[i]? = some u->L2.RelV x u)->Vals xs us
 | [],[],_,_=>.nil
 |x::xs,u::us,h,k=>.cons (k 0 x u rfl rfl) (mX (by simpa using h) λi y v h1 h2=>k (i+1) y v (by simpa using h1) (by simpa using h2))
 | [],_::_,h,_=>by simp at h
 |_::_,[],h,_=>by simp at h
noncomputable def dG(lo:Int)(n:Nat):List V:=(aR n).map λ(i:Nat)=>.int (lo+(i:Int))
theorem mf{lo:Int}{n:Nat}{acc:Array ae}(h:ItemsOf (λi v=>∃t,v=.int (lo+i * 1) t) acc n):Vals (dG lo n) acc.toList:=by
 refine mX (by simp[dG,h.1]) λi x u hx hu=>?_
 unfold dG at hx;rw[List.getElem?_map]at hx;cases q:(aR n)[i]? with
 |none=>rw[q]at hx;cases hx
 |some j=>
  rw[q]at hx;cases hx;obtain⟨h1,h2⟩:=List.getElem?_eq_some_iff.mp q;simp at h2;subst h2;obtain⟨t,ht⟩:=h.2 i u (by simpa using hu);rw[ht];exact⟨t,by rw[Int.mul_one]⟩
theorem lB{g:Gc}{H:Hp}{lo:Int}{n:Nat}:qV g H (zA lo n) (dG lo n):=by
 unfold zA dG;generalize aR n=l
 induction l with
 |nil=>exact .nil
 |cons i l ih=>exact .cons (.int _) ih
section
variable{X:Cx}
theorem AV:zm X (.type "range") (λvs H Q=>∃lo hi,(vs=[.int hi]/\lo=0\/vs=[.int lo,.int hi])/\∀p,H p=none->Q (.ref p) (upd H p (.rng lo hi))):=by
 intro pins s σ H xs us Q I r h;obtain⟨lo,hi,h|h,q⟩:=h
 ·obtain⟨rfl,rfl⟩:=h;obtain⟨u,rfl,t,rfl⟩:=r.one;exact call_range_1 ⟨.ref _,_,I.laid (o:=.rng 0 hi) (λb o e=>Heap.get?_push_of_some _ e) (az _) ⟨_,_,_,Heap.get?_push_size _ rfl⟩,rfl,q _ I.fresh⟩
 ·subst h;obtain⟨u,v,rfl,⟨t,rfl⟩,⟨t',rfl⟩⟩:=r.two;exact call_range_2 ⟨.ref _,_,I.laid (o:=.rng lo hi) (λb o e=>Heap.get?_push_of_some _ e) (az _) ⟨_,_,_,Heap.get?_push_size _ rfl⟩,rfl,q _ I.fresh⟩
theorem md{lo hi:Int}:Builtin.Range.rangeSize lo hi 1=((hi-lo).toNat:Nat):=by
 rw[rangeSize_one];split<;>lia
theorem sD(hc:X.calm=true):zm X (.type "list") (λvs H Q=>∃p lo hi,vs=[.ref p]/\H p=some (.rng lo hi)/\qY lo=true/\qY hi=true/\∀q,H q=none->Q (.ref q) (upd H q (.lst (dG lo (hi-lo).toNat)))):=by
 intro pins s σ H xs us Q I r h;obtain⟨p,lo,hi,rfl,hp,z1,z2,q⟩:=h;obtain⟨u,rfl,ru⟩:=r.one;cases ru;obtain⟨t,u,v,e⟩:=I.hok p _ hp;obtain⟨a1,a2⟩:=fv z1;obtain⟨b1,b2⟩:=fv z2;refine call_list_range (I.ok.hd hc) e (small_one (by lia) (by lia) (by lia) (by lia)) md (by lia) λh' tk acc c' hk hS hacc=>?_
 refine⟨.ref _,_,I.laid (h':=h') (t':=tk) (o:=.lst (dG lo (hi-lo).toNat)) hk (az _) ⟨by simp[dG,bp];lia,acc.toList,c',mf hacc,by simpa using hS⟩,rfl,q _ I.fresh⟩
theorem uW(hc:X.calm=true):zm X (.type "tuple") (λvs H Q=>∃p lo hi,vs=[.ref p]/\H p=some (.rng lo hi)/\qY lo=true/\qY hi=true/\∀q,H q=none->Q (.ref q) (upd H q (.tup (dG lo (hi-lo).toNat)))):=by
 intro pins s σ H xs us Q I r h;obtain⟨p,lo,hi,rfl,hp,z1,z2,q⟩:=h;obtain⟨u,rfl,ru⟩:=r.one;cases ru;obtain⟨t,u,v,e⟩:=I.hok p _ hp;obtain⟨a1,a2⟩:=fv z1;obtain⟨b1,b2⟩:=fv z2;refine CQ (I.ok.hd hc) e (small_one (by lia) (by lia) (by lia) (by lia)) md (by lia) λh' tk acc hk hacc=>?_
 have I1:Inv X pins σ H {s with heap:=h',toks:=tk}:=I.kept hk;refine⟨.ref _,_,I1.laid (t':=tk) (o:=.tup (dG lo (hi-lo).toNat)) (λb o e=>Heap.get?_push_of_some _ e) (az _) ⟨by simp[dG,bp];lia,acc.toList,mf hacc,⟨_,Heap.get?_push_size _ rfl,rfl,0,by simp⟩⟩,rfl,q _ I1.fresh⟩
end
section
variable{w:W}{g:Gc}{c:Cc}{E:XK}{X:Cx}{a b:Expr}{ia ib:EV.E}{pos p2 p3 pos3:Pos}
theorem uH(O:XO w g c E X){x:Str}{e:Expr}{es:List Expr}{t:TA}(h:glob c x=some .rng)(ha:PA X (e::es) t)(hs:∀z∈e::es,isStar z=false) :
  PE X (.Call (.Name x p3) (e::es) [] pos3) (tCB (λvs H Q=>∃lo hi,(vs=[.int hi]/\lo=0\/vs=[.int lo,.int hi])/\∀p,H p=none->Q (.ref p) (upd H p (.rng lo hi))) t):=by
 obtain⟨h1,rfl⟩:=O.gm h;exact gC AV (O.gl h) h1 (by decide +kernel) ha (qX h).2.2.2 (qX h).2.2.1 (qk (hs e aK)) (iJ λz hz=>hs z (aJ _ hz))
theorem mQ(O:XO w g c E X)(hc:X.calm=true){x y:Str}{n:String}{bb:Option B1}{e:Expr}{es:List Expr}{it:It}{t:TA}(hT:glob c x=some (.ty n bb))(h:glob c y=some .rng)(ha:PA X (e::es) t)(hs:∀z∈e::es,isStar z=false)
  (hn:n = "tuple"\/n = "list")
  (k:∀σ H (Q:List V->Hp->Prop) τ S (P:List D->Prop),SE g c τ σ H S->tR g E H (evI w it τ) P->(∀lo hi vs H',qg H H'->(vs=[.int hi]/\lo=0\/vs=[.int lo,.int hi])->qY lo=true->qY hi=true->P (zA lo (hi-lo).toNat)->Q vs H')->t σ H Q) :
  PE X (.Call (.Name x p2) [.Call (.Name y p3) (e::es) [] pos3] [] pos) (tE w g c E (if n = "tuple" then .rtup it else .rlst it)):=by
 obtain⟨h1,h2,_,_⟩:=O.gm hT;have hr:=uH (p3:=p3) (pos3:=pos3) O h ha hs;rcases hn with rfl|rfl
 ·refine PE.imp (gC (uW hc) (O.gl hT) h1 h2 (zr hr zK) (qX hT).2.2.2 (qX hT).2.2.1) λσ H Q ⟨τ,S,se,q⟩=>?_
  rw[if_pos rfl]at q;simp only[qW,zb,qZ,zj,zf,zd,ze,zk,zg,qp,qA,qF,qu,qB,qN,qq,qw,qo,qx,ql,qG,qm,qz,qJ,qD,qr,qK,qP,qQ,qs,qH,qS,qR,qE,qy,qC,qt,qO,qI,qT,qU,qM]at q;refine k σ H _ τ S _ se (tR.bnd q) λlo hi vs H' s hv z1 z2 hP=>⟨lo,hi,hv,λp hp=>⟨p,lo,hi,rfl,zu,z1,z2,λr hr=>?_⟩⟩
  have s1:=zo (o:=.rng lo hi) hp;exact hP _ _ (aZ.of ((s.trans s1).trans (zo hr)) (eY (se.sub.same (s.trans s1)) hr lB) rfl)
 ·refine PE.imp (gC (sD hc) (O.gl hT) h1 h2 (zr hr zK) (qX hT).2.2.2 (qX hT).2.2.1) λσ H Q ⟨τ,S,se,q⟩=>?_
  rw[if_neg (by decide)]at q;simp only[qW,zb,qZ,zj,zf,zd,ze,zk,zg,qp,qA,qF,qu,qB,qN,qq,qw,qo,qx,ql,qG,qm,qz,qJ,qD,qr,qK,qP,qQ,qs,qH,qS,qR,qE,qy,qC,qt,qO,qI,qT,qU,qM]at q;refine k σ H _ τ S _ se (tR.bnd q) λlo hi vs H' s hv z1 z2 hP=>⟨lo,hi,hv,λp hp=>⟨p,lo,hi,rfl,zu,z1,z2,λr hr=>?_⟩⟩
  have s1:=zo (o:=.rng lo hi) hp;exact hP _ _ (aZ.new ((s.trans s1).trans (zo hr)) (eZ (se.sub.same (s.trans s1)) hr lB) (iW (s.trans s1) hr lB))
theorem AO(O:XO w g c E X)(hc:X.calm=true){x y:Str}{bb:Option B1}{d:Expr}{id:EV.E}(hT:glob c x=some (.ty "tuple" bb))(h:glob c y=some .rng)(ha:PE X a (tE w g c E ia))(hb:PE X b (tE w g c E ib))(hd:PE X d (tE w g c E id))(hs:isStar a=false)(hs':isStar b=false)(hs'':isStar d=false) :
  PE X (.Call (.Name x p2) [.Call (.Name y p3) [a,b,d] [] pos3] [] pos) (tE w g c E (.rtup (.rng3 ia ib id))):=λpins s σ H Q I ⟨τ,S,se,kk⟩=>by
 simp only[qW,zb,qZ,zj,zf,zd,ze,zk,zg,qp,qA,qF,qu,qB,qN,qq,qw,qo,qx,ql,qG,qm,qz,qJ,qD,qr,qK,qP,qQ,qs,qH,qS,qR,qE,qy,qC,qt,qO,qI,qT,qU,qM,evI,R.bind_no]at kk;exact aS kk
theorem xE(ha:PE X a (tE w g c E ia))(hs:isStar a=false):PA X [a] (fw (tE w g c E ia) fX):=zr ha zK (qk hs)
theorem Cu:∀σ H (Q:List V->Hp->Prop) τ S (P:List D->Prop),SE g c τ σ H S->tR g E H (evI w (.rng ia) τ) P->(∀lo hi vs H',qg H H'->(vs=[.int hi]/\lo=0\/vs=[.int lo,.int hi])->qY lo=true->qY hi=true->P (zA lo (hi-lo).toNat)->Q vs H')->fw (tE w g c E ia) fX σ H Q:=by
 intro σ H Q τ S P se q k;simp only[evI]at q;refine zh se q λda va H1 e1 p1 k1=>?_
 cases da with
 |int j=>
  simp only at k1;cases z:qY j with
  |true=>rw[z,if_pos rfl]at k1;exact k 0 j _ H1 p1.same (.inl ⟨by rw[p1.rb.int],rfl⟩) (by decide) z (by rw[Int.sub_zero];exact k1)
  |false=>rw[z]at k1;exact k1.elim
 |_=>exact k1.elim
theorem Bc:∀σ H (Q:List V->Hp->Prop) τ S (P:List D->Prop),SE g c τ σ H S->tR g E H (evI w (.rng2 ia ib) τ) P->(∀lo hi vs H',qg H H'->(vs=[.int hi]/\lo=0\/vs=[.int lo,.int hi])->qY lo=true->qY hi=true->P (zA lo (hi-lo).toNat)->Q vs H')->fw (tE w g c E ia) (fw (tE w g c E ib) fX) σ H Q:=by
 intro σ H Q τ S P se q k;simp only[evI]at q;refine zh se q λda va H1 e1 p1 k1=>zh (se.up p1.same) k1 λdb vb H2 e2 p2 k2=>?_
 cases da with
 |int i=>
  cases db with
  |int j=>
   simp only at k2;cases z:qY i&&qY j with
   |true=>
    rw[z,if_pos rfl]at k2;simp only[aH]at z;exact k i j _ H2 (p1.same.trans p2.same) (.inr (by rw[p1.rb.int,p2.rb.int])) z.1 z.2 k2
   |false=>rw[z]at k2;exact k2.elim
  |_=>exact k2.elim
 |_=>exact k2.elim
end
structure Snd(w:W)(g:Gc)(n:Nat):Prop where
 e:∀{c:Cc}{E:XK}{X:Cx} (O:XO w g c E X) {x:Expr}{ir:EV.E},cE n c x=some ir->PE X x (tE w g c E ir)
 bo:∀{c:Cc}{E:XK}{X:Cx} (O:XO w g c E X) {op:PySem.BoolOp}{vs:List Expr}{pos:Pos}{ir:EV.E},cBo n c op vs=some ir->PE X (.BoolOp op vs pos) (tE w g c E ir)/\esc ir=true
 o:∀{c:Cc}{E:XK}{X:Cx} (O:XO w g c E X) {x:Option Expr}{ir:OE},cO n c x=some ir->PO X x (tOe w g c E ir)
 es:∀{c:Cc}{E:XK}{X:Cx} (O:XO w g c E X) {x:List Expr}{ir:Es},cEs n c x=some ir->PA X x (tA w g c E ir)
 i:∀{c:Cc}{E:XK}{X:Cx} (O:XO w g c E X) {tg x:Expr}{ir:It},cI n c x=some ir->fM ir tg=true->PI X tg x (tIt w g c E ir)
 t:∀{c:Cc}{E:XK}{X:Cx} (O:XO w g c E X) {x:Expr}{ir:T},cT n c x=some ir->PT X x (tT w g c E ir)
 ts:∀{c:Cc}{E:XK}{X:Cx} (O:XO w g c E X) {op:PySem.BoolOp}{vs:List Expr}{pos:Pos}{ir:T},cTs n c op vs=some ir->PW X (.BoolOp op vs pos) (tT w g c E ir)
 ifs:∀{c:Cc}{E:XK}{X:Cx} (O:XO w g c E X) {x:List Expr}{ir:T},e_ n c x=some ir->PTs X x (tT w g c E ir)
section
variable{w:W}{g:Gc}{n:Nat}
theorem Snd.ifs_succ(ih:Snd w g n){c:Cc}{E:XK}{X:Cx}(O:XO w g c E X){x:List Expr}{ir:T}(h:e_ (n+1) c x=some ir):PTs X x (tT w g c E ir):=by
 match x with
 | []=>
  simp only[e_,bJ]at h;subst h;intro pins s σ H Q I ⟨τ,S,se,q⟩;exact Co pins s σ H Q I (q H (qg.refl _))
 | [t]=>simp only[e_]at h;exact DR (ih.t O h)
 |_::_::_=>simp[e_]at h
theorem Snd.bo_succ(ih:Snd w g n){c:Cc}{E:XK}{X:Cx}(O:XO w g c E X){op:PySem.BoolOp}{vs:List Expr}{pos:Pos}{ir:EV.E}(h:cBo (n+1) c op vs=some ir):PE X (.BoolOp op vs pos) (tE w g c E ir)/\esc ir=true:=by
 match vs with
 | []=>simp[cBo]at h
 | [a]=>
  simp only[cBo,aE,aD]at h;obtain⟨ia,h1,h⟩:=h;split at h
  ·rename_i he
   cases h;exact⟨y_ (ih.e O h1),he⟩
  ·cases h
 |a::b::r=>
  simp only[cBo,aE,aD]at h;obtain⟨ia,h1,ir',h2,h⟩:=h;obtain⟨r1,r2⟩:=ih.bo O (pos:=pos) h2;cases op with
  |And=>cases h;exact⟨ve (ih.e O h1) r1 r2,rfl⟩
  |Or=>cases h;exact⟨Bl (ih.e O h1) r1 r2,rfl⟩
theorem Snd.o_succ(ih:Snd w g n){c:Cc}{E:XK}{X:Cx}(O:XO w g c E X){x:Option Expr}{ir:OE}(h:cO (n+1) c x=some ir):PO X x (tOe w g c E ir):=by
 cases x with
 |none=>simp only[cO,bJ]at h;subst h;exact sU
 |some e=>
  simp only[cO,a_]at h;obtain⟨ie,h1,rfl⟩:=h;exact Dy (ih.e O h1)
theorem Snd.es_succ(ih:Snd w g n){c:Cc}{E:XK}{X:Cx}(O:XO w g c E X){x:List Expr}{ir:Es}(h:cEs (n+1) c x=some ir):PA X x (tA w g c E ir):=by
 match x with
 | []=>simp only[cEs,bJ]at h;subst h;exact Df
 |e::r=>
  have hs:=eU h e aK;simp only[cEs,hs,bg,if_false,aE,aD]at h;obtain⟨ie,h1,ir',h2,h⟩:=h;cases h;exact Bh (ih.e O h1) (ih.es O h2) hs
theorem Snd.ts_succ(ih:Snd w g n){c:Cc}{E:XK}{X:Cx}(O:XO w g c E X){op:PySem.BoolOp}{vs:List Expr}{pos:Pos}{ir:T}(h:cTs (n+1) c op vs=some ir):PW X (.BoolOp op vs pos) (tT w g c E ir):=by
 match vs with
 | []=>simp[cTs]at h
 | [a]=>
  simp only[cTs]at h;cases op with
  |And=>exact vX (ih.t O h)
  |Or=>exact Dx (ih.t O h)
 |a::b::r=>
  simp only[cTs,aE,aD]at h;obtain⟨ia,h1,ir',h2,h⟩:=h;cases op with
  |And=>cases h;exact Dv (ih.t O h1) (ih.ts O h2)
  |Or=>cases h;exact uZ (ih.t O h1) (ih.ts O h2)
theorem Snd.t_succ(ih:Snd w g n){c:Cc}{E:XK}{X:Cx}(O:XO w g c E X){x:Expr}{ir:T}(h:cT (n+1) c x=some ir):PT X x (tT w g c E ir):=by
 unfold cT at h;split at h
 ·simp only[a_]at h;obtain⟨ia,h1,rfl⟩:=h;exact xZ (ih.t O h1)
 ·exact(ih.ts O h).pt
 ·cases h
 ·split at h
  ·simp only[aE,aD]at h;obtain⟨ia,h1,ib,h2,h⟩:=h;split at h
   ·rename_i hs;cases h;exact sG O (ih.e O h1) (ih.e O h2) hs
   ·cases h
  ·simp only[aE,aD]at h;obtain⟨ia,h1,ib,h2,id',h3,h⟩:=h;split at h
   ·rename_i hs
    simp only[aH]at hs;cases h;exact Aw O (ih.e O h1) (ih.e O h2) (ih.e O h3) hs.2
   ·cases h
  ·simp only[aE,aD]at h;obtain⟨ia,h1,ib,h2,id',h3,if',h4,h⟩:=h;split at h
   ·rename_i hs
    simp only[aH]at hs;cases h;exact tV O (ih.e O h1) (ih.e O h2) (ih.e O h3) (ih.e O h4) hs.2
   ·cases h
  ·cases h
 ·rename_i n1 n2 n3 n4
  simp only[a_]at h;obtain⟨ia,h1,rfl⟩:=h;refine yD O (ih.e O h1) λwhole=>?_
  cases x with
  |UnaryOp op a p=>cases op<;>first|rfl|exact(n1 _ _ rfl).elim
  |BoolOp op vs p=>exact(n2 _ _ _ rfl).elim
  |IfExp a b d p=>exact(n3 _ _ _ _ rfl).elim
  |Compare a ops bs p=>exact(n4 _ _ _ _ rfl).elim
  |_=>rfl
theorem Snd.i_succ(ih:Snd w g n){c:Cc}{E:XK}{X:Cx}(O:XO w g c E X){tg x:Expr}{ir:It}(h:cI (n+1) c x=some ir)(ht:fM ir tg=true):PI X tg x (tIt w g c E ir):=by
 have sq:∀{x:Expr}{ir:It},(cE n c x).map It.seq=some ir->PI X tg x (tIt w g c E ir):=λ{x ir} h=>by
  simp only[a_]at h;obtain⟨ia,h1,rfl⟩:=h;exact Cq O (ih.e O h1)
 have tup:isTup tg=true->∃es k p,tg=.Tuple es k p:=λh=>by cases tg<;>first|exact⟨_,_,_,rfl⟩|(simp[isTup]at h)
 unfold cI at h;split at h
 ·rename_i f p as q
  split at h
  ·exact sq h
  ·split at h
   ·rename_i hg
    split at h
    ·rename_i a
     split at h
     ·cases h
     ·rename_i hs
      simp only[a_]at h;obtain⟨ia,h1,rfl⟩:=h;exact xr O hg (ih.e O h1) (by simpa using hs)
    ·rename_i a b
     split at h
     ·cases h
     ·rename_i hs
      have hs:isStar a=false/\isStar b=false:=by simpa using hs
      simp only[aE,aD]at h;obtain⟨ia,h1,ib,h2,h⟩:=h;cases h;exact tM O hg (ih.e O h1) (ih.e O h2) hs.1 hs.2
    ·cases h
   ·rename_i hg
    split at h
    ·rename_i a
     split at h
     ·cases h
     ·rename_i hs
      simp only[a_]at h;obtain⟨ia,h1,rfl⟩:=h;obtain⟨es,k,p',rfl⟩:=tup ht;exact tL O hg (ih.e O h1) (by simpa using hs)
    ·cases h
   ·rename_i hg
    split at h
    ·rename_i a b
     split at h
     ·cases h
     ·rename_i hs
      have hs:isStar a=false/\isStar b=false:=by simpa using hs
      simp only[aE,aD]at h;obtain⟨ia,h1,ib,h2,h⟩:=h;cases h;obtain⟨es,k,p',rfl⟩:=tup ht;exact uy O hg (ih.e O h1) (ih.e O h2) hs.1 hs.2
    ·cases h
   ·exact sq h
 ·exact sq h
end
end EV
namespace ST
open PySem PySem.SetTable
noncomputable def adv(mask:Nat)(p:Probe):Probe:=
 if p.more>0 then {p with j:=p.j+1,more:=p.more-1}else
 {p with j:=(leap mask p.i p.perturb).1,more:=runEnd mask (leap mask p.i p.perturb).1-(leap mask p.i p.perturb).1,i:=(leap mask p.i p.perturb).1,perturb:=(leap mask p.i p.perturb).2}
theorem pd(t:aN)(p:Probe):t.advance p=adv t.mask p:=rfl
noncomputable def RS(mask:Nat)(x:Nat×Nat):Probe:=⟨x.1,runEnd mask x.1-x.1,x.1,x.2,none⟩
noncomputable def pr(mask:Nat)(h:Int):Nat->Probe
 | 0=>RS mask (bits h%(mask+1),bits h)
 |n+1=>adv mask (pr mask h n)
theorem xA(t:aN)(h:Int):t.probeStart h=pr t.mask h 0:=rfl
noncomputable def it(mask:Nat):Nat->Probe->Probe
 | 0,p=>p
 |d+1,p=>it mask d (adv mask p)
theorem i0(mask:Nat)(h:Int):∀d n,pr mask h (n+d)=it mask d (pr mask h n)
 | 0,n=>rfl
 |d+1,n=>by rw[it,show n+(d+1)=n+1+d by lia,i0 mask h d (n+1)];rfl
theorem kv(mask:Nat):∀d e p,it mask (d+e) p=it mask e (it mask d p)
 | 0,e,p=>by rw[Nat.zero_add];rfl
 |d+1,e,p=>by rw[show d+1+e=d+e+1 by lia,it,it,kv mask d e]
noncomputable def lp(mask:Nat):Nat->Nat×Nat->Nat×Nat
 | 0,x=>x
 |k+1,x=>lp mask k (leap mask x.1 x.2)
theorem pq(mask:Nat):∀d e x,lp mask (d+e) x=lp mask e (lp mask d x)
 | 0,e,x=>by rw[Nat.zero_add];rfl
 |d+1,e,x=>by rw[show d+1+e=d+e+1 by lia,lp,lp,pq mask d e]
structure Ok(mask:Nat)(p:Probe):Prop where
 more:p.more<=9
 le:p.j+p.more<=mask
 pt:p.perturb<2^64
 dm:p.dummy=none
theorem ij{mask i:Nat}(h:i<=mask):runEnd mask i-i<=9/\i+(runEnd mask i-i)<=mask/\i<=runEnd mask i:=by
 unfold runEnd;split<;>lia
theorem A7{mask:Nat}{x:Nat×Nat}(h:x.1<=mask)(hp:x.2<2^64):Ok mask (RS mask x):=⟨(ij h).1,(ij h).2.1,hp,rfl⟩
theorem gA(mask i p:Nat):(leap mask i p).1<=mask:=Nat.le_of_lt_succ (Nat.mod_lt _ (Nat.succ_pos _))
theorem Ao{mask:Nat}{p:Probe}(h:Ok mask p):Ok mask (adv mask p):=by
 have a:=h.more;have b:=h.le;have c:=h.pt;have d:=h.dm;unfold adv;split
 ·exact⟨by show p.more-1<=9;lia,by show p.j+1+(p.more-1)<=mask;lia,c,d⟩
 ·have:=ij (gA mask p.i p.perturb);exact⟨this.1,this.2.1,by show p.perturb/32<_;lia,d⟩
theorem gS(mask:Nat)(h:Int):∀n,Ok mask (pr mask h n)
 | 0=>A7 (Nat.le_of_lt_succ (Nat.mod_lt _ (Nat.succ_pos _))) (by
   show bits h<2^64;unfold bits;have:=Int.emod_lt_of_pos h (show (0:Int)<2^64 by decide);have:=Int.emod_nonneg h (show (2^64:Int)≠0 by decide);lia)
 |n+1=>Ao (gS mask h n)
theorem kD(mask:Nat)(h:Int)(n:Nat):(pr mask h n).j<=mask:=by have:=(gS mask h n).le;lia
theorem jy(mask:Nat):∀(r:Nat) (p:Probe),p.more=r->p.dummy=none->it mask (r+1) p=RS mask (leap mask p.i p.perturb)/\∀c,c<=r->(it mask c p).j=p.j+c
 | 0,p,h,hd=>by
  refine⟨?_,λc hc=>by rw[Nat.le_zero.mp hc];rfl⟩;rw[it,it,adv,if_neg (by lia)];obtain⟨j,m,i,q,d⟩:=p;cases hd
  rfl
 |r+1,p,h,hd=>by
  have e:adv mask p={p with j:=p.j+1,more:=p.more-1}:=by rw[adv,if_pos (by lia)]
  have g:=jy mask r (adv mask p) (by rw[e];show p.more-1=r;lia) (by rw[e];exact hd);refine⟨?_,λc hc=>?_⟩
  ·rw[it,g.1,e]
  ·cases c with
   |zero=>rfl
   |succ c=>rw[it,g.2 c (by lia),e];show p.j+1+c=_;lia
theorem mU(mask:Nat):∀(k:Nat) (x:Nat×Nat),x.1<=mask->∃d,d<=10 * k/\it mask d (RS mask x)=RS mask (lp mask k x)
 | 0,x,_=>⟨0,by lia,rfl⟩
 |k+1,x,hx=>by
  obtain⟨d,h1,h2⟩:=mU mask k (leap mask x.1 x.2) (gA ..);have r:=(jy mask _ (RS mask x) rfl rfl).1;have:=(ij hx).1;refine⟨(RS mask x).more+1+d,by show runEnd mask x.1-x.1+1+d<=_;lia,?_⟩;rw[kv,r];exact h2
theorem p5(mask:Nat):∀(k:Nat) (x:Nat×Nat),(lp mask k x).2=x.2/32^k
 | 0,x=>by simp[lp]
 |k+1,x=>by rw[lp,p5 mask k];show x.2/32/32^k=_;rw[Nat.div_div_eq_div_mul,Nat.pow_succ,Nat.mul_comm]
theorem rF(mask:Nat):∀(k:Nat) (x:Nat×Nat),x.1<=mask->(lp mask k x).1<=mask
 | 0,_,h=>h
 |k+1,_,_=>rF mask k _ (gA ..)
noncomputable def om(mask:Nat):Nat->Nat->Nat
 | 0,_=>0
 |n+1,i=>2^i |||om mask n ((i * 5+1)%(mask+1))
theorem nU(mask:Nat){j:Nat}:∀(n i:Nat),(om mask n i).testBit j=true->∃k,k<n/\lp mask k (i,0)=(j,0)
 | 0,i,h=>by simp[om]at h
 |n+1,i,h=>by
  rw[om,Nat.testBit_or,Nat.testBit_two_pow,bE,decide_eq_true_eq]at h;rcases h with rfl|h
  ·exact⟨0,by lia,rfl⟩
  ·obtain⟨k,h1,h2⟩:=nU mask n _ h;refine⟨k+1,by lia,?_⟩;rw[lp,<-h2];show lp mask k ((i * 5+1+0/32)%(mask+1),0/32)=_;rw[Nat.zero_div,Nat.add_zero]
noncomputable def Mk(mask:Nat):Prop:=mask=7\/mask=31\/mask=127
theorem wA{mask:Nat}(h:Mk mask):(aR (mask+1)).all (λi=>om mask (mask+1) i==2^(mask+1)-1)=true:=by
 rcases h with rfl|rfl|rfl<;>decide +kernel
theorem nv{mask:Nat}(hM:Mk mask){x:Nat×Nat}(hp:x.2<2^64)(hx:x.1<=mask){j:Nat}(hj:j<=mask):∃k,k<=mask+13/\(lp mask k x).1=j:=by
 have a:=b7.mp (wA hM) (lp mask 13 x).1 (List.mem_range.mpr (Nat.lt_succ_of_le (rF mask 13 x hx)));have b:(om mask (mask+1) (lp mask 13 x).1).testBit j=true:=by
  rw[eq_of_beq a,Nat.testBit_two_pow_sub_one,decide_eq_true_eq];lia
 obtain⟨k,h1,h2⟩:=nU mask _ _ b;have c:lp mask 13 x=((lp mask 13 x).1,0):=by
  refine Prod.ext rfl ?_;rw[p5];exact Nat.div_eq_of_lt (a8 hp (by decide))
 exact⟨13+k,by lia,by rw[pq,c,h2]⟩
theorem cover{mask:Nat}(hM:Mk mask)(h:Int)(n:Nat){j:Nat}(hj:j<=mask):∃m,n<=m/\m<n+10 * turns mask/\(pr mask h m).j=j:=by
 have o:=gS mask h n;obtain⟨k,h1,h2⟩:=nv hM (x:=leap mask (pr mask h n).i (pr mask h n).perturb) (by have:=o.pt;show _/32<_;lia) (gA ..) hj;obtain⟨d,h3,h4⟩:=mU mask k (leap mask (pr mask h n).i (pr mask h n).perturb) (gA ..);have r:=(jy mask _ (pr mask h n) rfl o.dm).1;have:=o.more;refine⟨n+((pr mask h n).more+1+d),by lia,by unfold turns;lia,?_⟩;rw[i0,kv,r,h4];exact h2
noncomputable def Ri(xs:Array Nat):Prop:=∀i k x y:Nat,i<k->xs[i]? = some x->xs[k]? = some y->x<y
theorem Ri.of{xs:Array Nat}(h:xs.toList.Pairwise (· < ·)):Ri xs:=by
 intro i k x y hik hx hy;rw[List.pairwise_iff_getElem]at h;obtain⟨a,rfl⟩:=Array.getElem?_eq_some_iff.mp hx;obtain⟨b,rfl⟩:=Array.getElem?_eq_some_iff.mp hy;exact h i k a b hik
theorem kq{xs:Array Nat}(hr:Ri xs)(j:Nat):∀(fuel lo hi:Nat),hi-lo<=fuel->lo<=hi->hi<=xs.size->(∀i x,i<lo->xs[i]? = some x->x<j)->(∀i x,hi<=i->xs[i]? = some x->j<=x) ->
  below.go xs j fuel lo hi<=xs.size/\(∀i x,xs[i]? = some x->(i<below.go xs j fuel lo hi↔x<j))
 | 0,lo,hi,h1,h2,h3,h4,h5=>by
  rw[below.go];refine⟨by lia,λi x e=>⟨λh=>h4 i x h e,λh=>?_⟩⟩;refine Nat.lt_of_not_le λg=>?_
  have:=h5 i x (by lia) e;lia
 |fuel+1,lo,hi,h1,h2,h3,h4,h5=>by
  rw[below.go];split
  ·rename_i hl
   have hm:(lo+hi)/2<xs.size:=by lia
   have e:xs[(lo+hi)/2]? = some xs[(lo+hi)/2]:=Array.getElem?_eq_getElem hm;have g:xs.getD ((lo+hi)/2) j=xs[(lo+hi)/2]:=by rw[Array.getD_eq_getD_getElem?,e];rfl
   dsimp only;rw[g];split
   ·rename_i hq
    refine kq hr j fuel _ hi (by lia) (by lia) h3 (λi x hi' e'=>?_) h5;rcases Nat.lt_trichotomy i ((lo+hi)/2)with q|q|q
    ·exact Nat.lt_trans (hr i _ x _ q e' e) hq
    ·subst q;rw[e]at e';cases e';exact hq
    ·lia
   ·rename_i hq
    refine kq hr j fuel lo _ (by lia) (by lia) (by lia) h4 λi x hi' e'=>?_
    rcases Nat.lt_trichotomy i ((lo+hi)/2)with q|q|q
    ·lia
    ·subst q;rw[e]at e';cases e';lia
    ·have:=hr _ i _ x q e e';lia
  ·refine⟨by lia,λi x e=>⟨λh=>h4 i x h e,λh=>?_⟩⟩;refine Nat.lt_of_not_le λg=>?_
   have:=h5 i x (by lia) e;lia
theorem iN{xs:Array Nat}(hr:Ri xs)(j:Nat):below xs j<=xs.size/\(∀i x,xs[i]? = some x->(i<below xs j↔x<j)):=
 kq hr j xs.size 0 xs.size (by lia) (by lia) (az _) (λ_ _ h=>absurd h (Nat.not_lt_zero _)) λi x h e=>by
  have:=(Array.getElem?_eq_some_iff.mp e).1;lia
theorem below_at{xs:Array Nat}(hr:Ri xs){i j:Nat}(h:xs[i]? = some j):below xs j=i:=by
 obtain⟨a,b⟩:=iN hr j;have c:=(b i j h)
 rcases Nat.lt_trichotomy (below xs j) i with q|q|q
 ·have hs:i<xs.size:=(Array.getElem?_eq_some_iff.mp h).1;have e:xs[below xs j]? = some xs[below xs j]:=Array.getElem?_eq_getElem (by lia);have:=(b _ _ e).mpr (hr _ _ _ _ q e h);lia
 ·exact q
 ·have:=c.mp q;lia
theorem DL{t:aN}(hr:Ri t.place){i j:Nat}(h:t.place[i]? = some j):t.slot j=.live i:=by
 unfold slot;dsimp only;rw[below_at hr h,h];simp
theorem mB(j:Nat):has #[] j=false:=by simp[has]
theorem A5{t:aN}(hd:t.dummies = #[]){j:Nat}(h:∀i:Nat,t.place[i]?≠some j):t.slot j=.empty:=by
 unfold slot;dsimp only;rw[if_neg (by simpa using h _),hd,mB];simp
noncomputable def Reach(mask:Nat)(P:Nat->Prop)(h:Int)(j:Nat):Prop:=∃n,(pr mask h n).j=j/\∀m,m<n->P (pr mask h m).j
theorem Reach.mono{mask:Nat}{P Q:Nat->Prop}{h:Int}{j:Nat}(r:Reach mask P h j)(s:∀j,P j->Q j):Reach mask Q h j:=
 let ⟨n,a,b⟩:=r;⟨n,a,λm hm=>s _ (b m hm)⟩
structure Good(t:aN)(hs:List Int):Prop where
 ma:Mk t.mask
 dum:t.dummies = #[]
 len:t.place.size=hs.length
 ri:t.place.toList.Pairwise (· < ·)
 le:∀j∈t.place.toList,j<=t.mask
 re:∀jh∈t.place.toList.zip hs,Reach t.mask (·∈t.place.toList) jh.2 jh.1
theorem long:∀(n:Nat) (l:List Nat),(∀j,j<n->j∈l)->n<=l.length
 | 0,_,_=>bH _
 |n+1,l,h=>by
  have a:=long n (l.erase n) λj hj=>(List.mem_erase_of_ne (by lia)).mpr (h j (by lia))
  have b:=List.length_erase_of_mem (h n (by lia));have c:=List.length_pos_of_mem (h n (by lia));lia
section
variable{t:aN}{hs:List Int}(G:Good t hs)
include G
theorem Good.free(hf:hs.length<=t.mask)(h:Int)(n:Nat):∃m,n<=m/\m<n+10 * turns t.mask/\(pr t.mask h m).j∉t.place.toList:=by
 have:∃j,j<=t.mask/\j∉t.place.toList:=Classical.byContradiction λg=>by
  have:=long (t.mask+1) t.place.toList λj hj=>Classical.byContradiction λq=>g ⟨j,by lia,q⟩
  rw[bZ,G.len]at this;lia
 obtain⟨j,h1,h2⟩:=this;obtain⟨m,a,b,c⟩:=cover G.ma h n h1;exact⟨m,a,b,by rw[c];exact h2⟩
theorem Good.go(hashAt:Nat->Int)(h:Int):∀(fuel n:Nat),(∃m,n<=m/\m<n+fuel/\(pr t.mask h m).j∉t.place.toList) ->
  ∃m,n<=m/\(∀k,n<=k->k<m->∃i,t.place[i]? = some (pr t.mask h k).j/\hashAt i≠h) /\
   (((pr t.mask h m).j∉t.place.toList/\probe.go t hashAt h fuel (pr t.mask h n)=some (.empty (pr t.mask h m).j none)) \/
    ∃i,t.place[i]? = some (pr t.mask h m).j/\hashAt i=h/\probe.go t hashAt h fuel (pr t.mask h n)=some (.candidate (pr t.mask h m).j i (pr t.mask h (m+1))))
 | 0,n,⟨m,a,b,_⟩=>by lia
 |fuel+1,n,⟨m,a,b,c⟩=>by
  have hr:=Ri.of G.ri;by_cases hin:(pr t.mask h n).j∈t.place.toList
  ·obtain⟨i,hi⟩:=List.mem_iff_getElem?.mp hin;rw[Array.getElem?_toList]at hi;rw[probe.go,DL hr hi];dsimp only;by_cases hq:hashAt i=h
   ·refine⟨n,az _,λk h1 h2=>by lia,.inr ⟨i,hi,hq,?_⟩⟩;rw[if_pos (beq_iff_eq.mpr hq),pd];rfl
   ·rw[if_neg (by simpa using hq),pd];have hne:m≠n:=λe=>c (e▸hin)
    obtain⟨m',a',b',c'⟩:=Good.go hashAt h fuel (n+1) ⟨m,by lia,by lia,c⟩;refine⟨m',by lia,λk h1 h2=>?_,c'⟩;rcases Nat.eq_or_lt_of_le h1 with rfl|h1
    ·exact⟨i,hi,hq⟩
    ·exact b' k h1 h2
  ·refine⟨n,az _,λk h1 h2=>by lia,.inl ⟨hin,?_⟩⟩;rw[probe.go,A5 G.dum λi e=>hin (by rw[<-Array.getElem?_toList]at e;exact List.mem_of_getElem? e)];dsimp only;rw[(gS t.mask h n).dm]
theorem Good.fits(hf:hs.length<=t.mask):t.fits hs.length=true:=by
 unfold aN.fits aN.fill;rw[G.dum,G.len]
 simpa using hf
theorem Good.put{h:Int}{j:Nat}(hj:j∉t.place.toList)(hR:Reach t.mask (·∈t.place.toList) h j) :
  t.put j=({t with place:=insertAt t.place (below t.place j) j},below t.place j)/\below t.place j<=hs.length /\
   Good {t with place:=insertAt t.place (below t.place j) j} (hs.take (below t.place j)++h::hs.drop (below t.place j)):=by
 have hr:=Ri.of G.ri;obtain⟨b1,b2⟩:=iN hr j;have hb:below t.place j<=hs.length:=by rw[<-G.len];exact b1
 refine⟨by unfold aN.put;dsimp only;rw[G.dum,mB];simp,hb,?_⟩;have ins:(insertAt t.place (below t.place j) j).toList=t.place.toList.take (below t.place j)++j::t.place.toList.drop (below t.place j):=aN.toList_insertAt ..;have mem:∀{x},x∈(insertAt t.place (below t.place j) j).toList↔x=j\/x∈t.place.toList:=by
  intro x;rw[ins,List.mem_append,aG];constructor
  ·rintro(h|h|h)
   ·exact .inr (List.mem_of_mem_take h)
   ·exact .inl h
   ·exact .inr (List.mem_of_mem_drop h)
  ·rintro(h|h)
   ·exact .inr (.inl h)
   ·rw[<-dM (below t.place j) t.place.toList,List.mem_append]at h;rcases h with h|h
    ·exact .inl h
    ·exact .inr (.inr h)
 have jle:j<=t.mask:=by obtain⟨n,e,_⟩:=hR;rw[<-e];exact kD ..
 refine⟨G.ma,G.dum,?_,?_,?_,?_⟩
 ·show (insertAt t.place (below t.place j) j).size=_;rw[<-bZ,ins];simp only[List.length_append,bU,dv,List.length_drop,bZ,G.len]
 ·show (insertAt t.place (below t.place j) j).toList.Pairwise (· < ·);rw[ins];have pw:=G.ri;rw[<-dM (below t.place j) t.place.toList,List.pairwise_append]at pw;have lo:∀x∈t.place.toList.take (below t.place j),x<j:=by
   intro x hx;obtain⟨i,hi⟩:=List.mem_iff_getElem?.mp hx;have il:i<below t.place j:=Nat.lt_of_not_le λq=>by rw[List.getElem?_take,if_neg (by lia)]at hi;cases hi
   rw[List.getElem?_take_of_lt il,Array.getElem?_toList]at hi;exact(b2 i x hi).mp il
  have hi:∀x∈t.place.toList.drop (below t.place j),j<x:=by
   intro x hx;obtain⟨i,hi⟩:=List.mem_iff_getElem?.mp hx;rw[List.getElem?_drop,Array.getElem?_toList]at hi;have:=(b2 _ x hi)
   have ne:x≠j:=λe=>hj (by rw[<-e,<-Array.getElem?_toList]at *;exact List.mem_of_getElem? hi)
   lia
  refine List.pairwise_append.mpr ⟨pw.1,List.pairwise_cons.mpr ⟨hi,pw.2.1⟩,λa ha b hb=>?_⟩;rcases aG.mp hb with rfl|hb
  ·exact lo a ha
  ·exact Nat.lt_trans (lo a ha) (hi b hb)
 ·intro x hx;rcases mem.mp hx with rfl|hx
  ·exact jle
  ·exact G.le x hx
 ·rintro⟨x,g⟩ hx;have up:∀y,y∈t.place.toList->y∈(insertAt t.place (below t.place j) j).toList:=λy hy=>mem.mpr (.inr hy)
  change (x,g)∈(insertAt t.place (below t.place j) j).toList.zip _ at hx;rw[ins,List.zip_append (by simp only[dv,bZ,G.len]),List.zip_cons_cons,List.mem_append,aG]at hx;have old:(x,g)∈t.place.toList.zip hs->Reach t.mask (·∈(insertAt t.place (below t.place j) j).toList) g x:=λq=>(G.re _ q).mono up
  have hz:t.place.toList.zip hs=(t.place.toList.take (below t.place j)).zip (hs.take (below t.place j))++(t.place.toList.drop (below t.place j)).zip (hs.drop (below t.place j)):=by
   rw[<-List.zip_append (by simp only[dv,bZ,G.len]),dM,dM]
  rcases hx with hx|hx|hx
  ·exact old (by rw[hz];exact List.mem_append_left _ hx)
  ·cases hx;exact hR.mono up
  ·exact old (by rw[hz];exact bT _ hx)
end
theorem oW{α β:Type}{f:α->Option β}:∀{l:List α},(∀x∈l,(f x).isSome=true)->∀i:Nat,(l.filterMap f)[i]? = (l[i]?).bind f
 | [],_,i=>by simp
 |a::l,h,i=>by
  obtain⟨b,hb⟩:=Option.isSome_iff_exists.mp (h a aK);rw[List.filterMap_cons_some hb];cases i with
  |zero=>simp[hb]
  |succ i=>rw[List.getElem?_cons_succ,List.getElem?_cons_succ];exact oW (λx hx=>h x (aJ _ hx)) i
noncomputable def Fa(ow:Array (Option Nat))(j:Nat):Prop:=(ow.getD j (some 0)).isNone=true
theorem ll{ow:Array (Option Nat)}{j:Nat}:Fa ow j↔ow[j]? = some none:=by
 unfold Fa;rw[Array.getD_eq_getD_getElem?];cases h:ow[j]? with
 |none=>simp
 |some x=>cases x<;>simp
theorem lQ{mask:Nat}{h:Int}{ow:Array (Option Nat)}:∀(k fuel n:Nat) (x:Nat×Nat),k<fuel->x.1<=mask->pr mask h n=RS mask x->Fa ow (lp mask k x).1 ->
  ∃m,n<=m/\layClean.free mask ow fuel x.1 x.2=some (pr mask h m).j/\Fa ow (pr mask h m).j/\∀l,n<=l->l<m->¬ Fa ow (pr mask h l).j
 |_,0,_,_,hk,_,_,_=>by lia
 |k,fuel+1,n,x,hk,hx,hn,hf=>by
  have run:=jy mask (runEnd mask x.1-x.1) (RS mask x) rfl rfl;have rl:=ij hx;have at_:∀c,c<=runEnd mask x.1-x.1->(pr mask h (n+c)).j=x.1+c:=λc hc=>by rw[i0,hn];exact run.2 c hc
  have nxt:pr mask h (n+(runEnd mask x.1-x.1+1))=RS mask (leap mask x.1 x.2):=by rw[i0,hn];exact run.1
  rw[layClean.free];cases q:(aR (runEnd mask x.1+1-x.1)).find? λk=>(ow.getD (x.1+k) (some 0)).isNone with
  |some c=>
   obtain⟨h1,h2,h3⟩:=List.find?_range_eq_some.mp q;have hc:c<=runEnd mask x.1-x.1:=by have:=List.mem_range.mp h2;lia
   refine⟨n+c,by lia,by rw[at_ c hc],by rw[at_ c hc];exact h1,λl a b=>?_⟩;have:=h3 (l-n) (by lia);rw[show l=n+(l-n)by lia,at_ (l-n) (by lia)];exact λg=>by rw[show (ow.getD (x.1+(l-n)) (some 0)).isNone=true from g]at this;cases this
  |none=>
   have h3:=List.find?_range_eq_none.mp q;have no:∀c,c<=runEnd mask x.1-x.1->¬ Fa ow (x.1+c):=λc hc=>by
    have:=h3 c (by lia);exact λg=>by rw[show (ow.getD (x.1+c) (some 0)).isNone=true from g]at this;cases this
   dsimp only;cases k with
   |zero=>exact absurd hf (no 0 (by lia))
   |succ k=>
    obtain⟨m,a,b,c,d⟩:=lQ k fuel _ (leap mask x.1 x.2) (by lia) (gA ..) nxt hf;refine⟨m,by lia,b,c,λl l1 l2=>?_⟩;by_cases e:l<n+(runEnd mask x.1-x.1+1)
    ·rw[show l=n+(l-n)by lia,at_ (l-n) (by lia)];exact no _ (by lia)
    ·exact d l (by lia) l2
structure Lay(mask:Nat)(hs:List Int)(ow:Array (Option Nat))(k:Nat):Prop where
 sz:ow.size=mask+1
 lo:∀(j i:Nat),ow[j]? = some (some i)->i<k
 one:∀(j j' i:Nat),ow[j]? = some (some i)->ow[j']? = some (some i)->j=j'
 all:∀i h,i<k->hs[i]? = some h->∃j:Nat,ow[j]? = some (some i)/\Reach mask (λj=>∃i,ow[j]? = some (some i)) h j
theorem yv{mask:Nat}(hM:Mk mask){hs:List Int}{ow:Array (Option Nat)}{k:Nat}(L:Lay mask hs ow k)(hk:k<=mask):∃j,j<=mask/\Fa ow j:=by
 refine Classical.byContradiction λg=>?_
 have:∀j,j<mask+1->∃i,ow[j]? = some (some i):=λj hj=>by
  cases q:ow[j]? with
  |none=>have:=Array.getElem?_eq_none_iff.mp q;have:=L.sz;lia
  |some x=>
   cases x with
   |none=>exact absurd ⟨j,by lia,ll.mpr q⟩ g
   |some i=>exact⟨i,rfl⟩
 -- more places than things
 have len:=long k ((aR k)) λj hj=>List.mem_range.mpr hj
 have inj:∀n,n<=mask+1->∃l:List Nat,l.Nodup/\l.length=n/\∀i∈l,∃j,j<n/\ow[j]? = some (some i):=by
  intro n
  induction n with
  |zero=>exact λ_=>⟨[],List.nodup_nil,rfl,by simp⟩
  |succ n ih=>
   intro hn;obtain⟨l,a,b,c⟩:=ih (by lia);obtain⟨i,hi⟩:=this n (by lia);refine⟨i::l,List.nodup_cons.mpr ⟨λhm=>?_,a⟩,by simp[b],λx hx=>?_⟩
   ·obtain⟨j,h1,h2⟩:=c i hm;have:=L.one _ _ _ hi h2;lia
   ·rcases aG.mp hx with rfl|hx
    ·exact⟨n,by lia,hi⟩
    ·obtain⟨j,h1,h2⟩:=c x hx;exact⟨j,by lia,h2⟩
 obtain⟨l,a,b,c⟩:=inj (mask+1) (az _);have sub:∀i∈l,i<k:=λi hi=>by obtain⟨j,_,h2⟩:=c i hi;exact L.lo _ _ h2
 have:l.length<=(aR k).length:=by
  have:∀(l r:List Nat),l.Nodup->(∀i∈l,i∈r)->l.length<=r.length:=by
   intro l
   induction l with
   |nil=>intro r _ _;exact bH _
   |cons a l ih=>
    intro r hn hs;rw[List.nodup_cons]at hn;have:=ih (r.erase a) hn.2 λi hi=>(List.mem_erase_of_ne (a:=i) (b:=a) (λe=>hn.1 (by rw[<-e];exact hi))).mpr (hs i (aJ _ hi))
    have b:=List.length_erase_of_mem (hs a aK);have c:=List.length_pos_of_mem (hs a aK);simp only[bU];lia
  exact this _ _ a λi hi=>List.mem_range.mpr (sub i hi)
 rw[List.length_range]at this;lia
theorem vh{mask:Nat}(hM:Mk mask){hs:List Int}{ow:Array (Option Nat)}{k:Nat}(L:Lay mask hs ow k)(hk:k<=mask){h:Int}(hh:hs[k]? = some h) :
  ∃j,layClean.free mask ow (turns mask) (bits h%(mask+1)) (bits h)=some j/\Lay mask hs (ow.setIfInBounds j (some k)) (k+1):=by
 obtain⟨j0,h1,h2⟩:=yv hM L hk;have o:=gS mask h 0;have hx:bits h%(mask+1)<=mask:=Nat.le_of_lt_succ (Nat.mod_lt _ (Nat.succ_pos _));obtain⟨c,h3,h4⟩:=nv hM (x:=(bits h%(mask+1),bits h)) o.pt hx h1;obtain⟨m,_,a,b,d⟩:=lQ (h:=h) (ow:=ow) c (turns mask) 0 (bits h%(mask+1),bits h) (by unfold turns;lia) hx rfl (by rw[h4];exact h2);have jl:(pr mask h m).j<=mask:=kD ..;have hf:=ll.mp b;have old:∀{x i:Nat},ow[x]? = some (some i)->(ow.setIfInBounds (pr mask h m).j (some k))[x]? = some (some i):=λ{x i} e=>by
  rw[Array.getElem?_setIfInBounds,if_neg];· exact e
  ·intro q;rw[q,e]at hf;cases hf
 have new:(ow.setIfInBounds (pr mask h m).j (some k))[(pr mask h m).j]? = some (some k):=by
  rw[Array.getElem?_setIfInBounds,if_pos rfl,if_pos (by rw[L.sz];lia)]
 have inv:∀{x i:Nat},(ow.setIfInBounds (pr mask h m).j (some k))[x]? = some (some i)->(x=(pr mask h m).j/\i=k)\/ow[x]? = some (some i):=λ{x i} e=>by
  rw[Array.getElem?_setIfInBounds]at e;split at e
  ·rename_i q
   rw[if_pos (by rw[L.sz];lia)]at e;cases e;exact .inl ⟨q.symm,rfl⟩
  ·exact .inr e
 refine⟨_,a,⟨by rw[Array.size_setIfInBounds];exact L.sz,λx i e=>?_,λx y i e e'=>?_,λi g hi hg=>?_⟩⟩
 ·rcases inv e with ⟨_,rfl⟩|e
  ·lia
  ·have:=L.lo _ _ e;lia
 ·rcases inv e with ⟨e1,e0⟩|e1<;>rcases inv e' with ⟨e2,e3⟩|e2
  ·rw[e1,e2]
  ·have:=L.lo _ _ e2;lia
  ·have:=L.lo _ _ e1;lia
  ·exact L.one _ _ _ e1 e2
 ·by_cases hik:i=k
  ·subst hik;rw[hh]at hg;cases hg;refine⟨_,new,m,rfl,λl hl=>?_⟩;have nf:=d l (bH _) hl;cases q:ow[(pr mask h l).j]? with
   |none=>have:=Array.getElem?_eq_none_iff.mp q;have:=L.sz;have:=kD mask h l;lia
   |some y=>
    cases y with
    |none=>exact absurd (ll.mpr q) nf
    |some i=>exact⟨i,old q⟩
  ·obtain⟨j,e,r⟩:=L.all i g (by lia) hg;exact⟨j,old e,r.mono λj ⟨i,e⟩=>⟨i,old e⟩⟩
noncomputable def jS(mask:Nat):Option (Array (Option Nat)×Nat)->Int->Option (Array (Option Nat)×Nat):=λacc h=>do
  let (owner,k) <-acc
  let j <-layClean.free mask owner (turns mask) (bits h%(mask+1)) (bits h)
  pure (owner.setIfInBounds j (some k),k+1)
theorem m_{mask:Nat}(hM:Mk mask):∀(ls dn:List Int) (ow:Array (Option Nat)),(dn++ls).length<=mask+1->Lay mask (dn++ls) ow dn.length ->
  ∃ow',ls.foldl (jS mask) (some (ow,dn.length))=some (ow',(dn++ls).length)/\Lay mask (dn++ls) ow' (dn++ls).length
 | [],dn,ow,hl,L=>⟨ow,by simp,by simpa using L⟩
 |h::ls,dn,ow,hl,L=>by
  have hl':=hl;simp only[List.length_append,bU]at hl';obtain⟨j,e,L'⟩:=vh hM L (by lia) (h:=h) (by simp);have e1:dn++h::ls=dn++[h]++ls:=by simp
  have:=m_ hM ls (dn++[h]) (ow.setIfInBounds j (some dn.length)) (by rw[<-e1];exact hl) (by rw[<-e1];simpa using L');obtain⟨ow',a,b⟩:=this;refine⟨ow',?_,by rw[e1];exact b⟩;rw[List.foldl_cons,e1,<-a]
  congr 1
  simp only[jS,e,aE,Option.bind_some];simp
theorem AR{mask:Nat}(hM:Mk mask)(hs:List Int)(hl:hs.length<=mask+1):∃ow,layClean mask hs.toArray=some ow/\Lay mask hs ow hs.length:=by
 have L0:Lay mask ([]++hs) (Array.replicate (mask+1) none) ([]:List Int).length:=by
  have no:∀(x i:Nat),(Array.replicate (mask+1) (none:Option Nat))[x]?≠some (some i):=λx i e=>by
   rw[Array.getElem?_replicate]at e;split at e<;>cases e
  exact⟨by simp,λj i e=>absurd e (no j i),λj _ i e=>absurd e (no j i),λi g hi=>by simp at hi⟩
 obtain⟨ow,a,b⟩:=m_ hM hs [] _ (by simpa using hl) L0;refine⟨ow,?_,by simpa using b⟩;show (Array.foldl (jS mask) (some (Array.replicate (mask+1) none,0)) hs.toArray).map (·.1)=some ow;rw[<-Array.foldl_toList];rw[show hs.toArray.toList=hs from rfl];rw[show (some (Array.replicate (mask+1) (none:Option Nat),0))=some (Array.replicate (mask+1) none,([]:List Int).length)from rfl,a]
 rfl
theorem k_(ow:Array (Option Nat)):∀l:List Nat,(l.filterMap λj=>(ow.getD j none).map (j,·)).map (·.1)=l.filter λj=>(ow.getD j none).isSome
 | []=>rfl
 |j::l=>by
  cases q:ow.getD j none with
  |none=>rw[List.filterMap_cons_none (by rw[q];rfl),List.filter_cons_of_neg (by rw[q];simp)];exact k_ ow l
  |some i=>rw[List.filterMap_cons_some (by rw[q];rfl),List.filter_cons_of_pos (by rw[q];simp),a7,k_ ow l]
theorem vG{ow:Array (Option Nat)}{mask:Nat}(hz:ow.size=mask+1){j i:Nat}:(j,i)∈((aR (mask+1)).filterMap λj=>(ow.getD j none).map (j,·))↔ow[j]? = some (some i):=by
 rw[List.mem_filterMap];constructor
 ·rintro⟨x,_,e⟩;rw[a_]at e;obtain⟨y,e1,e2⟩:=e;cases e2;rw[Array.getD_eq_getD_getElem?]at e1;cases q:ow[j]? with
  |none=>rw[q]at e1;cases e1
  |some z=>rw[q]at e1;rw[show z=some i from e1]
 ·intro e;have:=(Array.getElem?_eq_some_iff.mp e).1;exact⟨j,List.mem_range.mpr (by lia),by rw[Array.getD_eq_getD_getElem?,e];rfl⟩
theorem relaid{mask:Nat}(hM:Mk mask)(hs:List Int)(hl:hs.length<=mask+1)(fi mo:Nat)(le pl:Bool) :
  ∃t' order,laid mask fi mo le pl hs.toArray=some (t',order)/\order.toList.Perm (aR hs.length)/\Good t' (order.toList.filterMap (hs[·]?))/\t'.mask=mask/\t'.led=le/\t'.plain=pl/\t'.moves=mo:=by
 obtain⟨ow,a,L⟩:=AR hM hs hl;generalize hv:((aR (mask+1)).filterMap λj=>(ow.getD j none).map (j,·))=live;have mem:∀{j i:Nat},(j,i)∈live↔ow[j]? = some (some i):=λ{j i}=>by rw[<-hv];exact vG L.sz
 have fst:live.map (·.1)=(aR (mask+1)).filter λj=>(ow.getD j none).isSome:=by rw[<-hv];exact k_ ow _
 have ri:(live.map (·.1)).Pairwise (· < ·):=by rw[fst];exact List.pairwise_lt_range.filter _
 have nd:(live.map (·.2)).Nodup:=by
  have:live.Pairwise λx y=>x.1<y.1:=List.pairwise_map.mp ri
  unfold List.Nodup;rw[List.pairwise_map];refine(List.Pairwise.and_mem.mp this).imp λ{x y} ⟨hx,hy,hlt⟩ e=>?_
  have e1:=mem.mp (show (x.1,x.2)∈live from hx);have e2:=mem.mp (show (y.1,y.2)∈live from hy);rw[<-e]at e2;have:=L.one _ _ _ e1 e2;lia
 have pm:(live.map (·.2)).Perm (aR hs.length):=by
  refine(List.perm_ext_iff_of_nodup nd List.nodup_range).mpr λi=>?_
  rw[aQ,List.mem_range];constructor
  ·rintro⟨⟨j,x⟩,h1,rfl⟩;exact L.lo _ _ (mem.mp h1)
  ·intro hi;obtain⟨j,e,_⟩:=L.all i (hs[i]) hi (List.getElem?_eq_getElem hi);exact⟨(j,i),mem.mpr e,rfl⟩
 refine⟨{mask,place:=(live.map (·.1)).toArray,dummies:=#[],finger:=fi,led:=le,moves:=mo,plain:=pl},(live.map (·.2)).toArray,?_,?_⟩
 ·unfold laid;rw[a];simp only[aE,Option.bind_some];rw[hv];rfl
 ·refine⟨pm,?_,rfl,rfl,rfl,rfl⟩;have okk:∀x∈live.map (·.2),(hs[x]?).isSome=true:=λx hx=>by
   have:=List.mem_range.mp (pm.mem_iff.mp hx);rw[List.getElem?_eq_getElem this];rfl
  have ln:((live.map (·.2)).filterMap (hs[·]?)).length=live.length:=by
   have:((live.map (·.2)).filterMap (hs[·]?)).Perm hs:=by
    refine(pm.filterMap _).trans ?_;rw[List.filterMap_getElem?_range_length]
   have p2:=pm.length_eq;rw[this.length_eq];simp at p2;lia
  refine⟨hM,rfl,?_,ri,λj hj=>?_,?_⟩
  ·show (live.map (·.1)).toArray.size=((live.map (·.2)).filterMap (hs[·]?)).length;rw[ln];simp
  ·rw[show (live.map (·.1)).toArray.toList=live.map (·.1)from rfl,fst,List.mem_filter,List.mem_range]at hj;exact Nat.le_of_lt_succ hj.1
  ·rintro⟨j,g⟩ hx;obtain⟨i,hi⟩:=List.mem_iff_getElem?.mp hx;have hz:=List.getElem?_zip_eq_some.mp hi;have h1:=hz.1;have h2:=hz.2;rw[show (live.map (·.1)).toArray.toList=live.map (·.1)from rfl,List.getElem?_map]at h1;rw[show (live.map (·.2)).toArray.toList=live.map (·.2)from rfl,oW okk,List.getElem?_map]at h2;cases q:live[i]? with
   |none=>rw[q]at h1;cases h1
   |some y=>
    rw[q]at h1 h2;cases h1;obtain⟨j',e,r⟩:=L.all y.2 g (by have:=okk y.2 (aQ.mpr ⟨y,List.mem_of_getElem? q,rfl⟩);rw[Option.isSome_iff_exists]at this;obtain⟨_,this⟩:=this;exact(List.getElem?_eq_some_iff.mp this).1) h2;have e2:=mem.mp (show (y.1,y.2)∈live from List.mem_of_getElem? q);have:=L.one _ _ _ e e2;subst this;exact r.mono λj ⟨i,e⟩=>by
     rw[show (live.map (·.1)).toArray.toList=live.map (·.1)from rfl];exact aQ.mpr ⟨(j,i),mem.mpr e,rfl⟩
end ST
namespace ST
open PySem PySem.Spec PySem.SetTable
section
variable{K:Type} [DecidableEq K]
noncomputable def ent(hash:K->Int)(x:K×ae):Int×Value:=(hash x.1,x.2)
noncomputable def ee(es:List (Int×ae))(ep:Nat)(t:aN):Obj:={cls:=.type "set",dict:=none,data:=.set es.toArray ep t,slots:=#[]}
structure Tb(w:au)(hash:K->Int)(xs:List (K×ae))(t:aN):Prop where
 good:Good t (xs.map λx=>hash x.1)
 few:xs.length * 5<t.mask * 3
 led:t.led = !w.params.followText "set-order"
 plain:t.plain=true
 nd:(xs.map (·.1)).Nodup
noncomputable def fA(w:au)(hash:K->Int)(xs:List (K×ae))(o:Obj):Prop:=∃ep t,o=ee (xs.map (ent hash)) ep t/\Tb w hash xs t
variable{w:au}{hash:K->Int}{xs:List (K×ae)}{t:aN}
theorem Tb.fits(T:Tb w hash xs t):t.fits (xs.map (ent hash)).toArray.size=true:=by
 have:=T.good.fits (by rw[aV];have:=T.few;rcases T.good.ma with h|h|h<;>rw[h]at this ⊢ <;> lia)
 simpa using this
theorem Tb.nil(fi mo:Nat):Tb w hash [] (.fresh fi mo (!w.params.followText "set-order")):=by
 refine⟨⟨.inl rfl,rfl,rfl,.nil,(λj h=>absurd h (by simp[aN.fresh])),(λjh h=>absurd h (by simp[aN.fresh]))⟩,by show 0 * 5<7 * 3;lia,rfl,rfl,.nil⟩
theorem B3(hash:K->Int)(es:List (K×ae))(p:Nat)(x:K×ae):insertAt (es.map (ent hash)).toArray p (hash x.1,x.2)=((es.take p++x::es.drop p).map (ent hash)).toArray:=by
 apply Array.toList_inj.mp;rw[aN.toList_insertAt];simp[ent]
theorem Tb.put(T:Tb w hash xs t){k:K}{v:ae}{j:Nat}(hj:j∉t.place.toList)(hR:Reach t.mask (·∈t.place.toList) (hash k) j)(hk:k∉xs.map (·.1)) :
  ∃p,t.put j=({t with place:=insertAt t.place p j},p)/\Good {t with place:=insertAt t.place p j} ((xs.take p++(k,v)::xs.drop p).map λx=>hash x.1) /\
   (xs.take p++(k,v)::xs.drop p).Perm (xs++[(k,v)])/\((xs.take p++(k,v)::xs.drop p).map (·.1)).Nodup:=by
 obtain⟨a,b,c⟩:=T.good.put hj hR;have pm:(xs.take (below t.place j)++(k,v)::xs.drop (below t.place j)).Perm (xs++[(k,v)]):=by
  refine List.perm_middle.trans ?_;rw[dM];exact(List.perm_append_singleton _ _).symm
 refine⟨below t.place j,a,?_,pm,?_⟩
 ·simpa[List.map_append,List.map_take,List.map_drop]using c
 ·refine((pm.map (·.1)).nodup_iff).mpr ?_;rw[List.map_append,List.nodup_append];exact⟨T.nd,by simp,λa ha b hb=>by simp at hb;subst hb;exact λe=>hk (e▸ha)⟩
theorem ub{n:Nat}(hn:n+1<64)(hm:Mk t.mask)(hd:t.dummies = #[])(hl:t.place.size=n+1)(hf:n * 5<t.mask * 3) :
  (t.tooFull=false/\(n+1) * 5<t.mask * 3)\/(t.tooFull=true/\∃m,Mk m/\sizeAbove (grown (n+1))-1=m/\sizeAbove (grown (n+1))<=128/\n+1<=m+1/\(n+1) * 5<m * 3):=by
 have e:t.tooFull=decide ((n+1) * 5 >= t.mask * 3):=by unfold tooFull fill;rw[hd,hl];rfl
 rw[e];by_cases q:(n+1) * 5 >= t.mask * 3
 ·refine .inr ⟨by simpa using q,?_⟩;rcases hm with h|h|h<;>rw[h]at q hf
  ·obtain rfl:n=4:=by lia
   exact⟨31,.inr (.inl rfl),by decide,by decide,by lia,by lia⟩
  ·obtain rfl:n=18:=by lia
   exact⟨127,.inr (.inr rfl),by decide,by decide,by lia,by lia⟩
  ·lia
 ·exact .inl ⟨by simpa using q,by lia⟩
theorem Ct{t:aN}{ys:List (K×ae)}{n m:Nat}(hM:Mk m)(hs:sizeAbove (grown (n+1))-1=m)(hl:n+1<=m+1)(hq:(n+1) * 5<m * 3)(hn:ys.length=n+1)(led:t.led = !w.params.followText "set-order")(plain:t.plain=true)(nd:(ys.map (·.1)).Nodup) :
  ∃t' order zs,t.relaid ((ys.map (ent hash)).toArray.map (·.1)) (grown (n+1))=some (t',order)/\order.filterMap ((ys.map (ent hash)).toArray[·]?)=(zs.map (ent hash)).toArray/\order.toList.Perm (aR (n+1))/\zs.Perm ys/\Tb w hash zs t':=by
 have e0:(ys.map (ent hash)).toArray.map (·.1)=(ys.map λx=>hash x.1).toArray:=by
  apply Array.toList_inj.mp;simp[ent,Function.comp_def]
 obtain⟨t',order,h1,h2,h3,h4,h5,h6,h7⟩:=relaid hM (ys.map λx=>hash x.1) (by rw[aV,hn];exact hl) t.finger (t.movedTo m) t.led t.plain;rw[aV,hn]at h2;have pz:(order.toList.filterMap (ys[·]?)).Perm ys:=by
  refine(h2.filterMap _).trans ?_;rw[<-hn,List.filterMap_getElem?_range_length]
 refine⟨t',order,order.toList.filterMap (ys[·]?),?_,?_,h2,pz,⟨?_,?_,h5.trans led,h6.trans plain,?_⟩⟩
 ·unfold aN.relaid;rw[hs,e0];exact h1
 ·apply Array.toList_inj.mp;rw[Array.toList_filterMap,List.map_filterMap];refine congrArg (λf=>List.filterMap f order.toList) (funext λi=>?_);simp
 ·rw[List.map_filterMap];refine(congrArg (Good t') (congrArg (λf=>List.filterMap f order.toList) (funext λi=>?_))).mp h3;simp
 ·rw[pz.length_eq,hn,h4];exact hq
 ·exact((pz.map (·.1)).nodup_iff).mpr nd
end
section
variable{prog:ay}{w:au}{A:ax}{E:ae->af->Prop}{s:af}{K:Type} [DecidableEq K]{hash:K->Int}
theorem store{a:Addr}{es:List (Int×ae)}{ep:Nat}{t t':aN}{es':Array (Int×ae)}{Q:Unit->af->Prop}(ho:s.heap.get? a=some (ee es ep t))(hz:es'.size<=aI)
  (h:∀h',Heap.SameBut a s.heap h'->h'.get? a=some (ee es'.toList (ep+1) t')->Q () {s with heap:=h'}):aj (ak prog w) A (storeSet a es' t') Q E s:=by
 refine wpAny_storeSet_of ho rfl (h _ (Heap.SameBut.update _ _ _) ?_) hz;have:=Heap.get?_update_self (Obj.putSet es' t') ho (by rw[putSet_of es' t' rfl];rfl);rw[putSet_of es' t' rfl]at this;rw[this];simp[ee]
end
section
variable{prog:ay}{w:au}{A:ax}{E:ae->af->Prop}{s:af}
theorem Bz{t:aN}{hs:List Int}(G:Good t hs)(hf:hs.length<=t.mask)(h:Int):∃m,m<10 * turns t.mask/\(pr t.mask h m).j∉t.place.toList/\∀k,k<m->(pr t.mask h k).j∈t.place.toList:=by
 obtain⟨m0,_,b0,c0⟩:=G.free hf h 0;obtain⟨m,_,b,c⟩:=G.go (λ_=>h+1) h (10 * turns t.mask) 0 ⟨m0,bH _,b0,c0⟩;have occ:∀k,k<m->(pr t.mask h k).j∈t.place.toList:=λk hk=>by
  obtain⟨i,hi,_⟩:=b k (bH _) hk;rw[<-Array.getElem?_toList]at hi;exact List.mem_of_getElem? hi
 rcases c with ⟨c,_⟩|⟨i,_,c,_⟩
 ·refine⟨m,?_,c,occ⟩;have:m<=m0:=dw λq=>c0 (occ m0 q)
  lia
 ·lia
end
section
variable{prog:ay}{w:au}{A:ax}{E:ae->af->Prop}{s:af}
end
section
variable{prog:ay}{w:au}{A:ax}{E:ae->af->Prop}{s:af}
theorem yM{K:Type} [DecidableEq K]{hash:K->Int}{xs:List (K×ae)}{t:aN}(T:Tb w hash xs t):(xs.map λx=>hash x.1).length<=t.mask:=by
 rw[aV];have:=T.few;rcases T.good.ma with h|h|h<;>rw[h]at this ⊢ <;> lia
noncomputable def More{K:Type} [DecidableEq K](xs:List (K×ae))(k:K)(v:ae):List (K×ae):=if k∈xs.map (·.1)then xs else xs++[(k,v)]
noncomputable def j_(h:Heap)(k:Int)(v:ae):Prop:=∃t,v=.int k t
theorem elems{xs:List (Int×ae)}{h:Heap}(hel:∀x∈xs,j_ h x.1 x.2):ElemsOf (intKind prog w) (xs.map (ent hashInt)):=by
 intro e he;obtain⟨x,hx,rfl⟩:=aQ.mp he;obtain⟨t,e⟩:=hel x hx;have e2:(ent hashInt x).2=.int x.1 t:=e;rw[e2];exact⟨⟨x.1,intKind_is _ _ _ _,rfl⟩,rfl⟩
theorem DM{a:Addr}{xs:List (Int×ae)}{k:Int}{tk:Tok}{o:Obj}(ho:s.heap.get? a=some o)(hS:fA w hashInt xs o)
  (hel:∀x∈xs,j_ s.heap x.1 x.2) (hn:xs.length+1<64) {Q:Bool->af->Prop}
  (h:∀b h' ys,Heap.SameBut a s.heap h'->(∃o,h'.get? a=some o/\fA w hashInt ys o)->ys.Perm (More xs k (.int k tk))->Q b {s with heap:=h'}) :
  aj (ak prog w) A (setAddHashed a (.int k tk) (hashInt k)) Q E s:=by
 obtain⟨ep,t,rfl,T⟩:=hS;have EL:ElemsOf (intKind prog w) (xs.map (ent hashInt)).toArray.toList:=elems hel;obtain⟨ms,m1,m2,m3⟩:=Bz T.good (yM T) (hashInt k);have e:s={s with heap:=s.heap}:=by cases s;rfl
 have hb:(xs.map (ent hashInt)).toArray.size<scanBound:=by simp[scanBound];lia
 unfold setAddHashed;refine bV ?_;unfold setAddHashedIn;refine ag (wpAny_setState_of ho rfl T.fits ?_);dsimp only;rw[byScan_of (knd:=intKind prog w) rfl hb EL];simp only[↓reduceIte];unfold setAddByScan;refine ag ?_;refine ag (wpAny_rule ?_);refine ag (wpAny_setScan_of (knd:=intKind prog w) (k:=k) (intKind_is _ _ _ _) ho rfl T.fits EL ?_);have is_:∀(x:Int×ae),x∈xs->((intKind prog w).is k (ent hashInt x).2=true↔x.1=k):=λx hx=>by
  obtain⟨t,e⟩:=hel x hx;have e2:(ent hashInt x).2=.int x.1 t:=e;rw[e2];constructor
  ·intro q;exact((intKind prog w).inj _ _ _ q (intKind_is _ _ _ _)).symm
  ·intro q;rw[q];exact intKind_is _ _ _ _
 cases hr:List.findIdx? (λe=>(intKind prog w).is k e.2) (xs.map (ent hashInt)).toArray.toList with
 |some j=>
  dsimp only;obtain⟨hj,hpj,_⟩:=List.findIdx?_eq_some_iff_getElem.mp hr;have hm:k∈xs.map (·.1):=by
   have hj':j<xs.length:=by simpa using hj
   have q:(intKind prog w).is k (ent hashInt xs[j]).2=true:=by simpa using hpj
   exact aQ.mpr ⟨xs[j],cN _,(is_ _ (cN _)).mp q⟩
  refine ar (ar ?_);have:=h false s.heap xs (Heap.SameBut.refl a s.heap) ⟨_,ho,ep,t,rfl,T⟩ (by rw[More,if_pos hm]);rw[e];exact this
 |none=>
  dsimp only;have hm:k∉xs.map (·.1):=λhm=>by
   obtain⟨x,hx,e⟩:=aQ.mp hm;have:=List.findIdx?_eq_none_iff.mp hr (ent hashInt x) (aQ.mpr ⟨x,hx,rfl⟩);rw[(is_ x hx).mpr e]at this;cases this
  obtain⟨p,e1,g,pm,nd⟩:=T.put (k:=k) (v:=.int k tk) m2 ⟨ms,rfl,m3⟩ hm;have e2:insertAt (xs.map (ent hashInt)).toArray p (hashInt k,.int k tk)=((xs.take p++(k,.int k tk)::xs.drop p).map (ent hashInt)).toArray:=B3 hashInt xs p (k,.int k tk);have fr:t.freeSlot (hashInt k)=some ((pr t.mask (hashInt k) ms).j,false):=by
   obtain⟨m,a1,a2,a3⟩:=T.good.go (λ_=>hashInt k+1) (hashInt k) (10 * turns t.mask) 0 ⟨ms,bH _,by lia,m2⟩;have occ:∀l,l<m->(pr t.mask (hashInt k) l).j∈t.place.toList:=λl hl=>by
    obtain⟨i,hi,_⟩:=a2 l (bH _) hl;rw[<-Array.getElem?_toList]at hi;exact List.mem_of_getElem? hi
   rcases a3 with ⟨b1,b2⟩|⟨i,_,b,_⟩
   ·have:m=ms:=Nat.le_antisymm (dw λq=>m2 (occ ms q)) (dw λq=>b1 (m3 m q));subst this;unfold freeSlot probe;rw[xA,b2];rfl
   ·lia
  generalize hy:xs.take p++(k,.int k tk)::xs.drop p=ys at *;have hl:ys.length=xs.length+1:=by rw[pm.length_eq];simp
  have zl:ys.length<=sizeLine:=by rw[hl,bp];lia
  have ft:({t with place:=insertAt t.place p (pr t.mask (hashInt k) ms).j}:aN).fits (ys.map (ent hashInt)).toArray.size=true:=by
   have:=g.fits (by rw[aV,hl];have:=T.few;show _<=t.mask;rcases T.good.ma with h|h|h<;>rw[h]at this ⊢ <;> lia)
   simpa using this
  have ly:layNew t (xs.map (ent hashInt)).toArray (hashInt k) (.int k tk)=((ys.map (ent hashInt)).toArray,{t with place:=insertAt t.place p (pr t.mask (hashInt k) ms).j},false,false):=by
   unfold layNew;rw[fr];dsimp only;rw[e1];dsimp only;rw[e2];unfold orStandIn;rw[ft];rfl
  have hr':(intKind prog w).hash k=hashInt k:=rfl;rw[ly];dsimp only;refine ag (ar ?_);rw[show ({t with place:=insertAt t.place p (pr t.mask (hashInt k) ms).j}:aN).plain=true from T.plain];simp only[if_true];rw[hashByValue_scannable 8 rfl];refine ag (ar ?_);simp only[plainKind,if_true];have len:=g.len;rw[aV,hl]at len;have gt:∀{tt:aN},tt={t with place:=insertAt t.place p (pr t.mask (hashInt k) ms).j}->aj (ak prog w) A (do
    storeSet a (ys.map (ent hashInt)).toArray tt
    if (!false&&tt.tooFull)=true then do
      (match (relayAll tt (ys.map (ent hashInt)).toArray (aN.grown (ys.map (ent hashInt)).toArray.size)).2.2 with|true=>rule "set.scan.the-table-gave-way" |false=>pure ())
      storeSet a (relayAll tt (ys.map (ent hashInt)).toArray (aN.grown (ys.map (ent hashInt)).toArray.size)).1 (relayAll tt (ys.map (ent hashInt)).toArray (aN.grown (ys.map (ent hashInt)).toArray.size)).2.1
      pure (some true)
     else pure (some true)) (λx s'=>aj (ak prog w) A (match x with|some added=>pure added|none=>setAddHashedIn a (.int k tk) (hashInt k) 99999) Q E s') E s:=by
   rintro _ rfl;refine ag (store ho (by simpa using zl) λh1 sb1 o1=>?_);rcases ub (t:={t with place:=insertAt t.place p (pr t.mask (hashInt k) ms).j}) hn T.good.ma T.good.dum len T.few with ⟨f,few⟩|⟨f,m,hM,hs,hsl,hl',hq⟩
   ·rw[f];simp only[Bool.not_false,Bool.and_false,bg,if_false];exact ar (ar (h true h1 ys sb1 ⟨_,o1,ep+1,_,rfl,⟨g,by rw[hl];exact few,T.led,T.plain,nd⟩⟩ (by rw[More,if_neg hm];exact pm)))
   ·rw[f];simp only[Bool.not_false,Bool.and_self,if_true];obtain⟨t',order,zs,r1,r2,r3,r4,r5⟩:=Ct (w:=w) (hash:=hashInt) (t:={t with place:=insertAt t.place p (pr t.mask (hashInt k) ms).j}) hM hs hl' hq hl T.led T.plain nd;have zs_l:zs.length=ys.length:=r4.length_eq;have ra:relayAll {t with place:=insertAt t.place p (pr t.mask (hashInt k) ms).j} (ys.map (ent hashInt)).toArray (aN.grown (ys.map (ent hashInt)).toArray.size)=((zs.map (ent hashInt)).toArray,t',false):=by
     unfold relayAll;rw[show (ys.map (ent hashInt)).toArray.size=xs.length+1 by simp[hl],r1];dsimp only;rw[r2];have ca:coversAll order (xs.length+1)=true:=List.isPerm_iff.mpr r3;rw[ca,r5.fits];rfl
    rw[ra];dsimp only;refine ag (ar ?_);refine ag (store (es:=ys.map (ent hashInt)) (ep:=ep+1) o1 (by simp[zs_l];exact zl) λh2 sb2 o2=>?_);exact ar (ar (h true h2 zs (sb1.trans sb2) ⟨_,o2,ep+1+1,t',rfl,r5⟩ (by rw[More,if_neg hm];exact r4.trans pm)))
  refine gt ?_;rw[<-T.plain]
end
structure Kd(prog:ay)(w:au)(K:Type) [DecidableEq K] where
 hash:K->Int
 el:Heap->K->ae->Prop
 grow:∀{h h':Heap}{k:K}{v:ae},el h k v->(∀b o,h.get? b=some o->h'.get? b=some o)->el h' k v
 room:ax->Prop
 pyHash:∀{A:ax}{E:ae->af->Prop}{s:af}{k:K}{v:ae}{Q:Int->af->Prop},room A->el s.heap k v->(∀tk,s.toks<=tk->Q (hash k) {s with toks:=tk})->aj (ak prog w) A (pyHash v) Q E s
 add:∀{A:ax}{E:ae->af->Prop}{s:af}{a:Addr}{xs:List (K×ae)}{k:K}{v:ae}{o:Obj}{Q:Bool->af->Prop},room A->s.heap.get? a=some o->fA w hash xs o ->
  (∀x∈xs,el s.heap x.1 x.2)->el s.heap k v->xs.length+1<64 ->
  (∀b h' ys,Heap.SameBut a s.heap h'->(∃o,h'.get? a=some o/\fA w hash ys o)->ys.Perm (More xs k v)->Q b {s with heap:=h'})->aj (ak prog w) A (setAddHashed a v (hash k)) Q E s
noncomputable def inK(prog:ay)(w:au):Kd prog w Int where
 hash:=hashInt
 el:=j_
 grow:=λh _=>h
 room:=λ_=>True
 pyHash:=λ_ ⟨t,e⟩ h=>by subst e;exact wpAny_pyHash_int (h _ (Nat.le_succ _))
 add:=λ_ ho hS hel ⟨t,e⟩ hn h=>by subst e;exact DM ho hS hel hn h
section
variable{prog:ay}{w:au}{K:Type} [DecidableEq K](D:Kd prog w K)
noncomputable def Holds(h0 h:Heap)(a:Addr)(keys:Nat->K)(i:Nat):Prop:=∃o xs,h.get? a=some o/\fA w D.hash xs o/\(∀x∈xs,D.el h0 x.1 x.2)/\(∀k,k∈xs.map (·.1)↔∃j,j<i/\keys j=k)/\xs.length<=i
variable{D}
variable{A:ax}{R:Result->af->Prop}{I:Addr}{fp wr:List Addr}{G:Array GenState->Array GenState->Prop}{n:Nat}{P:Nat->ae->Prop}{St:Nat->af->Prop}
theorem loop(W:WalksS prog w A.in1 I fp wr G n P St)(hu:D.room A.in1)(S:Addr)(hSf:S∉fp){h0:Heap}(hS0:h0.get? S=none)(hwr:∀b∈wr,h0.get? b=none)
  (keys:Nat->K) (hval:∀i v,P i v->D.el h0 (keys i) v) (hb:n<64) :
  ∀(k i:Nat) (s:af),n-i=k->i<=n->St i s->(∀b o,h0.get? b=some o->s.heap.get? b=some o)->Holds D h0 s.heap S keys i ->
   (∀s',Moved (S::wr) G s s'->Holds D h0 s'.heap S keys n->R (.ok (.ret .none)) s') ->
   codeAny (ak prog w) A (.builtin "set.update.loop" ⟨[.ref S,.ref I],[]⟩) R s:=by
 have hSw:S∉wr:=λh=>hSf (W.sub _ h)
 have hsub:∀b∈wr,b∈S::wr:=λb hb=>aJ _ hb
 intro k
 induction k with
 |zero=>
  intro i s hk hi hst hk0 hS hR;have hin:i=n:=by lia
  subst hin;refine b8 PyProof.Rows.F.entry_set_update_loop ?_;rw[dk PyProof.Rows.F.plain_set_update_loop _];show aj _ A.in1 (pyNext (.ref I)>>=_) _ _ s;refine ag (W.done s _ _ hst λs' hm=>?_);show aj _ A.in1 (ret bA) _ _ s';obtain⟨o,xs,ho,r⟩:=hS;exact ar (hR s' (hm.mono hsub) ⟨o,xs,hm.heap S _ hSw ho,r⟩)
 |succ k ih=>
  intro i s hk hi hst hk0 hS hR;have hlt:i<n:=by lia
  refine b8 PyProof.Rows.F.entry_set_update_loop ?_;rw[dk PyProof.Rows.F.plain_set_update_loop _];show aj _ A.in1 (pyNext (.ref I)>>=_) _ _ s;refine ag (W.item i s _ _ hlt hst λv s' hP hst' hm=>?_);have hel:=hval i v hP;obtain⟨o,xs,ho,r1,r2,r3,r4⟩:=hS;have hk1:∀b o,h0.get? b=some o->s'.heap.get? b=some o:=λb o e=>hm.heap b o (λq=>by rw[hwr b q]at e;cases e) (hk0 b o e)
  have ho':=hm.heap S _ hSw ho;show aj _ A.in1 (holding [v] (setAdd S v)>>=_) _ _ s';refine ag (bV ?_);unfold setAdd;refine bV ?_;refine ag (D.pyHash hu (D.grow hel hk1) λtk htk=>?_);refine D.add (s:={s' with toks:=tk}) hu ho' r1 (λx hx=>D.grow (r2 x hx) hk1) (D.grow hel hk1) (by lia) λb h' ys sb hS2 pm=>?_
  have hk2:∀b o,h0.get? b=some o->h'.get? b=some o:=λb o e=>by
   rw[sb.2 b (λh:b=S=>by rw[h,hS0]at e;cases e)];exact hk1 b o e
  have hS3:Holds D h0 h' S keys (i+1):=by
   obtain⟨o2,ho2,si⟩:=hS2;refine⟨o2,ys,ho2,si,λx hx=>?_,λk'=>?_,?_⟩
   ·have:=pm.mem_iff.mp hx;unfold More at this;split at this
    ·exact r2 x this
    ·rcases List.mem_append.mp this with q|q
     ·exact r2 x q
     ·rw[List.mem_singleton.mp q];exact hel
   ·rw[(pm.map (·.1)).mem_iff];have:(∃j,j<i+1/\keys j=k')↔(∃j,j<i/\keys j=k')\/keys i=k':=by
     constructor
     ·rintro⟨j,a,b⟩;rcases Nat.lt_succ_iff_lt_or_eq.mp a with q|q
      ·exact .inl ⟨j,q,b⟩
      ·subst q;exact .inr b
     ·rintro(⟨j,a,b⟩|b)
      ·exact⟨j,by lia,b⟩
      ·exact⟨i,by lia,b⟩
    rw[this,<-r3 k'];unfold More;split
    ·rename_i q
     exact⟨.inl,λh=>h.elim id λe=>e▸q⟩
    ·rw[List.map_append,List.mem_append];simp only[a7,List.map_nil,List.mem_singleton];exact⟨λh=>h.imp id Eq.symm,λh=>h.imp id Eq.symm⟩
   ·rw[pm.length_eq];unfold More;split
    ·lia
    ·simp;lia
  refine ar ⟨plainId_quiet PyProof.Rows.F.plain_set_update_loop _,ih (i+1) _ (by lia) hlt (W.frame _ s' _ _ hst' htk λb hb o e=>?_) hk2 hS3 λs'' hm'' hS''=>?_⟩
  ·rw[sb.2 b (λh:b=S=>hSf (by rw[<-h];exact hb))];exact e
  ·refine hR s'' (Moved.trans W.gtrans ((hm.mono hsub).then_heap htk λb o hb e=>?_) hm'') hS'';rw[sb.2 b (λh:b=S=>hb (by rw[h];exact aK))];exact e
end
abbrev bX(w:au):Obj:={cls:=.type "set",dict:=none,data:=.set #[] 0 (.fresh 0 0 (!w.params.followText "set-order"))}
section
variable{prog:ay}{w:au}{A:ax}{E:ae->af->Prop}{s:af}{K:Type} [DecidableEq K]{D:Kd prog w K}
theorem oK(a:ae){Q₁:ae->af->Prop}(h:Q₁ (.ref s.heap.objs.size) {s with heap:=s.heap.push (bX w)}) :
  codeAny (ak prog w) A (.call (.builtin "set.__new__") ⟨[.type "set",a],[]⟩) (wants Q₁ E) s:=by
 refine codeAny_of_tree ?_;show aj _ A.in1 (do checkBuiltinCall "set.__new__" ⟨[.type "set",a],[]⟩;again (.builtin "set.__new__" ⟨[.type "set",a],[]⟩)) _ _ s;refine ag (wpAny_of_eq (F.newCall_set_1 a) (ar ⟨plainId_quiet F.plain_set_new _,b8 F.entry_set_new ?_⟩));rw[dk F.plain_set_new _];unfold Builtin.«set.__new__» Builtin.Frozenset.newClass;have hsub:=sub_set_self;obtain⟨hp,g,d,tk,os⟩:=s;dsimp only
 wp_walk
 refine wpAny_askSetting (ar ?_);dsimp only;simp only[newObj];refine ag (wpAny_alloc (ar ?_));exact ar h
theorem vO:fA w D.hash [] (bX w):=⟨0,_,rfl,Tb.nil 0 0⟩
theorem pL(hu:D.room A.in1.in1.in1){I:Addr}{fp wr:List Addr}{items:Array ae}{St:Nat->Heap->Prop}(W:Walks prog w A.in1.in1.in1 I fp wr items.size (λi v=>items[i]? = some v) St){h1:Heap}
  (keys:Nat->K) (hval:∀(i:Nat) v,items[i]? = some v->D.el s.heap (keys i) v) (hb:items.size<64) (hst:St 0 h1) (hS:h1.get? s.heap.objs.size=some (bX w)) (hold:∀b o,s.heap.get? b=some o->h1.get? b=some o)
  (hSf:s.heap.objs.size∉fp) (hwr:∀b∈wr,s.heap.objs.size<=b) {R:Result->af->Prop}
  (h:∀(h':Heap) (tk:Nat),Holds D s.heap h' s.heap.objs.size keys items.size->(∀b o,b<s.heap.objs.size->s.heap.get? b=some o->h'.get? b=some o)->R (.ok (.ret .none)) {s with heap:=h',toks:=tk}) :
  codeAny (ak prog w) A.in1.in1 (.builtin "set.update.loop" ⟨[.ref s.heap.objs.size,.ref I],[]⟩) R {s with heap:=h1}:=by
 have out:∀b,s.heap.objs.size<=b->s.heap.get? b=none:=λb hb=>by
  cases q:s.heap.get? b with
  |none=>rfl
  |some o=>exact absurd (aF q) (Nat.not_lt.mpr hb)
 refine loop W.toS hu s.heap.objs.size hSf (h0:=s.heap) (out _ (az _)) (λb hb=>out b (hwr b hb)) keys hval hb (items.size-0) 0 _ (by lia) (bH _) hst hold ?_ λs' hm hS'=>?_
 ·exact⟨_,[],hS,vO,(λx hx=>absurd hx (bh)),(λk=>by simp),az _⟩
 ·obtain⟨h',g',d',tk',os'⟩:=s';have eg:g'=s.gens:=hm.gens;have ed:d'=s.drawn:=hm.drawn;have eo:os'=s.os:=hm.os;subst eg;subst ed;subst eo;refine h h' tk' hS' λb o hb e=>hm.heap b o (λq=>?_) (hold b o e)
  rcases aG.mp q with q|q
  ·rw[q]at hb;exact bx _ hb
  ·exact absurd hb (Nat.not_lt.mpr (hwr b q))
theorem sub_list_set:isSubtype (.type "list") (.type "set")=pure false:=by rw[isSubtype_type];kernel_rfl
theorem sub_list_frozenset:isSubtype (.type "list") (.type "frozenset")=pure false:=by rw[isSubtype_type];kernel_rfl
theorem call_set_list{l:Addr}{items:Array ae}{Q:ae->af->Prop}(hh:A.handled=none)(hu:D.room A.in1.in1.in1)(hl:s.heap.IsList l items)(keys:Nat->K)(hval:∀(i:Nat) v,items[i]? = some v->D.el s.heap (keys i) v)(hb:items.size<64)
  (h:∀(h':Heap) (tk:Nat),Holds D s.heap h' s.heap.objs.size keys items.size->(∀b o,b<s.heap.objs.size->s.heap.get? b=some o->h'.get? b=some o)->Q (.ref s.heap.objs.size) {s with heap:=h',toks:=tk}) :
  aj (ak prog w) A (call (.type "set") [.ref l]) Q E s:=by
 obtain⟨c,tl,hmro⟩:=F.called_set.mro;have hmade:=F.called_set.made;have hsub:=F.called_set.sub;refine wpAny_call (codeAny_of_tree ?_);show aj _ _ (callAny (.type "set") _) _ _ _;refine ar ⟨Code.quiet_builtin _ (by decide +kernel),b8 F.entry_type_call ?_⟩;rw[ax.under_plain (weight_type_call_type "set" [.ref l] []) rfl];have h1:=F.called_set.notType;have h2:=F.called_set.canCreate;have hct:=F.typeCall_set_1 (.ref l)
 repeat (any_goals (first|assumption|wp_step))
 refine cb (oK (.ref l) (E:=E) (Q₁:=λobj s₁=>obj=.ref s.heap.objs.size/\s₁={s with heap:=s.heap.push (bX w)}) ⟨rfl,rfl⟩) λr s₁ hr=>?_
 cases r with
 |error e=>exact hr
 |ok fl=>
  cases fl with
  |ret obj=>
   obtain⟨rfl,rfl⟩:=hr;have hS:(s.heap.push (bX w)).get? s.heap.objs.size=some (bX w):=Heap.get?_push_size _ rfl;have hT:af.TypeIs {s with heap:=s.heap.push (bX w)} (.ref s.heap.objs.size) "set":=⟨_,hS,rfl⟩
   have hli:=F.called_set.init.lookup;have hbi:=F.called_set.init.bind (.ref s.heap.objs.size)
   repeat (any_goals (first|assumption|wp_step))
   refine cb (codeAny_call_builtin (R:=wants (λr s₂=>r=.none/\∃h' tk,s₂={s with heap:=h',toks:=tk}/\Holds D s.heap h' s.heap.objs.size keys items.size /\
     (∀b o,b<s.heap.objs.size->s.heap.get? b=some o->h'.get? b=some o)) E) F.called_set.init.plain F.entry_set_init (check_set_init_1 hT ?_)) λr₂ s₂ hr₂=>?_
   ·obtain⟨ol,hol,hcl,nl,hdl⟩:=hl;obtain⟨ocls,odict,odata,oslots⟩:=ol;simp only at hcl hdl;subst hcl;subst hdl;have hol':(s.heap.push (bX w)).get? l=some {cls:=.type "list",dict:=odict,data:=.seq items nl,slots:=oslots}:=Heap.get?_push_of_some _ hol;have hsls:=sub_list_set;have hslf:=sub_list_frozenset;have hne:(ae.type "list" == ae.type "dict")=false:=by decide
    have hl1:(s.heap.push (bX w)).IsList l items:=⟨_,hol',rfl,nl,rfl⟩
    unfold Builtin.«set.__init__» noKeywords Builtin.Frozenset.updateFrom;generalize hPI:pyIter=PI
    wp_walk
    subst hPI;refine wpAny_pyIter_list hl1 ?_;refine ag (wpAny_runValue ?_);have hlS:l<s.heap.objs.size:=aF hol;have hh3:A.in1.in1.in1.handled=none:=by simp[hh]
    have hneI:l≠(s.heap.push (bX w)).objs.size:=by
     rw[bj];exact aU (dt hlS)
    have hSf:s.heap.objs.size∉[(s.heap.push (bX w)).objs.size,l]:=by
     rw[bj];simp only[aG,List.mem_singleton,bh,or_false,not_or];exact⟨aU (Nat.lt_succ_self _),Nat.ne_of_gt hlS⟩
    refine pL hu (Walks.list hh3 _ l hneI items) keys hval hb ⟨⟨_,Heap.get?_push_size _ rfl,rfl,rfl⟩,(hl1.push _)⟩ (Heap.get?_push_of_some _ hS) (λb o e=>Heap.get?_push_of_some _ (Heap.get?_push_of_some _ e)) hSf (λb hb=>by rw[List.mem_singleton.mp hb,bj];exact Nat.le_succ _) λh' tk hH hk=>?_
    show aj _ _ _ _ _ _;refine ar ?_;show aj _ _ (ret bA) _ _ _;exact ar ⟨rfl,h',tk,rfl,hH,hk⟩
   ·cases r₂ with
    |error e=>exact hr₂
    |ok fl₂=>
     cases fl₂ with
     |ret r=>
      obtain⟨rfl,h',tk,rfl,hS',hk'⟩:=hr₂
      repeat (any_goals (first|assumption|wp_step))
      exact h _ _ hS' hk'
     |_=>exact hr₂.elim
  |_=>exact hr.elim
theorem sub_tuple_set:isSubtype (.type "tuple") (.type "set")=pure false:=by rw[isSubtype_type];kernel_rfl
theorem sub_tuple_frozenset:isSubtype (.type "tuple") (.type "frozenset")=pure false:=by rw[isSubtype_type];kernel_rfl
theorem uu{l:Addr}{items:Array ae}{Q:ae->af->Prop}(hh:A.handled=none)(hu:D.room A.in1.in1.in1)(hl:s.heap.IsTuple l items)(keys:Nat->K)(hval:∀(i:Nat) v,items[i]? = some v->D.el s.heap (keys i) v)(hb:items.size<64)
  (h:∀(h':Heap) (tk:Nat),Holds D s.heap h' s.heap.objs.size keys items.size->(∀b o,b<s.heap.objs.size->s.heap.get? b=some o->h'.get? b=some o)->Q (.ref s.heap.objs.size) {s with heap:=h',toks:=tk}) :
  aj (ak prog w) A (call (.type "set") [.ref l]) Q E s:=by
 obtain⟨c,tl,hmro⟩:=F.called_set.mro;have hmade:=F.called_set.made;have hsub:=F.called_set.sub;refine wpAny_call (codeAny_of_tree ?_);show aj _ _ (callAny (.type "set") _) _ _ _;refine ar ⟨Code.quiet_builtin _ (by decide +kernel),b8 F.entry_type_call ?_⟩;rw[ax.under_plain (weight_type_call_type "set" [.ref l] []) rfl];have h1:=F.called_set.notType;have h2:=F.called_set.canCreate;have hct:=F.typeCall_set_1 (.ref l)
 repeat (any_goals (first|assumption|wp_step))
 refine cb (oK (.ref l) (E:=E) (Q₁:=λobj s₁=>obj=.ref s.heap.objs.size/\s₁={s with heap:=s.heap.push (bX w)}) ⟨rfl,rfl⟩) λr s₁ hr=>?_
 cases r with
 |error e=>exact hr
 |ok fl=>
  cases fl with
  |ret obj=>
   obtain⟨rfl,rfl⟩:=hr;have hS:(s.heap.push (bX w)).get? s.heap.objs.size=some (bX w):=Heap.get?_push_size _ rfl;have hT:af.TypeIs {s with heap:=s.heap.push (bX w)} (.ref s.heap.objs.size) "set":=⟨_,hS,rfl⟩
   have hli:=F.called_set.init.lookup;have hbi:=F.called_set.init.bind (.ref s.heap.objs.size)
   repeat (any_goals (first|assumption|wp_step))
   refine cb (codeAny_call_builtin (R:=wants (λr s₂=>r=.none/\∃h' tk,s₂={s with heap:=h',toks:=tk}/\Holds D s.heap h' s.heap.objs.size keys items.size /\
     (∀b o,b<s.heap.objs.size->s.heap.get? b=some o->h'.get? b=some o)) E) F.called_set.init.plain F.entry_set_init (check_set_init_1 hT ?_)) λr₂ s₂ hr₂=>?_
   ·obtain⟨ol,hol,hcl,nl,hdl⟩:=hl;obtain⟨ocls,odict,odata,oslots⟩:=ol;simp only at hcl hdl;subst hcl;subst hdl;have hol':(s.heap.push (bX w)).get? l=some {cls:=.type "tuple",dict:=odict,data:=.seq items nl,slots:=oslots}:=Heap.get?_push_of_some _ hol;have hsls:=sub_tuple_set;have hslf:=sub_tuple_frozenset;have hne:(ae.type "tuple" == ae.type "dict")=false:=by decide
    have hl1:(s.heap.push (bX w)).IsTuple l items:=⟨_,hol',rfl,nl,rfl⟩
    unfold Builtin.«set.__init__» noKeywords Builtin.Frozenset.updateFrom;generalize hPI:pyIter=PI
    wp_walk
    subst hPI;refine wpAny_pyIter_tuple hl1 ?_;refine ag (wpAny_runValue ?_);have hlS:l<s.heap.objs.size:=aF hol;have hh3:A.in1.in1.in1.handled=none:=by simp[hh]
    have hneI:l≠(s.heap.push (bX w)).objs.size:=by
     rw[bj];exact aU (dt hlS)
    have hSf:s.heap.objs.size∉[(s.heap.push (bX w)).objs.size,l]:=by
     rw[bj];simp only[aG,List.mem_singleton,bh,or_false,not_or];exact⟨aU (Nat.lt_succ_self _),Nat.ne_of_gt hlS⟩
    refine pL hu (Walks.tuple hh3 _ l hneI items) keys hval hb ⟨⟨_,Heap.get?_push_size _ rfl,rfl,rfl⟩,(hl1.push _)⟩ (Heap.get?_push_of_some _ hS) (λb o e=>Heap.get?_push_of_some _ (Heap.get?_push_of_some _ e)) hSf (λb hb=>by rw[List.mem_singleton.mp hb,bj];exact Nat.le_succ _) λh' tk hH hk=>?_
    show aj _ _ _ _ _ _;refine ar ?_;show aj _ _ (ret bA) _ _ _;exact ar ⟨rfl,h',tk,rfl,hH,hk⟩
   ·cases r₂ with
    |error e=>exact hr₂
    |ok fl₂=>
     cases fl₂ with
     |ret r=>
      obtain⟨rfl,h',tk,rfl,hS',hk'⟩:=hr₂
      repeat (any_goals (first|assumption|wp_step))
      exact h _ _ hS' hk'
     |_=>exact hr₂.elim
  |_=>exact hr.elim
end
theorem l9:Manifest.owners.lookup (String.ofList ['r','o','t','a','r','e','t','i','_','t','e','s'].reverse)=some Manifest.sig_set_iterator:=by kernel_rfl
theorem gb:Slot "set_iterator" "__next__" "set_iterator.__next__":=
 .of (owner:="set_iterator") (n:="__next__") (by rw[typeLookup_type,builtinLookup_eq_fast];kernel_rfl) (by decide +kernel) (by decide +kernel) (by decide +kernel)
  (by first|exact .inl (by decide +kernel)|exact .inr (by decide +kernel)) (by rw[isSubtype_type];kernel_rfl)
theorem nV:entryFor table "set_iterator.__next__" = some Builtin.«set_iterator.__next__»:=entryFor_of_tree (by kernel_rfl)
theorem rE(a:ae):argsOk "set_iterator.__next__" ⟨[a],[]⟩:=by
 unfold argsOk;rw[signature?_of (id:="set_iterator.__next__") (n:=['_','_','t','x','e','n','_','_']) (o:=['r','o','t','a','r','e','t','i','_','t','e','s']) (by kernel_rfl) l9];kernel_rfl
theorem pv:Slot "set_iterator" "__iter__" "set_iterator.__iter__":=
 .of (owner:="set_iterator") (n:="__iter__") (by rw[typeLookup_type,builtinLookup_eq_fast];kernel_rfl) (by decide +kernel) (by decide +kernel) (by decide +kernel)
  (by first|exact .inl (by decide +kernel)|exact .inr (by decide +kernel)) (by rw[isSubtype_type];kernel_rfl)
theorem yG:entryFor table "set_iterator.__iter__" = some Builtin.«dict_keyiterator.__iter__»:=entryFor_alias (id':="dict_keyiterator.__iter__") (by kernel_rfl) (by first|rfl|decide +kernel) (by decide +kernel) (by kernel_rfl)
theorem B4(a:ae):argsOk "set_iterator.__iter__" ⟨[a],[]⟩:=by
 unfold argsOk;rw[signature?_of (id:="set_iterator.__iter__") (n:=['_','_','r','e','t','i','_','_']) (o:=['r','o','t','a','r','e','t','i','_','t','e','s']) (by kernel_rfl) l9];kernel_rfl
theorem B9:entryFor table "set.__iter__" = some Builtin.«frozenset.__iter__»:=entryFor_alias (id':="frozenset.__iter__") (by kernel_rfl) (by first|rfl|decide +kernel) (by decide +kernel) (by kernel_rfl)
noncomputable def dR(w:au)(a:Addr)(ep:Nat)(es:List (Int×ae)):List (Int×ae):=if w.params.followText "set-order" = true then (pickOrder (w.params.setOrder a ep) es.toArray).toList else es
theorem rQ{α:Type}:∀{l:List α}{i:Nat} (h:i<l.length),(l[i]::l.eraseIdx i).Perm l
 |_::_,0,_=>.refl _
 |a::l,i+1,h=>by
  rw[List.eraseIdx_cons_succ,List.getElem_cons_succ];exact(List.Perm.swap _ _ _).trans ((rQ (by simpa using h)).cons a)
theorem pB{α:Type}(next:Nat->Nat):∀(fuel k:Nat) (left:List α) (out:Array α),left.length=fuel->(pickOrder.go next fuel k left out).toList.Perm (out.toList++left)
 | 0,k,left,out,h=>by rw[pickOrder.go,List.length_eq_zero_iff.mp h,List.append_nil]
 |fuel+1,k,left,out,h=>by
  have hl:next k%left.length<left.length:=Nat.mod_lt _ (by lia);rw[pickOrder.go,List.getElem?_eq_getElem hl];dsimp only;refine(pB next fuel (k+1) _ _ (by rw[List.length_eraseIdx_of_lt hl];lia)).trans ?_;rw[Array.toList_push,List.append_assoc];refine List.Perm.append_left _ ?_;rw[List.singleton_append];exact rQ hl
theorem gP(w:au)(a:Addr)(ep:Nat)(es:List (Int×ae)):(dR w a ep es).Perm es:=by
 unfold dR;split
 ·have:=pB (w.params.setOrder a ep) es.toArray.size 0 es.toArray.toList #[] (by simp);simp only[List.nil_append]at this;exact this
 ·exact .refl _
section
variable{prog:ay}{w:au}{A:ax}{E:ae->af->Prop}{s:af}{K:Type} [DecidableEq K]{hash:K->Int}
noncomputable def itO(slot i:Nat)(a:Addr)(n ep:Nat):Obj:={cls:=.type "set_iterator",data:=.fields #[.int slot 0,.int i 0,.ref a,.int n 0,.int ep 0]}
theorem vA{a:Addr}{xs:List (K×ae)}{ep:Nat}{t:aN}(ho:s.heap.get? a=some (ee (xs.map (ent hash)) ep t))(T:Tb w hash xs t){Q:ae->af->Prop}
  (h:Q (.ref s.heap.objs.size) {s with heap:=s.heap.push (itO 0 0 a xs.length ep)}):aj (ak prog w) A (pyIter (.ref a)) Q E s:=by
 have hT:s.TypeIs (.ref a) "set":=⟨_,ho,rfl⟩
 refine wpAny_pyIter_slot hT PySem.F.slot_set_iter (bK PySem.F.slot_set_iter hT B9 ?_ (PySem.F.args_set_iter_1 _));unfold Builtin.«frozenset.__iter__» Builtin.Frozenset.slot0 slotArgs;simp only[List.isEmpty_nil,Bool.not_true,bg,↓reduceIte,bind_assoc,List.length_nil,bne_self_eq_false];unfold Builtin.Frozenset.addrOf Builtin.Frozenset.sizeOf;refine ag (ar ?_)
 try dsimp only
 refine ag (ar ?_);refine ag (ag (wpAny_setEntries_of ho rfl T.fits (ar ?_)));refine ag ?_;unfold setDrawn;refine ag (wpAny_setState_of ho rfl T.fits ?_);unfold setsByText;refine ag (ag (wpAny_askSetting (ar ?_)));refine ar ?_;show aj _ _ (if (!(w.params.followText "set-order")&&(!t.plain&&decide ((xs.map (ent hash)).toArray.size>1)))=true then _ else _) _ _ _;rw[T.plain];simp only[Bool.not_true,Bool.false_and,Bool.and_false,bg,if_false];refine ag (ar ?_);refine ag (wpAny_setEpoch_of ho rfl T.fits ?_);refine ag (bt (ar ⟨_,rfl,"set_iterator",_,⟨_,Heap.get?_push_size _ rfl,rfl⟩,gb.lookup,?_⟩));have e:(xs.map (ent hash)).toArray.size=xs.length:=by simp
 rw[e];exact h
end
section
variable{prog:ay}{w:au}{A:ax}{E:ae->af->Prop}{s:af}{K:Type} [DecidableEq K]{hash:K->Int}
theorem wO{xs:Array Nat}(hr:Ri xs):below xs 0=0:=by
 obtain⟨a,b⟩:=iN hr 0;refine Nat.le_zero.mp (dw λq=>?_);have:=(b 0 xs[0] (Array.getElem?_eq_getElem (by lia))).mp q;lia
theorem xu{xs:Array Nat}(hr:Ri xs){i x:Nat}(h:xs[i]? = some x):below xs (x+1)=i+1:=by
 obtain⟨a,b⟩:=iN hr (x+1);have h1:=(b i x h).mpr (by lia);refine Nat.le_antisymm (dw λq=>?_) h1;have e:xs[i+1]? = some xs[i+1]:=Array.getElem?_eq_getElem (by lia);have:=(b _ _ e).mp q;have:=hr i (i+1) x _ (by lia) h e;lia
theorem pU{a:Addr}{xs:List (K×ae)}{ep slot i:Nat}{t:aN}(ho:s.heap.get? a=some (ee (xs.map (ent hash)) ep t))(T:Tb w hash xs t)(hs:w.params.followText "set-order" = false->below t.place slot=i)
  {Q:Option (ae×Nat)->af->Prop}
  (h:∀slot',(w.params.followText "set-order" = false->i<xs.length->below t.place slot'=i+1)->Q (((dR w a ep (xs.map (ent hash)))[i]?).map λe=>(e.2,slot')) s):aj (ak prog w) A (setNext a slot i ep) Q E s:=by
 have hr:=Ri.of T.good.ri;unfold setNext;refine ag (wpAny_setState_of ho rfl T.fits ?_);dsimp only;unfold setsByText;refine ag (ag (wpAny_askSetting (ar ?_)));show aj _ _ (if w.params.followText "set-order" = true then _ else _) _ _ _;unfold dR at h;cases q:w.params.followText "set-order" with
 |true=>
  rw[q]at h;simp only[if_true]at h ⊢;rw[if_neg (by simp)];refine ag ?_;unfold setWalk;refine ag (wpAny_setState_of ho rfl T.fits ?_);dsimp only;unfold setsByText;refine ag (ag (wpAny_askSetting (ar ?_)));show aj _ _ (if w.params.followText "set-order" = true then _ else _) _ _ _;rw[q];simp only[if_true];refine ag (wpAny_askSetting (ar (ar ?_)));have:=h slot (λe=>by cases e);rw[Array.getElem?_toList]at this;exact this
 |false=>
  rw[q]at h;simp only[bg,if_false]at h ⊢;show aj _ _ (if (!t.plain&&decide ((xs.map (ent hash)).toArray.size>1))=true then _ else _) _ _ _;rw[T.plain];simp only[Bool.not_true,Bool.false_and,bg,if_false];refine ag ?_;show aj _ _ (if (!t.led && !(xs.map (ent hash)).toArray.isEmpty)=true then _ else _) _ _ _;rw[T.led,q];simp only[Bool.not_false,Bool.not_true,Bool.false_and,bg,if_false];refine ar ?_;rw[hs q];have ln:=T.good.len;rw[aV]at ln;by_cases hi:i<xs.length
  ·have e1:(xs.map (ent hash)).toArray[i]? = some (ent hash xs[i]):=by simp[hi]
   have e2:t.place[i]? = some t.place[i]:=Array.getElem?_eq_getElem (by lia);rw[e1,e2];refine ar ?_;have:=h (t.place[i]+1) λ_ _=>xu hr e2
   rw[show (xs.map (ent hash))[i]? = some (ent hash xs[i])by simp[hi]]at this;exact this
  ·have e1:(xs.map (ent hash)).toArray[i]? = none:=by simp;lia
   rw[e1];refine ar ?_;have:=h 0 λ_ q=>absurd q hi
   rw[show (xs.map (ent hash))[i]? = none by simp;lia]at this;exact this
noncomputable def StI(w:au)(hash:K->Int)(I a:Addr)(xs:List (K×ae))(ep:Nat)(t:aN)(i:Nat)(h:Heap):Prop:=
 (∃slot,h.get? I=some (itO slot i a xs.length ep)/\(w.params.followText "set-order" = false->below t.place slot=i))/\h.get? a=some (ee (xs.map (ent hash)) ep t)
theorem next_item{I a:Addr}(hne:a≠I){xs:List (K×ae)}{ep i:Nat}{t:aN}(T:Tb w hash xs t)(st:StI w hash I a xs ep t i s.heap){e:Int×ae}(he:(dR w a ep (xs.map (ent hash)))[i]? = some e){Q:Option ae->af->Prop}
  (hQ:∀h',StI w hash I a xs ep t (i+1) h'->Heap.SameBut I s.heap h'->Q (some e.2) {s with heap:=h'}):aj (ak prog w) A (pyNext (.ref I)) Q E s:=by
 obtain⟨⟨slot,hI,hs⟩,ho⟩:=st;have hT:s.TypeIs (.ref I) "set_iterator":=⟨_,hI,rfl⟩
 have il:i<xs.length:=by
  have:=(List.getElem?_eq_some_iff.mp he).1;rw[(gP ..).length_eq,aV]at this;exact this
 unfold pyNext;refine ag (wpAny_attempt (wpAny_callSpecial?_slot (name:=ah "__next__") hT gb (bK gb hT nV ?_ (rE _))));show aj _ _ (fieldsOf (.ref I)>>=_) _ _ s;refine ag (wpAny_fieldsOf hI rfl ?_);show aj _ _ (setEntries a>>=_) _ _ s;refine ag (wpAny_setEntries_of ho rfl T.fits ?_);rw[show ((((xs.map (ent hash)).toArray.size:Nat):Int) != ((xs.length:Nat):Int))=false by simp];simp only[bg,if_false];show aj _ _ (setNext a (Int.toNat ((slot:Nat):Int)) (Int.toNat ((i:Nat):Int)) (Int.toNat ((ep:Nat):Int))>>=_) _ _ s;rw[Int.toNat_natCast,Int.toNat_natCast,Int.toNat_natCast];refine ag (pU ho T hs λslot' h1=>?_);rw[he];show aj _ _ (setField (.ref I) 0 (rawInt slot')>>=_) _ _ s;refine ag (wpAny_setField hI rfl (by simp) ?_);have hI2:(s.heap.update I (Obj.mapFields (·.setIfInBounds 0 (rawInt slot')))).get? I=some (itO slot' i a xs.length ep):=by
  rw[Heap.get?_update_self _ hI (Obj.isFreed_of_fields (Obj.data_mapFields (by rfl) _))];rfl
 refine ag (wpAny_setField hI2 rfl (by simp) ?_);have hI3:((s.heap.update I (Obj.mapFields (·.setIfInBounds 0 (rawInt slot')))).update I (Obj.mapFields (·.setIfInBounds 1 (rawInt ((i:Int)+1))))).get? I=some (itO slot' (i+1) a xs.length ep):=by
  rw[Heap.get?_update_self _ hI2 (Obj.isFreed_of_fields (Obj.data_mapFields (by rfl) _))];rfl
 refine ar ⟨e.2,rfl,ar (hQ _ ⟨⟨slot',hI3,λq=>h1 q il⟩,?_⟩ ((Heap.SameBut.update ..).trans (Heap.SameBut.update ..)))⟩;rw[Heap.get?_update_other _ _ (Ne.symm hne),Heap.get?_update_other _ _ (Ne.symm hne)];exact ho
theorem next_end{I a:Addr}(hh:A.handled=none){xs:List (K×ae)}{ep:Nat}{t:aN}(T:Tb w hash xs t)(st:StI w hash I a xs ep t xs.length s.heap){Q:Option ae->af->Prop}
  (hQ:∀h',Heap.ExtBut I s.heap h'->Q none {s with heap:=h'}):aj (ak prog w) A (pyNext (.ref I)) Q E s:=by
 obtain⟨⟨slot,hI,hs⟩,ho⟩:=st;have hT:s.TypeIs (.ref I) "set_iterator":=⟨_,hI,rfl⟩
 unfold pyNext;refine ag (wpAny_attempt (wpAny_callSpecial?_slot (name:=ah "__next__") hT gb (bK gb hT nV ?_ (rE _))));show aj _ _ (fieldsOf (.ref I)>>=_) _ _ s;refine ag (wpAny_fieldsOf hI rfl ?_);show aj _ _ (setEntries a>>=_) _ _ s;refine ag (wpAny_setEntries_of ho rfl T.fits ?_);rw[show ((((xs.map (ent hash)).toArray.size:Nat):Int) != ((xs.length:Nat):Int))=false by simp];simp only[bg,if_false];show aj _ _ (setNext a (Int.toNat ((slot:Nat):Int)) (Int.toNat ((xs.length:Nat):Int)) (Int.toNat ((ep:Nat):Int))>>=_) _ _ s;rw[Int.toNat_natCast,Int.toNat_natCast,Int.toNat_natCast];refine ag (pU ho T hs λslot' h1=>?_);rw[show (dR w a ep (xs.map (ent hash)))[xs.length]? = none from List.getElem?_eq_none (by rw[(gP ..).length_eq,aV];exact az _)];show aj _ _ (setField (.ref I) 2 .none>>=_) _ _ s;refine ag (wpAny_setField hI rfl (by simp) ?_);show aj _ _ (newExc (.type "StopIteration") []>>=_) _ _ _;refine ag ?_;simp only[newExc,newTuple];refine ag (bt ?_ (by size_fits));refine ag (m:=firstArgMember _ _) (wpAny_of_eq (a:=bA) (by first|rfl|(simp only[firstArgMember];rfl)) ?_);refine bt ?_ (by size_fits);simp only[raiseNew];refine ag (wpAny_handled ?_)
 first|rw[show A.in1.handled=none from hh]|rw[hh]
 refine ag (ar (wpAny_throw ?_));refine ag (wpAny_isInstance (T:="StopIteration") (b:=true) ⟨_,Heap.get?_push_size _ rfl,rfl⟩ isSubtype_stop ?_);exact ar (hQ _ (((Heap.SameBut.update ..).extBut.push _).push _))
theorem xt{I a:Addr}{xs:List (K×ae)}{ep i:Nat}{t:aN}(st:StI w hash I a xs ep t i s.heap){Q:ae->af->Prop}(h:Q (.ref I) s):aj (ak prog w) A (pyIter (.ref I)) Q E s:=by
 obtain⟨⟨slot,hI,hs⟩,ho⟩:=st;have hT:s.TypeIs (.ref I) "set_iterator":=⟨_,hI,rfl⟩
 refine wpAny_pyIter_slot hT pv (bK pv hT yG ?_ (B4 _));show aj _ _ (ret (.ref I)) _ _ s;exact ar ⟨_,rfl,"set_iterator",_,hT,gb.lookup,h⟩
theorem walks(hh:A.handled=none)(I a:Addr)(hne:a≠I){xs:List (K×ae)}{ep:Nat}{t:aN}(T:Tb w hash xs t) :
  Walks prog w A I [I,a] [I] xs.length (λi v=>∃e,(dR w a ep (xs.map (ent hash)))[i]? = some e/\e.2=v) (λi h=>StI w hash I a xs ep t i h) where
 sub:=λb hb=>by simp at hb;simp[hb]
 frame:=λ_ _ _ st hk=>⟨let ⟨slot,x,y⟩:=st.1;⟨slot,hk I (by simp) _ x,y⟩,hk a (by simp) _ st.2⟩
 item:=λi s Q E hi st hQ=>by
  have il:i<(dR w a ep (xs.map (ent hash))).length:=by rw[(gP ..).length_eq,aV];exact hi
  refine next_item hne T st (List.getElem?_eq_getElem il) λh' st' hs'=>?_
  exact hQ _ h' s.toks ⟨_,List.getElem?_eq_getElem il,rfl⟩ st' λb o hb e=>hs'.extBut b o (λh=>hb (by simp[h])) e
 done:=λs Q E st hQ=>next_end hh T st λh' he'=>hQ h' s.toks λb o hb e=>he' b o (λh=>hb (by simp[h])) e
 self:=λ_ _ _ _ st hQ=>xt st hQ
end
section
variable{prog:ay}{w:au}{A:ax}{E:ae->af->Prop}{s:af}{K:Type} [DecidableEq K]{hash:K->Int}
theorem ug{a:Addr}{xs:List (K×ae)}{ep:Nat}{t:aN}(hh:A.handled=none)(ho:s.heap.get? a=some (ee (xs.map (ent hash)) ep t))(T:Tb w hash xs t)(hn:xs.length<=aI){Q:List ae->af->Prop}
  (hQ:∀h' tk (acc:List ae),s.toks<=tk->s.heap.objs.size<h'.objs.size->(∀b o,s.heap.get? b=some o->h'.get? b=some o)->acc.Perm (xs.map (·.2))->Q acc {s with heap:=h',toks:=tk}):aj (ak prog w) A (collect (.ref a)) Q E s:=by
 have ha:a<s.heap.objs.size:=aF ho;have hSI:s.heap.objs.size≠a:=Nat.ne_of_gt ha;unfold collect;refine ag (wpAny_runValue (b8 F.entry_proto_collect ?_));rw[dk F.plain_proto_collect _];show aj _ A.in1 (newList []>>=λl=>again (.builtin "list.__iadd__" ⟨[l,.ref a],[]⟩)) _ _ s;refine ag (bt ?_);refine ar ⟨plainId_quiet F.plain_list_iadd _,b8 F.entry_list_iadd ?_⟩;rw[dk F.plain_list_iadd _];have ho₁:(s.heap.push {cls:=.type "list",data:=.seq ([]:List ae).toArray}).get? a=some (ee (xs.map (ent hash)) ep t):=Heap.get?_push_of_some _ ho;have hT₁:af.TypeIs {s with heap:=s.heap.push {cls:=.type "list",data:=.seq ([]:List ae).toArray}} (.ref a) "set":=⟨_,ho₁,rfl⟩
 show aj _ A.in1 (Builtin.List.listExtendWith (.ref s.heap.objs.size) (.ref a) (.ref s.heap.objs.size)) _ _ _;unfold Builtin.List.listExtendWith;refine ag (wpAny_typeOf hT₁ ?_);have h1:Builtin.List.listSameRef (.ref s.heap.objs.size) (.ref a)=false:=by simp[Builtin.List.listSameRef,hSI]
 have h2:(ae.type "set" == ae.type "list")=false:=by decide
 have h3:(ae.type "set" == ae.type "tuple")=false:=by decide
 simp only[h1,h2,h3,Bool.or_false,bg,if_false];refine ag (vA ho₁ T ?_);have hsz:(s.heap.push {cls:=.type "list",data:=.seq ([]:List ae).toArray}).objs.size=s.heap.objs.size+1:=bj ..;have ho₂:=Heap.get?_push_of_some (itO 0 0 a xs.length ep) ho₁;have hI₂:((s.heap.push {cls:=.type "list",data:=.seq ([]:List ae).toArray}).push (itO 0 0 a xs.length ep)).get? (s.heap.push {cls:=.type "list",data:=.seq ([]:List ae).toArray}).objs.size=some (itO 0 0 a xs.length ep):=Heap.get?_push_size _ rfl;have hT₂:af.TypeIs {s with heap:=(s.heap.push {cls:=.type "list",data:=.seq ([]:List ae).toArray}).push (itO 0 0 a xs.length ep)} (.ref a) "set":=⟨_,ho₂,rfl⟩
 refine ag (bV ?_);unfold Builtin.List.listLengthHint;refine ag (wpAny_specialOf hT₂ PySem.F.slot_set_len.lookup ?_);show aj _ A.in1 (isInstance (bf a) (.type "set")>>=_) _ _ _;refine ag (wpAny_isInstance hT₂ sub_set_self ?_);simp only[Bool.not_true,bg,if_false];show aj _ A.in1 (typeOf (bf a)>>=_) _ _ _;refine ag (wpAny_typeOf hT₂ ?_);refine ar ?_;show aj _ A.in1 (rule "list.extend.makes-room" >>= λ_=>Builtin.List.listTouch (.ref s.heap.objs.size)>>=λ_=>
  again (.builtin "list.extend.loop" ⟨[.ref s.heap.objs.size,.ref (s.heap.push {cls:=.type "list",data:=.seq ([]:List ae).toArray}).objs.size,.ref s.heap.objs.size],[]⟩)) _ _ _
 refine ag (wpAny_rule ?_);have hS₁:((s.heap.push {cls:=.type "list",data:=.seq ([]:List ae).toArray}).push (itO 0 0 a xs.length ep)).get? s.heap.objs.size=some {cls:=.type "list",data:=.seq ([]:List ae).toArray}:=Heap.get?_push_of_some _ (Heap.get?_push_size _ rfl);rw[hsz]at *;generalize hH:(s.heap.push {cls:=.type "list",data:=.seq ([]:List ae).toArray}).push (itO 0 0 a xs.length ep)=H1 at *;have old1:∀b o,s.heap.get? b=some o->H1.get? b=some o:=λb o e=>by rw[<-hH];exact Heap.get?_push_of_some _ (Heap.get?_push_of_some _ e)
 refine ag ?_;show aj _ A.in1 (updateSeq s.heap.objs.size (·.push .none)>>=λ_=>updateSeq s.heap.objs.size (·.pop)) _ _ _;refine ag (wpAny_updateSeq hS₁ rfl ?_);have hS₂:=Heap.get?_update_self (Obj.mapSeq (·.push bA)) hS₁ rfl;refine wpAny_updateSeq hS₂ rfl ?_;have hS₃:=Heap.get?_update_self (Obj.mapSeq (·.pop)) hS₂ rfl;have oth:∀b o,b≠s.heap.objs.size->H1.get? b=some o->((H1.update s.heap.objs.size (Obj.mapSeq (·.push bA))).update s.heap.objs.size (Obj.mapSeq (·.pop))).get? b=some o:=
  λb o hb e=>(Heap.get?_update_other _ _ (Ne.symm hb)).trans ((Heap.get?_update_other _ _ (Ne.symm hb)).trans e)
 have hne:a≠s.heap.objs.size+1:=aU (dt ha);have hSf:s.heap.objs.size∉[s.heap.objs.size+1,a]:=by
  simp only[aG,bh,or_false,not_or];exact⟨aU (Nat.lt_succ_self _),hSI⟩
 refine ar ⟨plainId_quiet F.plain_extend_loop _,codeAny_extend_loopS ((walks (prog:=prog) (A:=A.in1) hh (s.heap.objs.size+1) a hne (ep:=ep) T).toS) hn _ hSf _ xs.length 0 _ _ _ rfl (bH _)
  ⟨⟨0,oth _ _ (Nat.succ_ne_self _) hI₂,λ_=>wO (Ri.of T.good.ri)⟩,oth _ _ (Ne.symm hSI) ho₂⟩ hS₃ (ItemsOf.nil _) λs' acc' c' hm hS' hacc=>?_⟩
 show aj _ A (load s.heap.objs.size>>=_) _ _ s';refine ag (wpAny_load hS' ?_);obtain⟨h',g',d',tk',os'⟩:=s';have eg:g'=s.gens:=hm.gens;have ed:d'=s.drawn:=hm.drawn;have eo:os'=s.os:=hm.os;subst eg;subst ed;subst eo;refine ar (hQ h' tk' acc'.toList hm.toks (aF hS') (λb o e=>?_) ?_)
 ·have hb:=aF e;refine hm.heap b o (λq=>?_) (oth b o (aU hb) (old1 b o e));rcases aG.mp q with q|q
  ·exact absurd q (aU hb)
  ·exact absurd (List.mem_singleton.mp q) (aU (dt hb))
 ·have e1:acc'.toList=(dR w a ep (xs.map (ent hash))).map (·.2):=by
   refine List.ext_getElem? λi=>?_
   have ln:(dR w a ep (xs.map (ent hash))).length=xs.length:=by rw[(gP ..).length_eq,aV]
   rw[Array.getElem?_toList,List.getElem?_map];by_cases hi:i<xs.length
   ·have hi':i<acc'.size:=by rw[hacc.1];exact hi
    have e2:acc'[i]? = some acc'[i]:=Array.getElem?_eq_getElem hi';obtain⟨e,e3,e4⟩:=hacc.2 i _ e2;rw[e2,e3,<-e4];rfl
   ·rw[Array.getElem?_eq_none (by rw[hacc.1];lia),List.getElem?_eq_none (by lia)];rfl
  rw[e1];refine((gP w a ep _).map _).trans ?_;rw[bM];exact .refl _
end
end ST
namespace ST
open PySem PySem.Spec PySem.SetTable PyProof.Rows
section
variable{prog:ay}{w:au}{A:ax}{E:ae->af->Prop}{s:af}
noncomputable def vInt:ae->Int
 | .int n _=>n
 |_=>0
theorem ints_map:∀{acc:List ae},(∀v∈acc,∃n t,v=.int n t)->PyProof.Rows.IntsAre acc (acc.map vInt)
 | [],_=>.nil
 |v::acc,h=>by
  obtain⟨n,t,rfl⟩:=h v aK;exact .cons n t (ints_map λu hu=>h u (aJ _ hu))
theorem CG{a:Addr}{xs:List (Int×ae)}{ep:Nat}{t:aN}(hh:A.handled=none)(ho:s.heap.get? a=some (ee (xs.map (ent hashInt)) ep t))(T:Tb w hashInt xs t)(hel:∀x∈xs,∃t,x.2=.int x.1 t)(hn:xs.length<64){Q:ae->af->Prop}
  (h:∀(h':Heap) (tk:Nat) (D:Addr) (out:List ae) (ns:List Int) (c:Nat),s.heap.objs.size<=D->(∀b o,s.heap.get? b=some o->h'.get? b=some o)->h'.get? D=some {cls:=.type "list",data:=.seq out.toArray c}->PyProof.Rows.IntsAre out ns->ns.Perm (xs.map (·.1))->ns.Pairwise (·<=·)->Q (.ref D) {s with heap:=h',toks:=tk}) :
  aj (ak prog w) A (call (.builtin "sorted") [.ref a]) Q E s:=by
 refine Calls.call_function_entry kind_sorted plain_sorted entry_sorted (PyProof.Rows.args_sorted1 _) ?_;unfold Builtin.«sorted»;refine ag (m:=checkCount "sorted" 1 1 _) (ar ?_);refine ag (ug (A:=A.in1) hh ho T (by rw[bp];lia) λh1 tk acc _ hs1 k1 pm=>?_);have hI:∀v∈acc,∃n t,v=.int n t:=λv hv=>by
  obtain⟨x,hx,rfl⟩:=aQ.mp (pm.mem_iff.mp hv);obtain⟨t,e⟩:=hel x hx;exact⟨_,t,e⟩
 have al:acc.length=xs.length:=by rw[pm.length_eq,aV]
 refine ag (wpAny_newList (hsz:=by rw[bp,al];lia) ?_);have hL:(h1.push (PyProof.Rows.seqObj "list" acc.toArray 0)).get? h1.objs.size=some (PyProof.Rows.seqObj "list" acc.toArray 0):=Heap.get?_push_size _ rfl;show aj _ _ _ _ _ ({s with heap:=h1.push (PyProof.Rows.seqObj "list" acc.toArray 0),toks:=tk}:af);refine ag (bV ?_);refine bK PyProof.Rows.slot_list_sort ⟨_,hL,rfl⟩ PyProof.Rows.entry_list_sort (PyProof.Rows.list_sort_tree hL (ints_map hI) (by rw[al];exact hn) λout ns' a1 a2 a3=>⟨_,rfl,?_⟩) (PyProof.Rows.args_list_sort _);obtain⟨c,hc⟩:=PyProof.Rows.sortedHeap_at (out:=out) hL;refine ar ⟨_,rfl,h _ tk _ out.toList ns' c (Nat.le_of_lt hs1) (λb o e=>?_) (by rw[Array.toArray_toList];exact hc) a1 (a2.trans ?_) a3⟩
 ·have e1:=k1 b o e;have hb:=aF e1;show (PyProof.Rows.sortedHeap _ _ _ _).get? b=some o;rw[PyProof.Rows.sortedHeap_old (aU hb) (by rw[bj];exact dt hb)];exact Heap.get?_push_of_some _ e1
 ·refine(pm.map vInt).trans ?_;rw[bM,show xs.map (vInt∘λx=>x.2)=xs.map (·.1)from List.map_congr_left λx hx=>by obtain⟨t,e⟩:=hel x hx;simp[e,vInt]]
end
end ST
namespace L2
open PySem PySem.Spec PyProof.Rows
variable{X:Cx}
noncomputable def jG(w:au)(p:Addr)(ns:List Int):Heap->Prop:=λh=>∃o xs,h.get? p=some o/\ST.fA w hashInt xs o/\(∀x∈xs,∃t,x.2=.int x.1 t)/\(∀k,k∈xs.map (·.1)↔k∈ns)/\xs.length<64
noncomputable def p8(X:Cx):List V->Hp->VK->Prop:=λvs H Q=>∃(l:Addr) (ns:List Int),vs=[.ref l]/\(SqL X.K H l (ns.map V.int)\/SqT X.K H l (ns.map V.int))/\ns.length<64/\∀p,H p=none->Q (.ref p) (upd H p (.ext (jG X.w p ns)))
theorem getD_mem{α:Type} [DecidableEq α](l:List α)(d:α)(k:α):(∃j,j<l.length/\l.getD j d=k)↔k∈l:=by
 constructor
 ·rintro⟨j,hj,rfl⟩;rw[List.getD_eq_getElem?_getD,List.getElem?_eq_getElem hj];exact cN hj
 ·intro h;obtain⟨i,hi,rfl⟩:=List.getElem_of_mem h;exact⟨i,hi,by rw[List.getD_eq_getElem?_getD,List.getElem?_eq_getElem hi];rfl⟩
theorem yX(hc:X.calm=true):zm X (.type "set") (p8 X):=by
 intro pins s σ H xs us Q I r ⟨l,ns,e,hl,h64,q⟩;subst e;obtain⟨u,rfl,ru⟩:=r.one;cases ru;have fin:∀{its:List ae} (h':Heap) (tk:Nat),its.length=ns.length->ST.Holds (ST.inK X.prog X.w) s.heap h' s.heap.objs.size (λi=>ns.getD i 0) its.toArray.size->(∀b o,b<s.heap.objs.size->s.heap.get? b=some o->h'.get? b=some o)->EP X pins σ Q (.ref s.heap.objs.size) {s with heap:=h',toks:=tk}:=by
  intro its h' tk hle ⟨o,ys,e1,e2,e3,e4,e5⟩ hk;rw[aL,hle]at e4 e5;refine⟨.ref _,_,I.laid (t':=tk) (o:=.ext (jG X.w s.heap.objs.size ns)) (λb o e=>hk b o (aF e) e) (az _) ⟨⟨o,ys,e1,e2,e3,λk=>(e4 k).trans (getD_mem ns 0 k),by lia⟩,⟨_,e1⟩,λh1 h2 ⟨o,ys,a1,a2⟩ k=>⟨o,ys,k _ a1,a2⟩⟩,rfl,q _ I.fresh⟩
 rcases hl with hl|hl
 ·obtain⟨its,rv,pl,hz⟩:=I.list hl;have hI:=intsAre_of rv;have hle:=a9.length hI;exact ST.call_set_list (D:=ST.inK X.prog X.w) (I.ok.hd hc) trivial pl.isList (λi=>ns.getD i 0) (λi v hv=>a9.int_at hI i v (by simpa using hv)) (by rw[aL,hle];exact h64) λh' tk hH hk=>fin h' tk hle hH hk
 ·obtain⟨its,rv,pl,hz⟩:=I.tuple hl;have hI:=intsAre_of rv;have hle:=a9.length hI;exact ST.uu (D:=ST.inK X.prog X.w) (I.ok.hd hc) trivial pl (λi=>ns.getD i 0) (λi v hv=>a9.int_at hI i v (by simpa using hv)) (by rw[aL,hle];exact h64) λh' tk hH hk=>fin h' tk hle hH hk
theorem wW(hc:X.calm=true):zm X (.builtin "sorted") (λvs H Q=>∃(p:Addr) (ns:List Int),vs=[.ref p]/\H p=some (.ext (jG X.w p ns))/\∀(D:Addr) (ms:List Int),H D=none->ms.Nodup->(∀k,k∈ms↔k∈ns)->ms.Pairwise (·<=·)->Q (.ref D) (upd H D (.lst (ms.map V.int)))):=by
 intro pins s σ H xs us Q I r ⟨p,ns,e,hp,q⟩;subst e;obtain⟨u,rfl,ru⟩:=r.one;cases ru;obtain⟨⟨o,ys,e1,⟨ep,t,rfl,T⟩,e3,e4,e5⟩,_⟩:=I.hok p _ hp;refine ST.CG (I.ok.hd hc) e1 T e3 e5 λh' tk D out ms c hD hk hl a1 a2 a3=>?_
 have hle:=a9.length a1;exact⟨.ref D,_,I.laid (t':=tk) (o:=.lst (ms.map V.int)) hk hD ⟨by rw[aV,a2.length_eq,aV,bp];lia,out,c,oQ a1,hl⟩,rfl,q D ms (I.hok.fresh hD) (a2.nodup_iff.mpr T.nd) (λk=>a2.mem_iff.trans (e4 k)) a3⟩
end L2
namespace ST
open PySem PySem.Spec PySem.SetTable PyProof.Rows TS L2
section
variable{prog:ay}{w:au}{A:ax}{E:ae->af->Prop}{s:af}
end
end ST
namespace L2
open PySem PySem.Spec PyProof.Rows TS
variable{X:Cx}
end L2
namespace HT
open PySem PySem.Spec PyProof.Rows L2
section
variable{prog:ay}{w:au}{A:ax}{E:ae->af->Prop}{s:af}
theorem kY(xs:Array ae):((aR xs.size).filterMap λ(m:Nat)=>xs[((((xs.size:Nat):Int)-1)+(m:Int) * -1).toNat]?).toArray=xs.toList.reverse.toArray:=by
 congr 1
 have ok:∀m∈aR xs.size,xs[((((xs.size:Nat):Int)-1)+(m:Int) * -1).toNat]? = some (xs.toList.reverse.getD m .none):=λm hm=>by
  have hm':=List.mem_range.mp hm;have e:((((xs.size:Nat):Int)-1)+(m:Int) * -1).toNat=xs.size-1-m:=by lia
  rw[e,Array.getElem?_eq_getElem (by lia),List.getD_eq_getElem?_getD,List.getElem?_reverse (by simpa using hm')];simp;rw[Array.getElem?_eq_getElem (by lia)];rfl
 have all:∀(l:List Nat),(∀m∈l,m∈aR xs.size)->l.filterMap (λ(m:Nat)=>xs[((((xs.size:Nat):Int)-1)+(m:Int) * -1).toNat]?)=l.map λm=>xs.toList.reverse.getD m .none:=by
  intro l
  induction l with
  |nil=>intro _;rfl
  |cons m l ih=>intro h;rw[List.filterMap_cons,ok m (h m aK),a7];show _::_=_;rw[ih λk hk=>h k (aJ _ hk)]
 rw[all _ λ_ h=>h];refine List.ext_getElem (by simp) λi h1 h2=>?_
 have hi:i<xs.size:=by simpa using h1
 rw[du,List.getElem_range,List.getD_eq_getElem?_getD,List.getElem?_eq_getElem h2];rfl
theorem z_{t sl:Addr}{items:Array ae}{tk:Tok}{Q:ae->af->Prop}(ht:IsTup s.heap t items)(hs:s.heap.IsSliceOf sl .none .none (.int (-1) tk))
  (h:Q (.ref s.heap.objs.size) {s with heap:=s.heap.push {cls:=.type "tuple",data:=.seq items.toList.reverse.toArray}}) (hsz:items.size<=aI):aj (ak prog w) A (getItem (.ref t) (.ref sl)) Q E s:=by
 have htake:sizeOk (.seq items.toList.reverse.toArray):=by
  show items.toList.reverse.toArray.size<=aI;rw[aL,List.length_reverse,bZ];exact hsz
 obtain⟨os,hos,hcs,hds⟩:=id hs;have hTs:s.TypeIs (.ref sl) "slice":=⟨os,hos,hcs⟩
 unfold getItem
 try with_reducible refine bV ?_
 first|refine ag (ar ?_)|skip
 refine ag (wpAny_sequenceKey ht.typeIs (by decide) ?_);refine ag (wpAny_callSpecial?_slot (name:=ah "__getitem__") ht.typeIs dI
  (bK dI ht.typeIs entry_tuple_getitem ?_ (args_tuple_getitem _ _)))
 show aj _ _ (Builtin.Tuple.tupleItemsOf (.ref t)>>=_) _ _ s;refine ag (tupleItemsOf_ ht ?_);refine ag (wpAny_typeOf hTs ?_);rw[if_pos (by decide)];refine ag ?_;unfold Builtin.Slice.sliceApplied Builtin.Slice.sliceFields;refine ag (ag (bq hos hds (x:=.none) rfl (ag (bq hos hds (x:=.none) rfl (ag (bq hos hds (x:=.int (-1) tk) rfl (ar ?_)))))));refine ag (slicePart_int ?_);show aj _ _ (if ((-1:Int)==0)=true then _ else _) _ _ s;rw[if_neg (by decide)];refine ag (slicePart_none (ag (slicePart_none (ag (ar ?_)))));have e1:dJ none none (-1) ((items.size:Nat):Int)=(((items.size:Nat):Int)-1,-1):=by unfold dJ;simp
 have e2:cM (((items.size:Nat):Int)-1) (-1) (-1)=items.size:=by
  unfold cM;rw[if_neg (by decide)];rw[show -(-1:Int)=1 from rfl,Int.ediv_one];split<;>lia
 show aj _ _ (match dJ none none (-1) ((items.size:Nat):Int)with|(lo,hi)=>pure (lo,(-1:Int),cM lo hi (-1))) _ _ s;rw[e1];show aj _ _ (pure (((items.size:Nat):Int)-1,(-1:Int),cM (((items.size:Nat):Int)-1) (-1) (-1))) _ _ s;rw[e2];refine ar ?_;show aj _ _ (if ((((items.size:Nat):Int)-1)==0&&(-1:Int)==1&&items.size==items.size)=true then _ else _) _ _ s;rw[if_neg (by simp),kY]
 first
  |exact ag (m:=bY _) (bt (ar ⟨_,rfl,ar h⟩) htake)
  |exact ag (m:=bY _) (bt (ag (ar (ar ⟨_,rfl,ar h⟩))) htake)
  |exact ag (ag (m:=bY _) (bt (ar (ar ⟨_,rfl,ar h⟩)) htake))
  |exact ag (ag (m:=bY _) (bt (ar ⟨_,rfl,ar h⟩) htake))
end
end HT
namespace L2
open PySem PySem.Spec PyProof.Rows
variable{X:Cx}{e st:Expr}{te ts:TE}{p2 pos:Pos}
theorem A8:∀{xs:List V}{us:List ae},Vals xs us->Vals xs.reverse us.reverse:=by
 have app:∀{xs ys:List V}{us ws:List ae},Vals xs us->Vals ys ws->Vals (xs++ys) (us++ws):=λh h'=>by
  induction h with
  |nil=>exact h'
  |cons a _ ih=>exact .cons a ih
 intro xs us h
 induction h with
 |nil=>exact .nil
 |cons a _ ih=>rw[List.reverse_cons,List.reverse_cons];exact app ih (.cons a .nil)
noncomputable def Bw(K:av)(te ts:TE):TE:=λσ H Q=>te σ H λx H1=>ts σ H1 λy H2=>y=.int (-1)/\∃a xs,x=.ref a/\SqT K H2 a xs/\∀p,H2 p=none->Q (.ref p) (upd H2 p (.tup xs.reverse))
theorem Ag(he:PE X e te)(hs:PE X st ts):PE X (.Subscript e (.Slice none none (some st) p2) pos) (Bw X.K te ts):=by
 intro pins s σ H Q I h;refine Subscript_ (thn (he pins s σ H _ I h) λv s1 ⟨x,H1,I1,r1,q1⟩=>?_);refine wpAny_Slice ?_;rw[evalPart_none];refine ar (ar ?_);rw[evalPart_some];refine thn (hs pins s1 σ H1 _ I1 q1) λu s3 ⟨y,H3,I3,r3,q3⟩=>?_
 obtain⟨rfl,a,xs,rfl,hx,q⟩:=q3;obtain⟨tk,rfl⟩:=r3;cases r1;have I4:Inv X pins σ H3 {s3 with heap:=s3.heap.push {cls:=.type "slice",data:=.fields #[.none,.none,.int (-1) tk]}}:=I3.kept (t':=s3.toks) λb ob q=>Heap.get?_push_of_some _ q
 obtain⟨its,r,ht,hz⟩:=I4.tuple hx;have hlen:its.toArray.size=xs.length:=by rw[aL];exact r.length.symm
 show aj (ak X.prog X.w) X.A (subscriptTail e (.Slice none none (some st) p2) (.ref a) (.ref s3.heap.objs.size)) (EP X pins σ Q) X.xe {s3 with heap:=s3.heap.push {cls:=.type "slice",data:=.fields #[.none,.none,.int (-1) tk]}};refine tail_any (ops:=[.ref a,.ref s3.heap.objs.size]) ht.typeIs dI.lookup (HT.z_ ht (Heap.IsSliceOf.new ..) ?_ (by rw[hlen];exact hz)) (by with_unfolding_all rfl);exact⟨.ref _,_,I4.laid (o:=.tup xs.reverse) (λb ob q=>Heap.get?_push_of_some _ q) (az _) ⟨by rw[List.length_reverse];exact hz,its.reverse,A8 r,⟨_,Heap.get?_push_size _ rfl,rfl,0,by simp⟩⟩,rfl,q _ I4.fresh⟩
end L2
namespace EV
open PySem PySem.Spec PySem.P PyProof.Rows L2
theorem jK{α:Type} [DecidableEq α]{x:α}:∀{l:List α},x∈uq l↔x∈l
 | []=>.rfl
 |a::l=>by
  rw[uq];split
  ·rename_i h
   rw[jK,aG];exact⟨.inr,λz=>z.elim (λe=>e▸h) id⟩
  ·rw[aG,aG,jK]
theorem i9{α:Type} [DecidableEq α]:∀(l:List α),(uq l).Nodup
 | []=>.nil
 |a::l=>by
  rw[uq];split
  ·exact i9 l
  ·rename_i h
   exact List.nodup_cons.mpr ⟨λz=>h (jK.mp z),i9 l⟩
theorem oR{α:Type} [DecidableEq α]{l m:List α}(h1:m.Nodup)(h2:∀k,k∈m↔k∈l):m.Perm (uq l):=
 (List.perm_ext_iff_of_nodup h1 (i9 l)).mpr λk=>(h2 k).trans jK.symm
theorem xF{c:Cc}{b:B1}{as:List Expr}{a:Expr}(h:kr c b as=some a):∃y p3 pos3,as=[.Call (.Name y p3) [a] [] pos3]/\b=.sorted/\glob c y=some .set/\isStar a=false/\c.calm=true:=by
 unfold kr at h;split at h
 ·split at h
  ·rename_i hq
   cases h;simp only[aH,bE,beq_iff_eq,br]at hq;exact⟨_,_,_,rfl,hq.1.1.1.1,hq.1.1.2,hq.1.2,hq.2⟩
  ·cases h
 ·cases h
section
variable{w:W}{g:Gc}{c:Cc}{E:XK}{X:Cx}{a:Expr}{ia:EV.E}{pos p2 p3 pos3:Pos}
theorem AZ{st:Expr}(h:eG st=true):∃k p q,st=.UnaryOp .USub (.Constant (.int 1) k p) q:=by
 unfold eG at h;split at h
 ·simp only[decide_eq_true_eq]at h;subst h;exact⟨_,_,_,rfl⟩
 ·cases h
theorem qV.rev{g:Gc}{H:Hp}:∀{ds:List D}{vs:List V},qV g H ds vs->qV g H ds.reverse vs.reverse:=by
 have app:∀{ds es:List D}{vs us:List V},qV g H ds vs->qV g H es us->qV g H (ds++es) (vs++us):=λ{ds}=>by
  induction ds with
  |nil=>intro es vs us h h';cases h;exact h'
  |cons d ds ih=>intro es vs us h h';cases h with|cons a b=>exact .cons a (ih b h')
 intro ds
 induction ds with
 |nil=>intro vs h;cases h;exact .nil
 |cons d ds ih=>intro vs h;cases h with|cons a b=>rw[List.reverse_cons,List.reverse_cons];exact app (ih b) (.cons a .nil)
theorem PE.or'{e:Expr}{t t':TE}(h:PE X e t)(h':PE X e t'):PE X e (λσ H Q=>t σ H Q\/t' σ H Q):=λpins s σ H Q I q=>q.elim (h pins s σ H Q I) (h' pins s σ H Q I)
theorem vk(O:XO w g c E X){st:Expr}(ha:PE X a (tE w g c E ia))(hs:eG st=true):PE X (.Subscript a (.Slice none none (some st) p2) pos) (tE w g c E (.rev ia)):=by
 obtain⟨k,p,q,rfl⟩:=AZ hs;have hK:=O.K;refine PE.imp (PE.or' (Ag ha (je jb h9)) (BX ha (je jb h9))) λσ H Q ⟨τ,S,se,k⟩=>?_
 simp only[qW,zb,qZ,zj,zf,zd,ze,zk,zg,qp,qA,qF,qu,qB,qN,qq,qw,qo,qx,ql,qG,qm,qz,qJ,qD,qr,qK,qP,qQ,qs,qH,qS,qR,qE,qy,qC,qt,qO,qI,qT,qU,qM]at k;cases q:evE w ia τ with
 |ex z=>exact .inl ⟨τ,S,se,by rw[q]at k ⊢;exact k⟩
 |no=>rw[q]at k;exact k.elim
 |ok dd=>
  cases dd with
  |tup xs=>
   refine .inl (zh se k λda va H1 e1 p1 k1=>?_);rw[q]at e1;cases e1;obtain⟨l,vs,rfl,h1,r1⟩:=p1.rb.tup;refine⟨1,rfl,rfl,l,vs,rfl,by rw[hK];exact h1,λp hp=>?_⟩;exact k1 _ _ (aZ.of (p1.same.trans (zo hp)) (eY (se.sub.same p1.same) hp r1.rev) rfl)
  |str z=>
   refine .inr (zh se k λda va H1 e1 p1 k1=>?_);rw[q]at e1;cases e1;have hv:va=.str z:=by cases p1.rb.rep;rfl
   simp only at k1;by_cases hz:(zx z).length<=SZ
   ·rw[if_pos hz]at k1;exact⟨1,rfl,rfl,z,hv,aX hz szl,k1 _ _ (aZ.of p1.same (.str _) rfl)⟩
   ·rw[if_neg hz]at k1;exact k1.elim
  |_=>rw[q]at k;exact k.elim
theorem Cn(O:XO w g c E X)(hc:X.calm=true){x y:Str}{b:B1}(hb:b=.sorted)(hx:glob c x=some (.bi b))(hy:glob c y=some .set)(ha:PE X a (tE w g c E ia))(hs:isStar a=false) :
  PE X (.Call (.Name x p2) [.Call (.Name y p3) [a] [] pos3] [] pos) (tE w g c E (.sset (b==.len) ia)):=by
 obtain⟨h1,h2,id,h3⟩:=O.gm hx;have hbt:=mw b;rw[<-h2,h3]at hbt;obtain⟨r1,r2⟩:=O.gm hy;have hK:=O.K;have hr:=gC (p:=p3) (pos:=pos3) (yX hc) (O.gl hy) r1 r2 (zr ha zK (qk hs)) (qX hy).2.2.2 (qX hy).2.2.1 (qk hs);have arg:∀{S:Sh}{H:Hp}{da:D}{va:V}{xs:List D},zz g H S da va->seq? da=some xs->∃l vs,va=.ref l/\(SqL g.K H l vs\/SqT g.K H l vs)/\qV g (hid H S) xs vs:=λ{S H da va xs} r e=>by
  cases da with
  |tup ys=>cases e;obtain⟨l,vs,rfl,q1,q2⟩:=r.tup;exact⟨l,vs,rfl,.inr q1,q2⟩
  |lst ys=>cases e;obtain⟨l,vs,rfl,q1,q2⟩:=r.lst;exact⟨l,vs,rfl,.inl q1,q2⟩
  |_=>cases e
 have hbc:∀(r:List V->Hp->VK->Prop),zm X (b1V b) r->PE X (.Call (.Name x p2) [.Call (.Name y p3) [a] [] pos3] [] pos) (tCB r (fw (tCB (p8 X) (fw (tE w g c E ia) fX)) fX)):=λr hcall=>by
  rw[h3]at hcall;exact lg hcall (O.gl hx) h1 hbt (zr hr zK) (qX hx).2.2.2 (qX hx).2.2.1
 subst hb
 ·refine PE.imp (hbc _ (wW hc)) λσ H Q ⟨τ,S,se,q⟩=>?_
  simp only[qW,zb,qZ,zj,zf,zd,ze,zk,zg,qp,qA,qF,qu,qB,qN,qq,qw,qo,qx,ql,qG,qm,qz,qJ,qD,qr,qK,qP,qQ,qs,qH,qS,qR,qE,qy,qC,qt,qO,qI,qT,qU,qM]at q;refine zh se q λda va H1 e1 p1 k1=>?_
  unfold fQ at k1;cases e2:seq? da with
  |none=>rw[e2]at k1;exact k1.elim
  |some xs=>
   rw[e2]at k1;simp only[zO]at k1;by_cases h64:xs.length<64
   ·rw[if_pos h64]at k1;obtain⟨l,vs,rfl,hl,rr⟩:=arg p1.rb e2;cases e3:ints? xs with
    |some ns=>
     rw[e3]at k1;obtain⟨rfl,rfl⟩:=rr.ints e3;refine⟨l,ns,rfl,by rw[hK];exact hl,by simpa using h64,λp hp=>⟨p,ns,rfl,zu,λD ms hD nd mem pw=>?_⟩⟩;have s1:=zo (o:=.ext (jG X.w p ns)) hp;have e4:=mS (oR nd mem) pw;subst e4;refine k1 _ _ (aZ.of ((p1.same.trans s1).trans (zo hD)) (eZ (se.sub.same (p1.same.trans s1)) hD (qV.ofInts _)) rfl)
    |none=>
     rw[e3]at k1;exact aS k1
   ·rw[if_neg h64]at k1;exact k1.elim
end
theorem iF{x:Expr}{t:Str}(h:er x=some t):∃k p,x=.Constant (.str t) k p:=by
 unfold er at h;split at h
 ·split at h
  ·cases h;exact⟨_,_,rfl⟩
  ·cases h
 ·cases h
theorem jE{x a:Expr}(h:dO x=some a):∃p,x=.FormattedValue a (-1) none p:=by
 unfold dO at h;split at h
 ·split at h
  ·split at h
   ·rename_i e;cases h;subst e;exact⟨_,rfl⟩
   ·cases h
  ·cases h
 ·cases h
section
variable{w:W}{g:Gc}{c:Cc}{E:XK}{X:Cx}{a:Expr}{ia:EV.E}{pos p2 p3 pos3:Pos}
theorem tI{α:Type}{x:D}{f:Int->R α}{z:α}(h:iR x f=.ok z):∃i,x=.int i/\f i=.ok z:=by
 cases x<;>first|exact⟨_,rfl,h⟩|(cases (show R.no=R.ok z from h);done)
theorem i_{α:Type}{x:D}{f:Str->R α}{z:α}(h:sR x f=.ok z):∃i,x=.str i/\f i=.ok z:=by
 cases x<;>first|exact⟨_,rfl,h⟩|(cases (show R.no=R.ok z from h);done)
theorem y8{α:Type}{x:D}{f:Int->R α}{z:Str}(hf:∀i,f i≠.ex z):iR x f≠.ex z:=by
 cases x<;>first|exact hf _|exact cR
theorem jH{α:Type}{x:D}{f:Str->R α}{z:Str}(hf:∀i,f i≠.ex z):sR x f≠.ex z:=by
 cases x<;>first|exact hf _|exact cR
theorem iK{α:Type}{b:Prop} [Decidable b]{d:α}{z:Str}:(if b then R.ok d else .no)≠.ex z:=by
 split
 ·exact cX
 ·exact cR
theorem jD{α:Type}{b:Bool}{x:R α}{d:α}(h:(if b=true then x else .no)=.ok d):b=true/\x=.ok d:=by
 cases b with
 |false=>cases h
 |true=>exact⟨rfl,h⟩
theorem yj{op:Operator}(h:o2 op=some .add):op=.Add:=by cases op<;>first|rfl|(cases h;done)
theorem xx{vs:List Expr}{a b:Expr}{t:Str}(h:nL vs=some (a,t,b)):∃k1 p1 p2 p3,vs=[.FormattedValue a (-1) none p1,.Constant (.str t) k1 p2,.FormattedValue b (-1) none p3]:=by
 cases vs with
 |nil=>cases h
 |cons x0 r=>cases r with
  |nil=>cases h
  |cons x1 r=>cases r with
   |nil=>cases h
   |cons x2 r=>cases r with
    |cons _ _=>cases h
    |nil=>
     have h:(match dO x0 with
      |some a=>match er x1 with
       |some t=>match dO x2 with
        |some b=>some (a,t,b)
        |none=>none
       |none=>none
      |none=>none)=some (a,t,b):=h
     cases e0:dO x0 with
     |none=>rw[e0]at h;cases h
     |some a'=>
      rw[e0]at h;cases e1:er x1 with
      |none=>rw[e1]at h;cases h
      |some t'=>
       rw[e1]at h;cases e2:dO x2 with
       |none=>rw[e2]at h;cases h
       |some b'=>
        rw[e2]at h;cases h;obtain⟨p1,rfl⟩:=jE e0;obtain⟨k1,p2,rfl⟩:=iF e1;obtain⟨p3,rfl⟩:=jE e2;exact⟨_,_,_,_,rfl⟩
theorem qV.strs{H:Hp}{ds:List D}:∀{vs:List V}{ys:List Str},qV g H ds vs->strs? ds=some ys->vs=ys.map V.str:=by
 induction ds with
 |nil=>intro vs ys h e;cases h;cases e;rfl
 |cons d ds ih=>
  intro vs ys h e;cases h with
  |cons h t=>cases d with
   |str i=>
    obtain⟨ms,e1,rfl⟩:=a_.mp (show (strs? ds).map (i :: ·)=some ys from e);have h1:=ih t e1;cases h;rw[h1];rfl
   |_=>cases (show none=some ys from e)
theorem uF(O:XO w g c E X){x:Str}(h:glob c x=some (.ty "str" none))(ha:PE X a (tE w g c E ia))(hs:isStar a=false):PE X (.Call (.Name x p2) [a] [] pos) (tE w g c E (.stri ia)):=by
 obtain⟨h1,h2,_⟩:=O.gm h;have hst:=qk (es:=[]) (env:=X.env) hs;refine PE.imp (gC uM (O.gl h) h1 h2 (zr ha zK hst) (qX h).2.2.2 (qX h).2.2.1 hst) λσ H Q ⟨τ,S,se,k⟩=>?_
 simp only[qW,zb,qZ,zj,zf,zd,ze,zk,zg,qp,qA,qF,qu,qB,qN,qq,qw,qo,qx,ql,qG,qm,qz,qJ,qD,qr,qK,qP,qQ,qs,qH,qS,qR,qE,qy,qC,qt,qO,qI,qT,qU,qM]at k;refine zh se k λda va H1 e1 p1 k1=>?_
 cases hm:iz da with
 |ex z=>exact absurd hm (y8 λi=>iK)
 |no=>rw[hm]at k1;exact k1.elim
 |ok d=>
  rw[hm]at k1;obtain⟨i,rfl,q⟩:=tI hm;obtain⟨q1,q2⟩:=jD q;cases q2;exact⟨i,by rw[p1.rb.int],lu q1,k1 _ _ (aZ.of p1.same (.str _) rfl)⟩
theorem yt{op:Operator}{b:Expr}{ib:EV.E}(ho:op=.Add)(ha:PE X a (tE w g c E ia))(hb:PE X b (tE w g c E ib)):PE X (.BinOp a op b pos) (tE w g c E (.sadd ia ib)):=by
 subst ho;refine PE.imp (p_ rG ha hb) λσ H Q ⟨τ,S,se,k⟩=>?_
 simp only[qW,zb,qZ,zj,zf,zd,ze,zk,zg,qp,qA,qF,qu,qB,qN,qq,qw,qo,qx,ql,qG,qm,qz,qJ,qD,qr,qK,qP,qQ,qs,qH,qS,qR,qE,qy,qC,qt,qO,qI,qT,qU,qM]at k;refine zh se k λda va H1 e1 p1 k1=>?_
 refine zh (se.up p1.same) k1 λdb vb H2 e2 p2 k2=>?_
 cases hm:gH da db with
 |ex z=>exact absurd hm (jH λi=>jH λj=>iK)
 |no=>rw[hm]at k2;exact k2.elim
 |ok d=>
  rw[hm]at k2;obtain⟨i,rfl,q⟩:=i_ hm;obtain⟨j,rfl,q'⟩:=i_ q;by_cases hz:i.length+j.length<=SZ
  ·rw[if_pos hz]at q';cases q';have va':va=.str i:=by cases p1.rb.rep;rfl
   have vb':vb=.str j:=by cases p2.rb.rep;rfl
   exact⟨i,j,va',vb',aX hz szl,k2 _ _ (aZ.of (p1.same.trans p2.same) (.str _) rfl)⟩
  ·rw[if_neg hz]at q';cases q'
theorem qV.ofStrs{H:Hp}:∀(ys:List Str),qV g H (ys.map D.str) (ys.map V.str)
 | []=>.nil
 |_::ys=>.cons (.str _) (qV.ofStrs ys)
theorem BQ{o:Expr}{ib:EV.E}{ap cp:Pos}(hb:baseOk o=true)(ho:PE X o (tE w g c E ia))(ha:PE X a (tE w g c E ib))(hs:isStar a=false)(hl:(ap.endLine==cp.line)=true) :
  PE X (.Call (.Attribute o "split" ap) [a] [] cp) (tE w g c E (.spl ia ib)):=by
 have hst:=qk (es:=[]) (env:=X.env) hs;refine PE.imp (gv (X:=X) (apos:=ap) (cpos:=cp) PySem.F.plainAttrs_str PySem.F.slot_str_split PySem.F.type_str_split yz ho (zr ha zK hst) (pW hb) (by rw[hst];rfl) hl hst rfl) λσ H Q ⟨τ,S,se,k⟩=>?_
 simp only[qW,zb,qZ,zj,zf,zd,ze,zk,zg,qp,qA,qF,qu,qB,qN,qq,qw,qo,qx,ql,qG,qm,qz,qJ,qD,qr,qK,qP,qQ,qs,qH,qS,qR,qE,qy,qC,qt,qO,qI,qT,qU,qM]at k;refine zh se k λda va H1 e1 p1 k1=>?_
 cases hda:da with
 |str i=>
  subst hda;have va':va=.str i:=by cases p1.rb.rep;rfl
  subst va';refine⟨rfl,?_⟩;refine zh (se.up p1.same) k1 λdb vb H2 e2 p2 k2=>?_
  cases hm:gX i db with
  |ex z=>exact absurd hm (jH λj=>iK)
  |no=>rw[hm]at k2;exact k2.elim
  |ok d=>
   rw[hm]at k2;obtain⟨j,rfl,q'⟩:=i_ hm;obtain⟨q1,q2⟩:=jD q';cases q2;simp only[aH,decide_eq_true_eq]at q1;have vb':vb=.str j:=by cases p2.rb.rep;rfl
   subst vb';exact⟨i,j,rfl,rfl,q1.1.1,aX q1.1.2 szl,aX q1.2 szl,λp hp=>k2 _ _ (aZ.of ((p1.same.trans p2.same).trans (zo hp)) (eZ (se.sub.same (p1.same.trans p2.same)) hp (qV.ofStrs _)) rfl)⟩
 |_=>subst hda;exact k1.elim
theorem Bt{o:Expr}{ib:EV.E}{ap cp:Pos}(hb:baseOk o=true)(ho:PE X o (tE w g c E ia))(ha:PE X a (tE w g c E ib))(hs:isStar a=false)(hl:(ap.endLine==cp.line)=true) :
  PE X (.Call (.Attribute o "strip" ap) [a] [] cp) (tE w g c E (.stp ia ib)):=by
 have hst:=qk (es:=[]) (env:=X.env) hs;refine PE.imp (gv (X:=X) (apos:=ap) (cpos:=cp) PySem.F.plainAttrs_str PySem.F.slot_str_strip PySem.F.type_str_strip x5 ho (zr ha zK hst) (pW hb) (by rw[hst];rfl) hl hst rfl) λσ H Q ⟨τ,S,se,k⟩=>?_
 simp only[qW,zb,qZ,zj,zf,zd,ze,zk,zg,qp,qA,qF,qu,qB,qN,qq,qw,qo,qx,ql,qG,qm,qz,qJ,qD,qr,qK,qP,qQ,qs,qH,qS,qR,qE,qy,qC,qt,qO,qI,qT,qU,qM]at k;refine zh se k λda va H1 e1 p1 k1=>?_
 cases hda:da with
 |str i=>
  subst hda;have va':va=.str i:=by cases p1.rb.rep;rfl
  subst va';refine⟨rfl,?_⟩;refine zh (se.up p1.same) k1 λdb vb H2 e2 p2 k2=>?_
  cases hm:jM i db with
  |ex z=>exact absurd hm (jH λj=>iK)
  |no=>rw[hm]at k2;exact k2.elim
  |ok d=>
   rw[hm]at k2;obtain⟨j,rfl,q'⟩:=i_ hm;obtain⟨q1,q2⟩:=jD q';cases q2;simp only[decide_eq_true_eq]at q1;have vb':vb=.str j:=by cases p2.rb.rep;rfl
   subst vb';exact⟨i,j,rfl,rfl,aX q1 szl,k2 _ _ (aZ.of (p1.same.trans p2.same) (.str _) rfl)⟩
 |_=>subst hda;exact k1.elim
theorem xh{lo hi:Option Expr}{s:Expr}(h:cUp lo hi s=true):∃x,lo=none/\hi=some x/\ig x=true/\eG s=true:=by
 unfold cUp at h;simp only[aH,Option.isNone_iff_eq_none]at h;obtain⟨⟨h1,h2⟩,h3⟩:=h;cases hi with
 |none=>cases h2
 |some x=>exact⟨x,h1,rfl,h2,h3⟩
theorem xJ{st:Expr}(h:ig st=true):∃k p,st=.Constant (.int 0) k p:=by
 unfold ig at h;split at h
 ·simp only[decide_eq_true_eq]at h;subst h;exact⟨_,_,rfl⟩
 ·cases h
theorem ux{st:Expr}(h:eG st=true):∃k p q,st=.UnaryOp .USub (.Constant (.int 1) k p) q:=by
 unfold eG at h;split at h
 ·simp only[decide_eq_true_eq]at h;subst h;exact⟨_,_,_,rfl⟩
 ·cases h
theorem qV.picks{H:Hp}{ds:List D}{vs:List V}(r:qV g H ds vs):∀(l:List Nat),qV g H (l.filterMap (ds[·]?)) (l.filterMap (vs[·]?))
 | []=>.nil
 |i::l=>by
  cases h:ds[i]? with
  |none=>
   have h':vs[i]? = none:=by rw[List.getElem?_eq_none_iff]at h ⊢;rw[<-r.length];exact h
   rw[List.filterMap_cons_none h,List.filterMap_cons_none h'];exact qV.picks r l
  |some x=>
   obtain⟨u,h',ru⟩:=r.get h;rw[List.filterMap_cons_some h,List.filterMap_cons_some h'];exact .cons ru (qV.picks r l)
theorem qV.pickL{H:Hp}{ds:List D}{vs:List V}(r:qV g H ds vs)(lo hi st:Option Int):qV g H (L2.pickL ds lo hi st) (L2.pickL vs lo hi st):=by
 unfold L2.pickL;rw[<-r.length];exact r.picks _
theorem CW(O:XO w g c E X){st hi:Expr}(ha:PE X a (tE w g c E ia))(hz:ig hi=true)(hs:eG st=true):PE X (.Subscript a (.Slice none (some hi) (some st) p2) pos) (tE w g c E (.rvt ia)):=by
 obtain⟨k,p,q,rfl⟩:=ux hs;obtain⟨k',p',rfl⟩:=xJ hz;have hK:=O.K;refine PE.imp (tY ha h9 (je jb h9)) λσ H Q ⟨τ,S,se,k⟩=>?_
 simp only[qW,zb,qZ,zj,zf,zd,ze,zk,zg,qp,qA,qF,qu,qB,qN,qq,qw,qo,qx,ql,qG,qm,qz,qJ,qD,qr,qK,qP,qQ,qs,qH,qS,qR,qE,qy,qC,qt,qO,qI,qT,qU,qM]at k;refine zh se k λda va H1 e1 p1 k1=>?_
 cases hm:gK da with
 |ex z=>exact absurd hm (jB λxs=>cX)
 |no=>rw[hm]at k1;exact k1.elim
 |ok d=>
  rw[hm]at k1;obtain⟨xs,rfl,q⟩:=jw hm;cases q;obtain⟨l,vs,rfl,h1,r1⟩:=p1.rb.lst;refine⟨1,rfl,0,-1,rfl,rfl,by decide,l,vs,rfl,by rw[hK];exact h1,λp hp=>?_⟩;exact k1 _ _ (aZ.of (p1.same.trans (zo hp)) (eZ (se.sub.same p1.same) hp (r1.pickL _ _ _)) rfl)
theorem yy(O:XO w g c E X){sep:Str}{kk}{pp ap cp:Pos}(ha:PE X a (tE w g c E ia))(hs:isStar a=false)(hl:(ap.endLine==cp.line)=true) :
  PE X (.Call (.Attribute (.Constant (.str sep) kk pp) "join" ap) [a] [] cp) (tE w g c E (.joi sep ia)):=by
 have hst:=qk (es:=[]) (env:=X.env) hs;refine PE.imp (gv (X:=X) (apos:=ap) (cpos:=cp) PySem.F.plainAttrs_str PySem.F.slot_str_join PySem.F.type_str_join yb jQ (zr ha zK hst) rfl (by rw[hst];rfl) hl hst rfl) λσ H Q ⟨τ,S,se,k⟩=>?_
 simp only[qW,zb,qZ,zj,zf,zd,ze,zk,zg,qp,qA,qF,qu,qB,qN,qq,qw,qo,qx,ql,qG,qm,qz,qJ,qD,qr,qK,qP,qQ,qs,qH,qS,qR,qE,qy,qC,qt,qO,qI,qT,qU,qM]at k;refine⟨rfl,?_⟩;refine zh se k λda va H1 e1 p1 k1=>?_
 cases hm:dS sep da with
 |ex z=>exact absurd hm (jB λxs=>fu λys=>iK)
 |no=>rw[hm]at k1;exact k1.elim
 |ok d=>
  rw[hm]at k1;obtain⟨xs,rfl,q⟩:=jw hm;obtain⟨ys,e,q⟩:=iH q;obtain⟨q1,q2⟩:=jD q;cases q2;simp only[aH,decide_eq_true_eq]at q1;obtain⟨l,vs,rfl,z1,z2⟩:=p1.rb.lst;have z3:=z2.strs e;subst z3;exact⟨sep,l,ys,rfl,rfl,by rw[O.K];exact z1,q1.1,by lia,k1 _ _ (aZ.of p1.same (.str _) rfl)⟩
theorem B2{b:Expr}{ib:EV.E}{t:Str}{k1}{p1 p3:Pos}(ha:PE X a (tE w g c E ia))(hb:PE X b (tE w g c E ib)) :
  PE X (.JoinedStr [.FormattedValue a (-1) none p1,.Constant (.str t) k1 p2,.FormattedValue b (-1) none p3] pos) (tE w g c E (.fsm ia t ib)):=by
 refine PE.imp (xS ha hb) λσ H Q ⟨τ,S,se,k⟩=>?_
 simp only[qW,zb,qZ,zj,zf,zd,ze,zk,zg,qp,qA,qF,qu,qB,qN,qq,qw,qo,qx,ql,qG,qm,qz,qJ,qD,qr,qK,qP,qQ,qs,qH,qS,qR,qE,qy,qC,qt,qO,qI,qT,qU,qM]at k;refine zh se k λda va H1 e1 p1 k1=>?_
 cases da with
 |int i=>
  simp only[iR]at k1;cases hc:qY i&&decide (((Str.empty++dj i)++t).length<=SZ)with
  |false=>rw[hc]at k1;exact k1.elim
  |true=>
   rw[hc,if_pos rfl]at k1;simp only[aH,decide_eq_true_eq]at hc;refine⟨i,by rw[p1.rb.int],⟨lu hc.1,aX hc.2 szl⟩,zh (se.up p1.same) k1 λdb vb H2 e2 p2 k2=>?_⟩;cases db with
   |int j=>
    simp only at k2;cases hd:qY j&&decide ((eS i t j).length<=SZ)with
    |false=>rw[hd]at k2;exact k2.elim
    |true=>
     rw[hd,if_pos rfl]at k2;simp only[aH,decide_eq_true_eq]at hd;exact⟨j,by rw[p2.rb.int],⟨lu hd.1,aX hd.2 szl⟩,k2 _ _ (aZ.of (p1.same.trans p2.same) (.str _) rfl)⟩
   |_=>exact k2.elim
 |_=>exact k1.elim
end
section
variable{w:W}{g:Gc}{n:Nat}
theorem Snd.call_name(ih:Snd w g n){c:Cc}{E:XK}{X:Cx}(O:XO w g c E X){f:Str}{p pos:Pos}{as:List Expr}{ir:EV.E}(h:cE (n+1) c (.Call (.Name f p) as [] pos)=some ir):PE X (.Call (.Name f p) as [] pos) (tE w g c E ir):=by
 unfold cE at h;dsimp only at h;split at h
 ·cases h
 ·split at h
  ·rename_i fr hg
   simp only[aE,aD]at h;obtain⟨ies,h1,h⟩:=h;split at h
   ·rename_i hc
    simp only[aH,br]at hc;cases h
    match as with
    | []=>simp at hc
    |e::es=>exact wq O hg (ih.es O h1) hc.1 (eU h1)
   ·split at h
    ·rename_i hc
     simp only[br]at hc;cases h
     match as with
     | []=>simp at hc
     |e::es=>exact AG O hg (ih.es O h1) (eU h1)
    ·cases h
  ·rename_i b hg
   split at h
   ·rename_i a hs
    obtain⟨y,p3,pos3,rfl,hb,hy,hst,hc⟩:=xF hs;rw[a_]at h;obtain⟨ia,h1,rfl⟩:=h;exact Cn O (O.calm hc) hb hg hy (ih.e O h1) hst
   simp only[aE,aD]at h;obtain⟨ies,h1,h⟩:=h;split at h
   ·rename_i hc
    simp only[aH,br,bE,beq_iff_eq]at hc;cases h
    match as with
    | []=>simp at hc
    |e::es=>exact xf O hg (by rcases hc.2 with (z|z)|z;exact .inl (O.calm z);exact .inr (.inl z);exact .inr (.inr z)) (ih.es O h1) (eU h1)
   ·cases h
  ·rename_i t b hg
   have plain:∀{ies:Es},cEs n c as=some ies->as.isEmpty=false->PE X (.Call (.Name f p) as [] pos) (tE w g c E (.bi b ies)):=λ{ies} h1 he=>by
    match as with
    | []=>simp at he
    |e::es=>exact Au O hg (ih.es O h1) (eU h1)
   split at h
   ·rename_i y p' as' q
    split at h
    ·rename_i hr
     simp only[aH,beq_iff_eq]at hr;split at h
     ·rename_i hc
      simp only[aH,bE,beq_iff_eq]at hc;split at h
      ·rename_i a
       split at h
       ·cases h
       ·rename_i hs
        have hs:isStar a=false:=by simpa using hs
        simp only[aE,aD]at h;obtain⟨ia,h1,h⟩:=h;cases h;exact mQ O (O.calm hc.1) hg hr.2 (xE (ih.e O h1) hs) (by intro z hz;simp at hz;rw[hz];exact hs) hc.2 Cu
      ·rename_i a d
       split at h
       ·cases h
       ·rename_i hs
        have hs:isStar a=false/\isStar d=false:=by simpa using hs
        simp only[aE,aD]at h;obtain⟨ia,h1,ib,h2,h⟩:=h;cases h;exact mQ O (O.calm hc.1) hg hr.2 (zr (ih.e O h1) (zr (ih.e O h2) zK (qk hs.2)) (qk hs.1)) (by intro z hz;simp at hz;rcases hz with rfl|rfl;exact hs.1;exact hs.2) hc.2 Bc
      ·rename_i a d k
       split at h
       ·cases h
       ·rename_i hs
        have hs:(isStar a=false/\isStar d=false)/\isStar k=false:=by simpa[and_assoc]using hs
        simp only[aE,aD]at h;obtain⟨ia,h1,ib,h2,id,h3,h⟩:=h;split at h
        ·rename_i ht
         have ht:=eq_of_beq ht;subst ht;cases h;exact AO O (O.calm hc.1) hg hr.2 (ih.e O h1) (ih.e O h2) (ih.e O h3) hs.1.1 hs.1.2 hs.2
        ·cases h
      ·cases h
     ·cases h
    ·simp only[aE,aD]at h;obtain⟨ies,h1,h⟩:=h;cases h;exact plain h1 rfl
   ·simp only[aE,aD]at h;obtain⟨ies,h1,h⟩:=h;split at h
    ·rename_i hc
     cases h;exact plain h1 (by simpa using hc)
    ·cases h
  ·rename_i hg
   split at h
   ·rename_i a k
    split at h
    ·cases h
    ·rename_i hs
     simp only[aE,aD]at h;obtain⟨ia,h1,cl,h2,h⟩:=h;cases h;exact vw O hg (ih.e O h1) h2 (by simpa using hs)
   ·cases h
  ·rename_i t hg
   split at h
   ·split at h
    ·rename_i hq
     simp only[aH,beq_iff_eq,br]at hq;obtain⟨rfl,hst⟩:=hq;obtain⟨ia,h1,rfl⟩:=a_.mp h;exact uF O hg (ih.e O h1) hst
    ·cases h
   ·cases h
  ·cases h
theorem jn:∀{n:Nat}{c:Cc}{l:List Expr}{es:Es},cEs n c l=some es->l.length<=n
 | 0,_,_,_,h=>by simp[cEs]at h
 |n+1,_,[],_,_=>by simp
 |n+1,c,x::l,es,h=>by
  have hs:=eU h x aK;simp only[cEs,hs,bg,if_false,aE,aD]at h;obtain⟨_,_,r,hr,_⟩:=h;have:=jn hr
  simpa using this
theorem p7{c:Cc}{elt:Expr}{gs:List b_}{sc:aO}{p:Pos}{ir:EV.E}(h:cE (n+1) c (.ListComp elt gs sc p)=some ir) :
  ∃tgt it ifs iit itg it' ie,gs=[⟨tgt,it,ifs,0⟩]/\(c.calm=true/\zv it=true)/\(gY (λx=>c.nm.lookup x) c.N (bR sc.names) (fL c sc.names) sc=true/\(bR sc.names).Nodup)/\cI n c it=some iit/\cTg (c_ c sc) tgt=some itg/\e_ n (c_ c sc) ifs=some it'/\cE n (c_ c sc) elt=some ie/\(esc ie=true/\fM iit tgt=true)/\ir=.comp iit (fL c sc.names) itg it' ie:=by
 unfold cE at h;dsimp only at h;split at h
 ·rename_i tgt it ifs asy
  split at h
  ·cases h
  ·rename_i hs
   have hs:(asy=0/\c.calm=true)/\zv it=true:=by simpa using hs
   obtain⟨⟨rfl,hs1⟩,hs2⟩:=hs;split at h
   ·cases h
   ·rename_i hk
    have hk:gY (λx=>c.nm.lookup x) c.N (bR sc.names) (fL c sc.names) sc=true/\(bR sc.names).Nodup:=by simpa using hk
    simp only[aE,aD]at h;obtain⟨iit,h1,itg,h2,it',h3,ie,h4,h⟩:=h;split at h
    ·rename_i he
     simp only[aH]at he;cases h;exact⟨tgt,it,ifs,iit,itg,it',ie,rfl,⟨hs1,hs2⟩,hk,h1,h2,h3,h4,he,rfl⟩
    ·cases h
 ·cases h
theorem yL{vs:List Expr}{t0 t1 t2:Str}{a b:Expr}(h:kC vs=some (t0,a,t1,b,t2)):∃k0 k1 k2 p0 p1 p2 p3 p4,vs=[.Constant (.str t0) k0 p0,.FormattedValue a (-1) none p1,.Constant (.str t1) k1 p2,.FormattedValue b (-1) none p3,.Constant (.str t2) k2 p4]/\(Str.empty++t0).length<=1000:=by
 unfold kC at h;split at h
 ·simp only[aE,aD]at h;obtain⟨u0,h0,u1,h1,u2,h2,u3,h3,u4,h4,h⟩:=h;split at h
  ·rename_i hz
   cases h;obtain⟨k0,p0,rfl⟩:=iF h0;obtain⟨p1,rfl⟩:=jE h1;obtain⟨k1,p2,rfl⟩:=iF h2;obtain⟨p3,rfl⟩:=jE h3;obtain⟨k2,p4,rfl⟩:=iF h4;exact⟨_,_,_,_,_,_,_,_,rfl,hz⟩
  ·cases h
 ·cases h
theorem Snd.e_succ(ih:Snd w g n)(hn:n<=100000){c:Cc}{E:XK}{X:Cx}(O:XO w g c E X){x:Expr}{ir:EV.E}(h:cE (n+1) c x=some ir):PE X x (tE w g c E ir):=by
 have h0:=h;unfold cE at h;split at h
 ·-- Name
  rename_i y p
  split at h
  ·rename_i i hl
   have:=kG (w:=w) (E:=E) (pos:=p) O hl;cases ho:c.own.contains y with
   |true=>rw[ho]at h this;cases h;exact this
   |false=>rw[ho]at h this;cases h;exact this
  ·split at h
   ·rename_i hg;cases h;exact wK O hg
   ·rename_i fr hg;cases h;exact rV O hg
   ·cases h
 ·split at h
  ·cases h;exact jA h9 λ_=>.int _
  ·cases h;exact jA oS λ_=>.bl _
  ·cases h;exact jA BH λ_=>.non
  ·cases h;exact jA jQ λ_=>.str _
  ·cases h
 ·simp only[aE,aD]at h;obtain⟨o,ho,ia,h1,ib,h2,h⟩:=h;split at h
  ·rename_i ht
   cases h;simp only[mO,aH,beq_iff_eq]at ht;rw[ht.1]at ho;exact yt (yj ho) (ih.e O h1) (ih.e O h2)
  ·cases h;exact Cj O ho (ih.e O h1) (ih.e O h2)
 ·rename_i op a p
  simp only[aE,aD]at h;obtain⟨ia,h1,h⟩:=h;cases op with
  |USub=>cases h;exact Bq (ih.e O h1)
  |Invert=>cases h;exact Cp (ih.e O h1)
  |Not=>cases h;exact yl (ih.e O h1)
  |UAdd=>cases h
 ·exact(ih.bo O h).1
 ·split at h
  ·simp only[aE,aD]at h;obtain⟨ia,h1,ib,h2,h⟩:=h;split at h
   ·rename_i hs;cases h;exact t_ O (ih.e O h1) (ih.e O h2) hs
   ·cases h
  ·simp only[aE,aD]at h;obtain⟨ia,h1,ib,h2,id',h3,h⟩:=h;split at h
   ·rename_i hs
    simp only[aH]at hs;cases h;exact tq O (ih.e O h1) (ih.e O h2) (ih.e O h3) hs.2
   ·cases h
  ·simp only[aE,aD]at h;obtain⟨ia,h1,ib,h2,id',h3,if',h4,h⟩:=h;split at h
   ·rename_i hs
    simp only[aH]at hs;cases h;exact vU O (ih.e O h1) (ih.e O h2) (ih.e O h3) (ih.e O h4) hs.2
   ·cases h
  ·cases h
 ·split at h
  ·rename_i ks vs _ hk
   simp only[aH,List.isEmpty_iff]at hk;obtain⟨rfl,rfl⟩:=hk;cases h;exact B0
  ·cases h
 ·split at h
  ·rename_i hf
   simp only[aE,aD]at h;obtain⟨ia,h1,ib,h2,h⟩:=h;cases h;obtain⟨k0,k1,k2,p0,p1,p2,p3,p4,rfl,hz⟩:=yL hf;exact yk hz (ih.e O h1) (ih.e O h2)
  ·split at h
   ·rename_i hf
    simp only[aE,aD]at h;obtain⟨ia,h1,ib,h2,h⟩:=h;cases h;obtain⟨k1,p1,p2,p3,rfl⟩:=xx hf;exact B2 (ih.e O h1) (ih.e O h2)
   ·cases h
 ·simp only[aE,aD]at h;obtain⟨it,h1,ia,h2,ib,h3,h⟩:=h;split at h
  ·rename_i hs
   simp only[aH]at hs;cases h;exact DH (ih.t O h1) (ih.e O h2) (ih.e O h3) hs.1 hs.2
  ·cases h
 ·simp only[aE,aD]at h;obtain⟨ies,h1,h⟩:=h;split at h
  ·rename_i hs;cases h
   exact v9 (ih.es O h1) hs λτ ds e=>by rw[iP h1 e];exact aX (jn h1) hn
  ·cases h
 ·simp only[aE,aD]at h;obtain⟨ies,h1,h⟩:=h;split at h
  ·rename_i hs;cases h
   exact yg (ih.es O h1) hs λτ ds e=>by rw[iP h1 e];exact aX (jn h1) hn
  ·cases h
 ·split at h
  ·rename_i lo hi st' sp
   split at h
   ·split at h
    ·rename_i hq
     simp only[aH,Option.isNone_iff_eq_none]at hq;obtain⟨⟨rfl,rfl⟩,hq⟩:=hq;rw[a_]at h;obtain⟨ia,h1,rfl⟩:=h;exact vk O (ih.e O h1) hq
    ·split at h
     ·rename_i hq
      obtain⟨hh,rfl,rfl,hz,hq⟩:=xh hq;rw[a_]at h;obtain⟨ia,h1,rfl⟩:=h;exact CW O (ih.e O h1) hz hq
     ·cases h
   ·simp only[aE,aD]at h;obtain⟨ia,h1,il,h2,ih',h3,h⟩:=h;cases h;exact DY O (ih.e O h1) (ih.o O h2) (ih.o O h3)
  ·split at h
   ·cases h
   ·rename_i hs
    simp only[aE,aD]at h;obtain⟨ia,h1,ib,h2,h⟩:=h;cases h;exact sO O (ih.e O h1) (ih.e O h2) (by simpa using hs)
 ·-- ListComp
  rename_i elt gs sc p
  obtain⟨tgt,it,ifs,iit,itg,it',ie,rfl,hs,hk,h1,h2,h3,h4,he,rfl⟩:=p7 h0;have hS:dC X (bR sc.names) (fL c sc.names) sc:=dC.of (by
   have e1:(λx=>c.nm.lookup x)=X.env.kindOf:=by funext x;show _=X.env.scope.names.lookup x;rw[O.nm]
   rw[<-e1,O.N];exact hk.1)
  refine v8 O (O.calm hs.1) hS hk.2 (ih.i O h1 he.2) (λcl C s₀ H₀ fp=>?_) he.1 hs.2;have OY:=O.comp hS.kind hk.2 cl C s₀ H₀ fp;exact⟨jx OY h2,ih.ifs OY h3,ih.e OY h4⟩
 ·split at h
  ·split at h
   ·exact ih.call_name O h0
   ·split at h
    ·rename_i hm
     cases h;exact D0 O hm
    ·split at h
     ·split at h
      ·rename_i sep hx
       split at h
       ·rename_i hq
        simp only[aH,beq_iff_eq,br]at hq;obtain⟨⟨rfl,hst⟩,hln⟩:=hq;obtain⟨ia,h1,rfl⟩:=a_.mp h;obtain⟨kk,pp,rfl⟩:=iF hx;exact yy O (ih.e O h1) hst (beq_iff_eq.mpr hln)
       ·cases h
      ·split at h
       ·rename_i hm
        have hm:=eq_of_beq hm;subst hm;split at h
        ·cases h
        ·rename_i hc
         simp only[bE,br,not_or,Bool.not_eq_true,Bool.not_eq_false]at hc;simp only[aE,aD]at h;obtain⟨io,h1,ia,h2,h⟩:=h;cases h;obtain⟨⟨c1,c2⟩,c4⟩:=hc;exact Bt c1 (ih.e O h1) (ih.e O h2) c2 c4
       ·split at h
        ·rename_i hm
         have hm:=eq_of_beq hm;subst hm;split at h
         ·cases h
         ·rename_i hc
          simp only[bE,br,not_or,Bool.not_eq_true,Bool.not_eq_false]at hc;simp only[aE,aD]at h;obtain⟨io,h1,ia,h2,h⟩:=h;cases h;obtain⟨⟨c1,c2⟩,c4⟩:=hc;exact BQ c1 (ih.e O h1) (ih.e O h2) c2 c4
        ·split at h
         ·cases h
         ·rename_i hc
          simp only[bE,br,not_or,Bool.not_eq_true,Bool.not_eq_false]at hc;simp only[aE,aD]at h;obtain⟨io,h1,ia,h2,h⟩:=h;split at h
          ·cases h;obtain⟨⟨⟨c1,c2⟩,c3⟩,c4⟩:=hc;have c3:=eq_of_beq c3;subst c3;exact wY O c1 (ih.e O h1) (ih.e O h2) c2 c4
          ·cases h
     ·cases h
   ·cases h
  ·cases h
 ·cases h
theorem x8:Snd w g 0:=⟨λ_ _ _ h=>(by cases h),λ_ _ _ _ _ h=>by simp[cBo]at h,λ_ _ _ h=>by simp[cO]at h,λ_ _ _ h=>by simp[cEs]at h,λ_ _ _ _ h=>by simp[cI]at h,λ_ _ _ h=>by simp[cT]at h,λ_ _ _ _ _ h=>by simp[cTs]at h,λ_ _ _ h=>by simp[e_]at h⟩
theorem snd:∀n,n<=100000->Snd w g n
 | 0,_=>x8
 |n+1,h=>
  have ih:=snd n (Nat.le_of_succ_le h)
  ⟨λO _ _ q=>ih.e_succ (Nat.le_of_succ_le h) O q,λO _ _ _ _ q=>ih.bo_succ O q,λO _ _ q=>ih.o_succ O q,λO _ _ q=>ih.es_succ O q,λO _ _ _ q t=>ih.i_succ O q t,λO _ _ q=>ih.t_succ O q,λO _ _ _ _ q=>ih.ts_succ O q,λO _ _ q=>ih.ifs_succ O q⟩
end
noncomputable def zD(c:Cc)(i:Nat):Prop:=∃x,c.N[i]? = some x/\c.own.contains x=true
structure SS(g:Gc)(c:Cc)(H0:Hp)(B:Sh)(τ:Env)(σ:L2.St)(H:Hp)(S:Sh):Prop where
 se:SE g c τ σ H S
 lenN:τ.length=c.N.length
 same:qg H0 H
 sub0:Sub B H0
 hd:∀a,S.h a=(B.h a||S.o a)
 new:∀a,S.o a=true->H0 a=none
 own:∀i d,zD c i->τ[i]? = some (some d)->∃a vs ds,σ[i]? = some (some (.ref a))/\S.o a=true/\d=.lst ds/\H a=some (.lst vs)/\qV g (hid H S) ds vs
 inj:∀i j d e a,zD c i->zD c j->τ[i]? = some (some d)->τ[j]? = some (some e)->σ[i]? = some (some (.ref a))->σ[j]? = some (some (.ref a))->i=j
 frz:c.frz=true->(∀i,zD c i->σ[i]? = B.z[i]?)/\qg B.y H
section
variable{g:Gc}{c:Cc}{H0:Hp}{B:Sh}{τ:Env}{σ:L2.St}{H H':Hp}{S:Sh}
theorem SS.up(s:SS g c H0 B τ σ H S)(e:qg H H'):SS g c H0 B τ σ H' S:=
 ⟨s.se.up e,s.lenN,s.same.trans e,s.sub0,s.hd,s.new,λi d hi h=>let ⟨a,vs,ds,h1,h2,h3,h4,h5⟩:=s.own i d hi h;⟨a,vs,ds,h1,h2,h3,e _ _ h4,h5.mono (zp e)⟩,s.inj,λz=>⟨(s.frz z).1,(s.frz z).2.trans e⟩⟩
theorem SS.set{i:Nat}{d:D}{v:V}(s:SS g c H0 B τ σ H S)(hi:¬ zD c i)(r:Rep g (hid H S) d v):SS g c H0 B (τ.set i (some d)) (σ.set i (some v)) H S:=by
 refine⟨s.se.set r,by simp[s.lenN],s.same,s.sub0,s.hd,s.new,λj e hj h=>?_,λj k e f a hj hk h1 h2 h3 h4=>?_,λz=>⟨λj hj=>?_,(s.frz z).2⟩⟩
 ·have hij:i≠j:=λz=>hi (z▸hj)
  rw[List.getElem?_set_ne hij]at h ⊢;exact s.own j e hj h
 ·have hij:i≠j:=λz=>hi (z▸hj)
  have hik:i≠k:=λz=>hi (z▸hk)
  rw[List.getElem?_set_ne hij]at h1 h3;rw[List.getElem?_set_ne hik]at h2 h4;exact s.inj j k e f a hj hk h1 h2 h3 h4
 ·rw[List.getElem?_set_ne (λz:i=j=>hi (z▸hj))];exact(s.frz z).1 j hj
theorem SS.setAll{is:List Nat}:∀{ds:List D}{vs:List V}{τ τ':Env}{σ:L2.St}{Q:L2.St->Hp->Prop},SS g c H0 B τ σ H S->(∀i∈is,¬ zD c i)->qV g (hid H S) ds vs->EV.setAll is ds τ=.ok τ'->(∀σ',SS g c H0 B τ' σ' H S->Q σ' H)->gN is vs σ H Q:=by
 induction is with
 |nil=>
  intro ds vs τ τ' σ Q se _ r h k;cases r with
  |nil=>cases (show R.ok τ=R.ok τ' from h);exact⟨rfl,k σ se⟩
  |cons _ _=>cases (show R.no=R.ok τ' from h)
 |cons i is ih=>
  intro ds vs τ τ' σ Q se ho r h k;cases r with
  |nil=>cases (show R.no=R.ok τ' from h)
  |cons r rs=>exact⟨_,_,rfl,ih (se.set (ho i aK) r) (λj hj=>ho j (aJ _ hj)) rs h k⟩
theorem w8{tg:Tg}(h:iE c tg):match tg with | .nm i=>¬ zD c i | .tp is=>∀i∈is,¬ zD c i:=by
 cases tg with
 |nm i=>rintro⟨x,h1,h2⟩;rw[h x h1]at h2;cases h2
 |tp is=>rintro i hi ⟨x,h1,h2⟩;rw[h i hi x h1]at h2;cases h2
theorem SS.store{X:Cx}(O:X.K=g.K){tg:Tg}{d:D}{v:V}{τ':Env}{Q:L2.St->Hp->Prop}(s:SS g c H0 B τ σ H S)(hf:iE c tg)(r:Rep g (hid H S) d v)(h:EV.store tg d τ=.ok τ')(k:∀σ',SS g c H0 B τ' σ' H S->Q σ' H):gT X.K tg v σ H Q:=by
 have ho:=w8 hf;cases tg with
 |nm i=>
  simp only[EV.store,R.ok.injEq]at h;subst h;exact k _ (s.set ho r)
 |tp is=>
  cases d with
  |tup ds=>
   simp only[EV.store]at h;split at h
   ·rename_i hl
    cases r with
    |tup h1 r1=>exact⟨_,_,rfl,by rw[O];exact zF zI h1,by rw[<-r1.length];exact hl,s.setAll ho r1 h k⟩
   ·cases h
  |_=>simp[EV.store]at h
noncomputable def my(S:Sh)(a:Addr):Sh:=⟨λb=>S.o b||b==a,λb=>S.h b||b==a,S.z,S.y⟩
theorem SS.setOwn{i:Nat}{d:D}{v:V}(s:SS g c H0 B τ σ H S)(hz:c.frz=false)(hi:zD c i)(hlt:i<τ.length)(e:qg H H')(f:Fr g H S H' d v):∃S',SS g c H0 B (τ.set i (some d)) (σ.set i (some v)) H' S'/\qg (hid H S) (hid H' S'):=by
 obtain⟨a,vs,ds,rfl,rfl,h1,h2,h3⟩:=f;have up:qg (hid H S) (hid H' (my S a)):=λb o hb=>by
  obtain⟨z1,z2⟩:=bO.mp hb;refine bO.mpr ⟨?_,e _ _ z2⟩;show (S.h b||b==a)=false;rw[z1]
  simpa using λz:b=a=>by rw[z,h1]at z2;cases z2
 have hlt':i<σ.length:=by rw[<-s.se.len];exact hlt
 refine⟨my S a,⟨⟨by simp[s.se.len],λj e' hj=>?_,λb hb n=>?_⟩,by simp[s.lenN],s.same.trans e,s.sub0,λb=>?_,λb hb=>?_,λj e' hj h=>?_,λj k e1 e2 b hj hk q1 q2 q3 q4=>?_,λz=>by rw[hz]at z;cases z⟩,up⟩
 ·by_cases hij:i=j
  ·subst hij;simp[hlt]at hj;subst hj;refine⟨.ref a,by simp[hlt'],.inr ⟨a,vs,ds,by show (S.o a||a==a)=true;simp,rfl,rfl,h2,h3⟩,λx hx hn=>?_⟩;obtain⟨y,hy1,hy2⟩:=hi;rw[hy1]at hx;cases hx;rw[hn]at hy2;cases hy2
  ·rw[List.getElem?_set_ne hij]at hj ⊢;obtain⟨u,z1,z2,z3⟩:=s.se.val j e' hj;refine⟨u,z1,?_,λx hx hn=>(z3 x hx hn).mono up⟩;rcases z2 with z2|⟨a',vs',ds',y1,y2,y3,y4,y5⟩
   ·exact .inl (z2.mono up)
   ·exact .inr ⟨a',vs',ds',by show (S.o a'||a'==a)=true;rw[y1];rfl,y2,y3,e _ _ y4,y5.mono up⟩
 ·have hb:(S.h b||b==a)=true\/(S.o b||b==a)=true:=hb;by_cases hba:b=a
  ·rw[hba,h2]at n;cases n
  ·have:S.h b=true\/S.o b=true:=by
    rcases hb with z|z
    ·exact .inl (by simpa[hba]using z)
    ·exact .inr (by simpa[hba]using z)
   exact(s.se.sub.same e) b this n
 ·show (S.h b||b==a)=(B.h b||(S.o b||b==a))
  rw[s.hd b,Bool.or_assoc]
 ·have hb:(S.o b||b==a)=true:=hb;by_cases hba:b=a
  ·rw[hba];exact s.same.free h1
  ·exact s.new b (by simpa[hba]using hb)
 ·by_cases hij:i=j
  ·subst hij;simp[hlt]at h;subst h;exact⟨a,vs,ds,by simp[hlt'],by show (S.o a||a==a)=true;simp,rfl,h2,h3⟩
  ·rw[List.getElem?_set_ne hij]at h ⊢;obtain⟨a',vs',ds',y1,y2,y3,y4,y5⟩:=s.own j e' hj h;exact⟨a',vs',ds',y1,by show (S.o a'||a'==a)=true;rw[y2];rfl,y3,e _ _ y4,y5.mono up⟩
 ·have other:∀j e1 b,i≠j->zD c j->τ[j]? = some (some e1)->σ[j]? = some (some (.ref b))->b≠a:=λj e1 b hij hj q1 q3 z=>by
   obtain⟨a',vs',ds',y1,y2,y3,y4,y5⟩:=s.own j e1 hj q1;rw[q3]at y1;cases y1;rw[z,h1]at y4;cases y4
  by_cases hij:i=j
  ·by_cases hik:i=k
   ·rw[<-hij,<-hik]
   ·subst hij;rw[List.getElem?_set_ne hik]at q2 q4;have q3':b=a:=by
     have:(σ.set i (some (.ref a)))[i]? = some (some (.ref a)):=by simp[hlt']
     rw[this]at q3;cases q3;rfl
    exact absurd q3' (other k e2 b hik hk q2 q4)
  ·by_cases hik:i=k
   ·subst hik;rw[List.getElem?_set_ne hij]at q1 q3;have q4':b=a:=by
     have:(σ.set i (some (.ref a)))[i]? = some (some (.ref a)):=by simp[hlt']
     rw[this]at q4;cases q4;rfl
    exact absurd q4' (other j e1 b hij hj q1 q3)
   ·rw[List.getElem?_set_ne hij]at q1 q3;rw[List.getElem?_set_ne hik]at q2 q4;exact s.inj j k e1 e2 b hj hk q1 q2 q3 q4
theorem SS.change{i:Nat}{a:Addr}{d0:D}{vs:List V}{ds:List D}(s:SS g c H0 B τ σ H S)(hz:c.frz=false)(hi:zD c i)(h0:τ[i]? = some (some d0))(ha:σ[i]? = some (some (.ref a)))(r:qV g (hid H S) ds vs):SS g c H0 B (τ.set i (some (.lst ds))) σ (upd H a (.lst vs)) S/\qg (hid H S) (hid (upd H a (.lst vs)) S):=by
 have hlt:i<τ.length:=(List.getElem?_eq_some_iff.mp h0).1;obtain⟨a',vs0,ds0,y1,y2,y3,y4,y5⟩:=s.own i d0 hi h0;rw[ha]at y1;cases y1;have hh:S.h a=true:=by rw[s.hd,y2,Bool.or_true]
 have he:hid (upd H a (.lst vs)) S=hid H S:=gR hh;have other:∀j e,i≠j->zD c j->τ[j]? = some (some e)->∀b,σ[j]? = some (some (.ref b))->b≠a:=λj e hij hj h b hb z=>by
  subst z;exact hij (s.inj i j d0 e b hi hj h0 h ha hb)
 refine⟨⟨⟨by simp[s.se.len],λj e hj=>?_,λb hb n=>?_⟩,by simp[s.lenN],λb o hb=>?_,s.sub0,s.hd,s.new,λj e hj h=>?_,λj k e1 e2 b hj hk q1 q2 q3 q4=>?_,λz=>by rw[hz]at z;cases z⟩,by rw[he];exact qg.refl _⟩
 ·by_cases hij:i=j
  ·subst hij;simp[hlt]at hj;subst hj;refine⟨.ref a,ha,.inr ⟨a,vs,ds,y2,rfl,rfl,zu,by rw[he];exact r⟩,λx hx hn=>?_⟩;obtain⟨y,hy1,hy2⟩:=hi;rw[hy1]at hx;cases hx;rw[hn]at hy2;cases hy2
  ·rw[List.getElem?_set_ne hij]at hj;obtain⟨u,z1,z2,z3⟩:=s.se.val j e hj;by_cases ho:zD c j
   ·obtain⟨b,ws,es,w1,w2,w3,w4,w5⟩:=s.own j e ho hj;rw[z1]at w1;cases w1;refine⟨_,z1,.inr ⟨b,ws,es,w2,rfl,w3,by rw[qi (other j e hij ho hj b z1)];exact w4,by rw[he];exact w5⟩,λx hx hn=>?_⟩;obtain⟨y,hy1,hy2⟩:=ho;rw[hy1]at hx;cases hx;rw[hn]at hy2;cases hy2
   ·have st:Rep g (hid H S) e u:=by
     cases q:c.N[j]? with
     |some x=>
      refine z3 x q ?_;cases q2:c.own.contains x with
      |false=>rfl
      |true=>exact absurd ⟨x,q,q2⟩ ho
     |none=>
      have h1:=(List.getElem?_eq_some_iff.mp hj).1;have h2:=List.getElem?_eq_none_iff.mp q;have h3:=s.lenN;lia
    exact⟨u,z1,.inl (by rw[he];exact st),λ_ _ _=>by rw[he];exact st⟩
 ·by_cases hba:b=a
  ·subst hba;rw[zu]at n;cases n
  ·rw[qi hba]at n;exact s.se.sub b hb n
 ·by_cases hba:b=a
  ·subst hba;rw[s.new b y2]at hb;cases hb
  ·rw[qi hba];exact s.same _ _ hb
 ·by_cases hij:i=j
  ·subst hij;simp[hlt]at h;subst h;exact⟨a,vs,ds,ha,y2,rfl,zu,by rw[he];exact r⟩
  ·rw[List.getElem?_set_ne hij]at h;obtain⟨b,ws,es,w1,w2,w3,w4,w5⟩:=s.own j e hj h;exact⟨b,ws,es,w1,w2,w3,by rw[qi (other j e hij hj h b w1)];exact w4,by rw[he];exact w5⟩
 ·have f:∀k e,(τ.set i (some (.lst ds)))[k]? = some (some e)->∃e',τ[k]? = some (some e'):=λk e h=>by
   by_cases hik:i=k
   ·subst hik;exact⟨d0,h0⟩
   ·rw[List.getElem?_set_ne hik]at h;exact⟨e,h⟩
  obtain⟨e1',q1'⟩:=f j e1 q1;obtain⟨e2',q2'⟩:=f k e2 q2;exact s.inj j k e1' e2' b hj hk q1' q2' q3 q4
end
noncomputable def bQ(g:Gc)(c:Cc)(E:XK)(fr:Bool)(H0:Hp)(B:Sh)(H:Hp)(S:Sh)(D:Ends):O->Prop
 | .nx τ'=>∀σ' H' S',SS g c H0 B τ' σ' H' S'->qg (hid H S) (hid H' S')->D.nx σ' H'
 | .bk τ'=>∀σ' H' S',SS g c H0 B τ' σ' H' S'->qg (hid H S) (hid H' S')->D.bk σ' H'
 | .ct τ'=>∀σ' H' S',SS g c H0 B τ' σ' H' S'->qg (hid H S) (hid H' S')->D.ct σ' H'
 | .rt d=>∀v H',qg H0 H'->Rep g (hid H' B) d v->(fr=true->Fr g H0 B H' d v)->D.rt v H'
 | .ex k=>∀H' C,qg H0 H'->g.clA k=some C->E (.ref C) none H'
 | .no=>False
section
variable(w:W)(g:Gc)(c:Cc)(E:XK)(fr:Bool)
noncomputable def tS(s:EV.S):TS:=λD σ H=>∃H0 B τ S,SS g c H0 B τ σ H S/\bQ g c E fr H0 B H S D (evS w s τ)
noncomputable def tSs(s:Ss):TS:=λD σ H=>∃H0 B τ S,SS g c H0 B τ σ H S/\bQ g c E fr H0 B H S D (qf w s τ)
end
structure XS(w:W)(g:Gc)(c:Cc)(E:XK)(X:Cx):Prop extends XO w g c E X where
 thr:c.thr=true->Throws X E
 exc:∀x C,c.G.lookup x=some .exc->g.clA x=some C->jV g.K C
 cat:∀k x,w.cat k x=true->∀C D,g.clA k=some C->g.clA x=some D->bG g.K (.ref C) (.ref D)=some true
 frm:X.ex=[]/\X.stack=X.env::X.outer/\X.env.frame=some X.env.locals
 gh:∀x k,c.GH.lookup x=some k->k≠.exc/\∀v,GM w g X.prog X.w X.mg X.base (X.A.mark v) false x k
section
variable{w:W}{g:Gc}{c:Cc}{E:XK}{fr:Bool}{X:Cx}{H0:Hp}{B:Sh}{τ:Env}{σ:L2.St}{H H':Hp}{S:Sh}{Ed:Ends}
theorem bQ.up{o:O}{S':Sh}(h:bQ g c E fr H0 B H S Ed o)(e:qg (hid H S) (hid H' S')):bQ g c E fr H0 B H' S' Ed o:=by
 cases o with
 |nx t=>exact λσ' H2 S2 s e2=>h σ' H2 S2 s (e.trans e2)
 |bk t=>exact λσ' H2 S2 s e2=>h σ' H2 S2 s (e.trans e2)
 |ct t=>exact λσ' H2 S2 s e2=>h σ' H2 S2 s (e.trans e2)
 |rt d=>exact h
 |ex k=>exact h
 |no=>exact h
theorem s_e{e:EV.E}{f:D->O}{Q:VK}(ss:SS g c H0 B τ σ H S)(h:bQ g c E fr H0 B H S Ed ((evE w e τ).out f))(k:∀d v H',evE w e τ=.ok d->aZ g c e S H d v H'->bQ g c E fr H0 B H S Ed (f d)->Q v H'):tE w g c E e σ H Q:=by
 refine⟨τ,S,ss.se,?_⟩;cases q:evE w e τ with
 |ok d=>rw[q]at h;exact λv H' p=>k d v H' q p h
 |ex x=>rw[q]at h;exact λH' C s hc=>h H' C (ss.same.trans s) hc
 |no=>rw[q]at h;exact h
theorem s_t{t:T}{f:Bool->O}{Q:Bool->Hp->Prop}(ss:SS g c H0 B τ σ H S)(h:bQ g c E fr H0 B H S Ed ((evT w t τ).out f))(k:∀b H',evT w t τ=.ok b->qg H H'->bQ g c E fr H0 B H S Ed (f b)->Q b H'):tT w g c E t σ H Q:=by
 refine⟨τ,S,ss.se,?_⟩;cases q:evT w t τ with
 |ok d=>rw[q]at h;exact λH' p=>k d H' q p h
 |ex x=>rw[q]at h;exact λH' C s hc=>h H' C (ss.same.trans s) hc
 |no=>rw[q]at h;exact h
theorem s_a{es:Es}{f:List D->O}{Q:List V->Hp->Prop}(ss:SS g c H0 B τ σ H S)(h:bQ g c E fr H0 B H S Ed ((zt w es τ).out f))(k:∀ds vs H',zt w es τ=.ok ds->qg H H'->eD g H' S ds vs->bQ g c E fr H0 B H S Ed (f ds)->Q vs H'):tA w g c E es σ H Q:=by
 refine⟨τ,S,ss.se,?_⟩;cases q:zt w es τ with
 |ok d=>rw[q]at h;exact λvs H' p r _=>k d vs H' q p r h
 |ex x=>rw[q]at h;exact λH' C s hc=>h H' C (ss.same.trans s) hc
 |no=>rw[q]at h;exact h
theorem mK(ss:SS g c H0 B τ σ H S){b:Addr}(h:S.h b=false):B.h b=false:=by
 have:=ss.hd b;rw[h]at this;cases q:B.h b with
 |false=>rfl
 |true=>rw[q]at this;cases this
theorem xp(ss:SS g c H0 B τ σ H S):qg (hid H' S) (hid H' B):=λb o h=>by
 obtain⟨z1,z2⟩:=bO.mp h;exact bO.mpr ⟨mK ss z1,z2⟩
theorem nQ:∀{is:List Nat}{ds:List EV.D}{τ:Env}{x:Str},setAll is ds τ≠.ex x
 | [],[],_,_,h=>by cases h
 | [],_::_,_,_,h=>by cases h
 |_::_,[],_,_,h=>by cases h
 |i::is,d::ds,τ,x,h=>by simp only[setAll]at h;exact nQ h
theorem Bg{pos:Pos}:PS X (.Pass pos) (tS w g c E fr .pass):=PS.imp tU λD σ H ⟨H0,B,τ,S,ss,h⟩=>h σ H S ss (qg.refl _)
theorem vT{pos:Pos}:PS X (.Break pos) (tS w g c E fr .brk):=PS.imp xG λD σ H ⟨H0,B,τ,S,ss,h⟩=>h σ H S ss (qg.refl _)
theorem yY{pos:Pos}:PS X (.Continue pos) (tS w g c E fr .cnt):=PS.imp Bn λD σ H ⟨H0,B,τ,S,ss,h⟩=>h σ H S ss (qg.refl _)
theorem jj{e:Expr}{t:Option Expr}{l:Nat}{env:PySem.Env}(h:eu e=false):swapsWith e t l env=pure false:=by
 cases e<;>first|rfl|(simp[eu]at h)
theorem xi{e:Expr}{ie:EV.E}{pos:Pos}(he:PE X e (tE w g c E ie))(hc:eu e=false):PS X (.Expr e pos) (tS w g c E fr (.exp ie)):=
 PS.imp (mC he (jj hc)) λD σ H ⟨H0,B,τ,S,ss,h⟩=>by
  simp only[cg,cB,cG,cC,zC,cA,zS,cc,cD,zR,zP,zY,cK,zZ,cF,cL,cJ,cH]at h;exact s_e ss h λd v H' _ p k=>k σ H' S (ss.up p.same) (zp p.same)
theorem yr{pos:Pos}(hf:fr=false):PS X (.Return none pos) (tS w g c E fr .retN):=PS.imp rS λD σ H ⟨H0,B,τ,S,ss,h⟩=>h _ _ ss.same .non (by rw[hf];intro z;cases z)
theorem lC(ss:SS g c H0 B τ σ H S){a:Addr}{vs:List V}{ds:List EV.D}(h1:H0 a=none)(h2:H' a=some (.lst vs))(h3:qV g (hid H' (cj S a)) ds vs):Rep g (hid H' B) (.lst ds) (.ref a)/\Fr g H0 B H' (.lst ds) (.ref a):=by
 have up:qg (hid H' (cj S a)) (hid H' (cj B a)):=λb o hb=>by
  obtain⟨z1,z2⟩:=bO.mp hb;refine bO.mpr ⟨?_,z2⟩;have z1:(S.h b||b==a)=false:=z1;simp only[Bool.or_eq_false_iff]at z1;show (B.h b||b==a)=false;rw[mK ss z1.1,z1.2];rfl
 exact⟨.lst (SqL.of (bO.mpr ⟨ss.sub0.free h1,h2⟩)) (h3.mono (up.trans mm)),⟨a,vs,ds,rfl,rfl,h1,h2,h3.mono up⟩⟩
theorem nP(ss:SS g c H0 B τ σ H S){a:Addr}{vs:List V}{ds:List EV.D}(y1:S.o a=true)(y3:qV g (hid H' S) ds vs):qV g (hid H' (cj S a)) ds vs:=y3.mono λb o hb=>by
 have hh:S.h a=true:=by rw[ss.hd,y1,Bool.or_true]
 obtain⟨z1,z2⟩:=bO.mp hb;refine bO.mpr ⟨?_,z2⟩;show (S.h b||b==a)=false;rw[z1]
 simpa using λz:b=a=>by rw[z,hh]at z1;cases z1
theorem rz{e:Expr}{ie:EV.E}{pos:Pos}(he:PE X e (tE w g c E ie))(hf:fr=true->fresh c ie=true):PS X (.Return (some e) pos) (tS w g c E fr (.ret ie)):=
 PS.imp (oA he) λD σ H ⟨H0,B,τ,S,ss,h⟩=>by
  simp only[cg,cB,cG,cC,zC,cA,zS,cc,cD,zR,zP,zY,cK,zZ,cF,cL,cJ,cH]at h;refine s_e ss h λd v H' _ p k=>?_
  have k:∀v H',qg H0 H'->Rep g (hid H' B) d v->(fr=true->Fr g H0 B H' d v)->D.rt v H':=k;have s1:=ss.up p.same;by_cases hz:fr=true
  ·obtain⟨a,vs,ds,rfl,rfl,h1,h2,h3⟩:=p.fr (hf hz);obtain⟨r1,r2⟩:=lC (H':=H') ss (ss.same.free h1) h2 h3;exact k _ H' s1.same r1 λ_=>r2
  ·rcases p.rb with r|⟨a,vs,ds,y1,rfl,rfl,y2,y3⟩
   ·exact k v H' s1.same (r.mono (xp ss)) λz=>absurd z hz
   ·obtain⟨r1,r2⟩:=lC (H':=H') ss (ss.new a y1) y2 (nP ss y1 y3);exact k _ H' s1.same r1 λ_=>r2
theorem uE(O:XO w g c E X){x:Str}{i:Nat}{p pos:Pos}(h:loc c x=some i)(ho:c.own.contains x=true):PS X (.Return (some (.Name x p)) pos) (tS w g c E fr (.ret (.own i))):=by
 obtain⟨h1,h2,h3,h4⟩:=et h;refine PS.imp (oA (jf (i:=i) (by rw[O.N];exact h1) (by unfold fN;rw[O.nm];exact h2) h3 h4)) λD σ H ⟨H0,B,τ,S,ss,h⟩=>?_
 simp only[cg,cB,cG,cC,zC,cA,zS,cc,cD,zR,zP,zY,cK,zZ,cF,cL,cJ,cH,qW,zb,qZ,zj,zf,zd,ze,zk,zg,qp,qA,qF,qu,qB,qN,qq,qw,qo,qx,ql,qG,qm,qz,qJ,qD,qr,qK,qP,qQ,qs,qH,qS,qR,qE,qy,qC,qt,qO,qI,qT,qU,qM,bP]at h;cases q:τ[i]? with
 |none=>rw[q]at h;exact h.elim
 |some o=>
  cases o with
  |none=>rw[q]at h;exact h.elim
  |some d=>
   rw[q]at h;obtain⟨a,vs,ds,z1,y1,rfl,y2,y3⟩:=ss.own i d ⟨x,h1,ho⟩ q;obtain⟨r1,r2⟩:=lC (H':=H) ss (ss.new a y1) y2 (nP ss y1 y3);exact⟨_,z1,h _ H ss.same r1 λ_=>r2⟩
theorem kf{e:Expr}{ie:EV.E}{i:Nat}{st:Stmt}{te:TE}(hp:PS X st (jI te (ff i)))(hr:∀σ H Q,tE w g c E ie σ H Q->te σ H Q)(hlt:i<c.N.length)(hk:(zD c i/\fresh c ie=true/\c.frz=false)\/(¬ zD c i/\esc ie=true)):PS X st (tS w g c E fr (.set (.nm i) ie)):=
 PS.imp hp λD σ H ⟨H0,B,τ,S,ss,h⟩=>by
  simp only[cg,cB,cG,cC,zC,cA,zS,cc,cD,zR,zP,zY,cK,zZ,cF,cL,cJ,cH,store]at h;refine hr σ H _ (s_e ss h λd v H' _ p k=>?_);have k:∀σ' H2 S2,SS g c H0 B (τ.set i (some d)) σ' H2 S2->qg (hid H S) (hid H2 S2)->D.nx σ' H2:=k;rcases hk with ⟨ho,hf,hfz⟩|⟨ho,he⟩
  ·obtain⟨S',s1,s2⟩:=ss.setOwn hfz ho (by rw[ss.lenN];exact hlt) p.same (p.fr hf);exact k _ _ S' s1 s2
  ·exact k _ _ S ((ss.up p.same).set ho (p.st he)) (zp p.same)
theorem yH(O:XO w g c E X){tg e:Expr}{itg:Tg}{ie:EV.E}{pos:Pos}(he:PE X e (tE w g c E ie))(hg:PG X tg (gT X.K itg))(hf:iE c itg)(hes:esc ie=true)(hs:swapsWithSole [tg] e pos.line X.env=pure false)(hw:swappedStores [tg] e X.env=pure none)(h1:(assignEach [tg] X.env).map (·.2)=[assign tg X.env]) :
  PS X (.Assign [tg] e pos) (tS w g c E fr (.set itg ie)):=
 PS.imp (nD he hg hs hw h1) λD σ H ⟨H0,B,τ,S,ss,h⟩=>by
  simp only[cg,cB,cG,cC,zC,cA,zS,cc,cD,zR,zP,zY,cK,zZ,cF,cL,cJ,cH]at h;refine s_e ss h λd v H' _ p k=>?_
  cases q:store itg d τ with
  |ok τ'=>
   rw[q]at k;exact(ss.up p.same).store O.K hf (p.st hes) q λσ' s1=>k σ' H' S s1 (zp p.same)
  |ex z=>cases itg<;>simp only[store]at q<;>first|cases q|(split at q<;>first|cases q|(split at q<;>first|(exact absurd q (nQ))|cases q))
  |no=>rw[q]at k;exact k.elim
end
section
variable{w:W}{g:Gc}{c:Cc}{E:XK}{fr:Bool}{X:Cx}{H0:Hp}{B:Sh}{τ:Env}{σ:L2.St}{H H':Hp}{S:Sh}{Ed:Ends}
theorem nu{i:Nat}{d:EV.D}(h:bP τ i=.ok d):τ[i]? = some (some d):=by
 unfold bP at h;split at h
 ·rename_i q;cases h;exact q
 ·cases h
theorem xw(O:XO w g c E X)(hfz:c.frz=false){x:Str}{i:Nat}{a:Expr}{ia:EV.E}{p ap cp pos:Pos}(h:loc c x=some i)(ho:c.own.contains x=true)(ha:PE X a (tE w g c E ia))(hes:esc ia=true)(hs:isStar a=false)(hl:(ap.endLine==cp.line)=true) :
  PS X (.Expr (.Call (.Attribute (.Name x p) "append" ap) [a] [] cp) pos) (tS w g c E fr (.app i ia)):=by
 obtain⟨h1,h2,h3,h4⟩:=et h;have hv:PE X (.Name x p) (iA i):=jf (i:=i) (by rw[O.N];exact h1) (by unfold fN;rw[O.nm];exact h2) h3 h4;have hst:=qk (es:=[]) (env:=X.env) hs;have hb:=gv (X:=X) (apos:=ap) (cpos:=cp) PySem.F.plainAttrs_list PySem.F.slot_list_append PySem.F.type_list_append p9 hv (zr ha zK hst) rfl (by rw[hst];rfl) hl hst rfl;refine PS.imp (mC hb rfl) λD σ H ⟨H0,B,τ,S,ss,k⟩=>?_
 simp only[cg,cB,cG,cC,zC,cA,zS,cc,cD,zR,zP,zY,cK,zZ,cF,cL,cJ,cH]at k;cases q:bP τ i with
 |ex z=>unfold bP at q;split at q<;>cases q
 |no=>rw[q]at k;exact k.elim
 |ok d0=>
  rw[q]at k;have q':=nu q;have hi:zD c i:=⟨x,h1,ho⟩
  obtain⟨ad,vs,ds,z1,y1,rfl,y2,y3⟩:=ss.own i d0 hi q';refine⟨_,z1,.inl ⟨rfl,vs,SqL.of y2⟩,s_e ss k λd v H1 _ p1 k1=>?_⟩;simp only at k1;by_cases hz:ds.length<SZ
  ·rw[if_pos hz]at k1;have s1:=ss.up p1.same;have y2':=p1.same _ _ y2;obtain⟨s2,s3⟩:=s1.change (vs:=vs++[v]) (ds:=ds++[d]) hfz hi q' z1 ((y3.mono (zp p1.same)).append (.cons (p1.st hes) .nil));exact⟨ad,vs,v,rfl,rfl,y2',by rw[<-y3.length,bp];unfold SZ at hz;lia,k1 _ _ S s2 ((zp p1.same).trans s3)⟩
  ·rw[if_neg hz]at k1;exact k1.elim
theorem AS(O:XO w g c E X)(hfz:c.frz=false){x:Str}{i:Nat}{k e:Expr}{ik ie:EV.E}{p sp pos:Pos}(h:loc c x=some i)(ho:c.own.contains x=true)(hk:PE X k (tE w g c E ik))(he:PE X e (tE w g c E ie))(hes:esc ie=true)(hsl:isSlice k=false)(hc:eu e=false) :
  PS X (.Assign [.Subscript (.Name x p) k sp] e pos) (tS w g c E fr (.seti i ik ie)):=by
 obtain⟨h1,h2,h3,h4⟩:=et h;have hv:PE X (.Name x p) (iA i):=jf (i:=i) (by rw[O.N];exact h1) (by unfold fN;rw[O.nm];exact h2) h3 h4;have hg:PG X (.Subscript (.Name x p) k sp) (mi (iA i) (tE w g c E ik) rJ):=yV hv hk set_list (by intro v;cases k<;>first|rfl|(simp[isSlice]at hsl));refine PS.imp (nD he hg (by simp only[swapsWithSole];exact jj hc) rfl rfl) λD σ H ⟨H0,B,τ,S,ss,k⟩=>?_
 simp only[cg,cB,cG,cC,zC,cA,zS,cc,cD,zR,zP,zY,cK,zZ,cF,cL,cJ,cH]at k;refine s_e ss k λd v H1 _ p1 k1=>?_
 cases q:bP τ i with
 |ex z=>unfold bP at q;split at q<;>cases q
 |no=>rw[q]at k1;exact k1.elim
 |ok d0=>
  rw[q]at k1;have q':=nu q;have hi:zD c i:=⟨x,h1,ho⟩
  have s1:=ss.up p1.same;obtain⟨ad,vs,ds,z1,y1,rfl,y2,y3⟩:=s1.own i d0 hi q';refine⟨_,z1,s_e s1 (bQ.up k1 (zp p1.same)) λn vn H2 _ p2 k2=>?_⟩;cases n with
  |int j=>
   simp only at k2;cases qj:ixN ds.length j with
   |none=>rw[qj]at k2;exact k2.elim
   |some m=>
    rw[qj]at k2;have s2:=s1.up p2.same;have y2':=p2.same _ _ y2;obtain⟨s3,s4⟩:=s2.change (vs:=vs.set m v) (ds:=ds.set m d) hfz hi q' z1 ((y3.mono (zp p2.same)).set ((p1.st hes).mono (zp p2.same)) m);exact⟨ad,vs,j,m,rfl,p2.rb.int,y2',by rw[<-y3.length];exact qj,k2 _ _ S s3 ((zp p2.same).trans s4)⟩
  |_=>exact k2.elim
theorem BN:PSs X [] (tSs w g c E fr .nil):=PSs.imp xv λD σ H ⟨H0,B,τ,S,ss,h⟩=>by
 simp only[qf]at h;exact h σ H S ss (qg.refl _)
theorem oX{s:Stmt}{r:List Stmt}{is:EV.S}{ir:Ss}(h1:PS X s (tS w g c E fr is))(h2:PSs X r (tSs w g c E fr ir)):PSs X (s::r) (tSs w g c E fr (.cons is ir)):=
 PSs.imp (C_ h1 h2) λD σ H ⟨H0,B,τ,S,ss,h⟩=>by
  simp only[qf]at h;refine⟨H0,B,τ,S,ss,?_⟩;cases q:evS w is τ with
  |nx τ'=>rw[q]at h;exact λσ' H' S' s' e=>⟨H0,B,τ',S',s',bQ.up h e⟩
  |bk τ'=>rw[q]at h;exact h
  |ct τ'=>rw[q]at h;exact h
  |rt d=>rw[q]at h;exact h
  |ex k=>rw[q]at h;exact h
  |no=>rw[q]at h;exact h
theorem uo{t:Expr}{a b:List Stmt}{it:T}{ia ib:Ss}{pos:Pos}(ht:PT X t (tT w g c E it))(ha:PSs X a (tSs w g c E fr ia))(hb:PSs X b (tSs w g c E fr ib)):PS X (.If t a b pos) (tS w g c E fr (.ite it ia ib)):=
 PS.imp (CU ht ha hb) λD σ H ⟨H0,B,τ,S,ss,h⟩=>by
  simp only[cg,cB,cG,cC,zC,cA,zS,cc,cD,zR,zP,zY,cK,zZ,cF,cL,cJ,cH]at h;refine s_t ss h λz H1 _ s1 k1=>?_
  cases z with
  |true=>exact⟨H0,B,τ,S,ss.up s1,bQ.up k1 (zp s1)⟩
  |false=>exact⟨H0,B,τ,S,ss.up s1,bQ.up k1 (zp s1)⟩
theorem PS.nox'{st:Stmt}{t:TS}(h:PS X.nox st t):PS X st t:=λpins s σ H D I hw=>
 bI (h pins s σ H D (I.wish _) hw) (λ_ _ q=>q.unwish) λ_ _ z=>aS z
theorem XO.nox(O:XO w g c E X):XO w g c E0 X.nox:=⟨O.K,O.nm,O.N,O.nd,O.calm,O.units,O.fn,O.kind,kU rfl rfl,O.gok,O.fns,O.sub⟩
theorem XS.nox(O:XS w g c E X):XS w g c E0 X.nox:=⟨O.toXO.nox,λ_ _ _ _ _ _ _ _ _ _ _ z=>aS z,O.exc,O.cat,O.frm,O.gh⟩
theorem xC{o:O}(h:bQ g c E fr H0 B H S Ed o.noEx):bQ g c E0 fr H0 B H S Ed o/\(∀k,o≠.ex k)/\o≠.no:=by
 cases o with
 |ex k=>exact h.elim
 |no=>exact h.elim
 |nx t=>exact⟨h,(λ_ z=>by cases z),(λz=>by cases z)⟩
 |bk t=>exact⟨h,(λ_ z=>by cases z),(λz=>by cases z)⟩
 |ct t=>exact⟨h,(λ_ z=>by cases z),(λz=>by cases z)⟩
 |rt t=>exact⟨h,(λ_ z=>by cases z),(λz=>by cases z)⟩
noncomputable def frozen(c:Cc)(b:Bool):Cc:={c with frz:=c.frz||b}
theorem XS.froze(O:XS w g c E X){b:Bool}:XS w g (frozen c b) E X:=
 ⟨⟨O.K,O.nm,O.N,O.nd,O.calm,O.units,O.fn,O.kind,O.pass,O.gok,O.fns,O.sub⟩,O.thr,O.exc,O.cat,O.frm,O.gh⟩
noncomputable def dQ(B:Sh)(b:Bool)(σ:L2.St)(H:Hp):Sh:=if b=true then ⟨B.o,B.h,σ,H⟩else B
theorem kM{b:Bool}:(dQ B b σ H).h=B.h:=by unfold dQ;split<;>rfl
theorem Ba{b:Bool}{H1:Hp}:hid H1 (dQ B b σ H)=hid H1 B:=by funext a;unfold hid;rw[kM]
theorem SS.froze(b:Bool)(ss:SS g c H0 B τ σ H S):SS g (frozen c b) H0 (dQ B b σ H) τ σ H S:=by
 refine⟨⟨ss.se.len,ss.se.val,ss.se.sub⟩,ss.lenN,ss.same,?_,?_,ss.new,ss.own,ss.inj,λz=>?_⟩
 ·unfold dQ;split
  ·exact ss.sub0
  ·exact ss.sub0
 ·rw[kM];exact ss.hd
 ·cases b with
  |true=>exact⟨λi _=>rfl,qg.refl _⟩
  |false=>
   have z:(c.frz||false)=true:=z;rw[Bool.or_false]at z;exact ss.frz z
theorem SS.thaw{b:Bool}{σ1:L2.St}{H1:Hp}{τ1:Env}{S1:Sh}(s0:SS g c H0 B τ1 σ1 H1 S1)(ss:SS g (frozen c b) H0 (dQ B b σ1 H1) τ σ H S):SS g c H0 B τ σ H S:=by
 refine⟨⟨ss.se.len,ss.se.val,ss.se.sub⟩,ss.lenN,ss.same,s0.sub0,?_,ss.new,ss.own,ss.inj,λz=>?_⟩
 ·have:=ss.hd;rw[kM]at this;exact this
 ·have f:=ss.frz (by show (c.frz||b)=true;rw[z];rfl);cases b with
  |true=>exact⟨λi hi=>(f.1 i hi).trans ((s0.frz z).1 i hi),(s0.frz z).2.trans f.2⟩
  |false=>exact f
theorem SS.iced{b:Bool}{σ1:L2.St}{H1:Hp}(hb:b=true)(ss:SS g (frozen c b) H0 (dQ B b σ1 H1) τ σ H S):qg H1 H:=by
 subst hb;exact(ss.frz (by show (c.frz||true)=true;rw[Bool.or_true])).2
theorem sX(O:XO w g c E X)(hc:X.calm=true){tg it:Expr}{b:List Stmt}{itg:Tg}{iit:It}{ib:Ss}{pos:Pos}(hi:PI X.nox tg it (tIt w g c E0 iit))(hg:PG X.nox tg (gT X.K itg))(hf:iE c itg)(hb:PSs X.nox b (tSs w g (frozen c (owned iit)) E0 fr ib))(hs:zv it=true) :
  PS X (.For tg it b [] pos) (tS w g c E fr (.for itg iit ib)):=by
 refine PS.nox' (PS.imp (DJ (X:=X.nox) PassesOwn.never hc hi hg hb (λx=>by cases it<;>first|rfl|(simp[zv]at hs))) λD σ H ⟨H0,B,τ,S,ss,h⟩=>?_);simp only[cg,cB,cG,cC,zC,cA,zS,cc,cD,zR,zP,zY,cK,zZ,cF,cL,cJ,cH]at h;obtain⟨h,nex,nno⟩:=xC h;cases q:evI w iit τ with
 |ex z=>rw[q]at nex;exact absurd rfl (nex z)
 |no=>rw[q]at nno;exact absurd rfl nno
 |ok ds=>
  rw[q]at h nex nno;simp only[R.out_ok]at h nex nno;refine⟨τ,S,ss.se,?_⟩;rw[q];intro J H1 s1 kW kS;generalize hr:cy itg (λσ=>qf w ib σ) ds τ=r at h nex nno;refine⟨λi m σ' H'=>m=ds.length-i/\i<=ds.length/\∃τ' S',SS g (frozen c (owned iit)) H0 (dQ B (owned iit) σ H1) τ' σ' H' S'/\qg (hid H1 S) (hid H' S')/\cy itg (λσ=>qf w ib σ) (ds.drop i) τ'=r,⟨ds.length,rfl,bH _,τ,S,(ss.up s1).froze _,qg.refl _,hr⟩,?_⟩;rintro i m σ' H' ⟨rfl,hi',τ',S',ss',e',hl⟩;have gg:Goes g J ds H' S':=by
   cases hw:owned iit with
   |false=>exact kS hw H' S' e' ss'.se.sub
   |true=>exact kW H' S' (ss'.iced hw) e' ss'.se.sub
  obtain⟨g1,g2⟩:=gg;have eH:qg (hid H S) (hid H' S'):=(zp s1).trans e';by_cases hlt:i<ds.length
  ·have hd:ds[i]? = some ds[i]:=List.getElem?_eq_getElem hlt;obtain⟨go1,go2⟩:=g2 i ds[i] hd;refine .inr ⟨go1,λσ2 H2=>∃τ' S',SS g (frozen c (owned iit)) H0 (dQ B (owned iit) σ H1) τ' σ2 H2 S'/\qg (hid H1 S) (hid H2 S')/\cy itg (λσ=>qf w ib σ) (ds.drop (i+1)) τ'=r,λσ2 H2 z=>⟨ds.length-(i+1),by lia,rfl,hlt,z⟩,λx H2 hy=>?_⟩;obtain⟨s2,rx⟩:=go2 x H2 hy;rw[List.drop_eq_getElem_cons hlt]at hl;simp only[cy]at hl;cases q1:store itg ds[i] τ' with
   |ex z=>rw[q1]at hl;exact absurd hl.symm (nex z)
   |no=>rw[q1]at hl;exact absurd hl.symm nno
   |ok τ1=>
    rw[q1]at hl;simp only[R.out_ok]at hl;refine(ss'.up s2).store O.K hf rx q1 λσ1 ss1=>⟨H0,_,τ1,S',ss1,?_⟩
    cases q2:qf w ib τ1 with
    |nx τ2=>rw[q2]at hl;exact λσ2 H3 S3 s3 e3=>⟨τ2,S3,s3,(e'.trans (zp s2)).trans e3,hl⟩
    |ct τ2=>rw[q2]at hl;exact λσ2 H3 S3 s3 e3=>⟨τ2,S3,s3,(e'.trans (zp s2)).trans e3,hl⟩
    |bk τ2=>
     rw[q2]at hl;simp only at hl;rw[<-hl]at h;exact λσ2 H3 S3 s3 e3=>h σ2 H3 S3 ((ss.up s1).thaw s3) ((eH.trans (zp s2)).trans e3)
    |rt d=>
     rw[q2]at hl;simp only at hl;rw[<-hl]at h;refine λv H3 s3 r3 f3=>h v H3 s3 (by rw[Ba]at r3;exact r3) λz=>?_
     have f3:=f3 z;unfold dQ at f3;split at f3
     ·exact f3
     ·exact f3
    |ex z=>rw[q2]at hl;exact absurd hl.symm (nex z)
    |no=>rw[q2]at hl;exact absurd hl.symm nno
  ·have e:i=ds.length:=by lia
   subst e;rw[List.drop_length]at hl;simp only[cy]at hl;rw[<-hl]at h;exact .inl ⟨g1 ds.length (az _),h σ' H' S' ((ss.up s1).thaw ss') eH⟩
theorem vF{t:Expr}{b:List Stmt}{it:T}{ib:Ss}{pos:Pos}(ht:PT X.nox t (tT w g c E0 it))(hb:PSs X.nox b (tSs w g c E0 fr ib)):PS X (.While t b [] pos) (tS w g c E fr (.while it ib)):=λpins s σ H D I ⟨H0,B,τ,S,ss,h⟩=>by
 simp only[cg,cB,cG,cC,zC,cA,zS,cc,cD,zR,zP,zY,cK,zZ,cF,cL,cJ,cH]at h;exact aS h
theorem BC(O:XS w g c E X)(hc:X.calm=true)(ht:c.thr=true){x:Str}{a:Expr}{as:List Expr}{ies:Es}{np cp pos:Pos}{n:Nat}(h:glob c x=some .exc)(ha:PA X (a::as) (tA w g c E ies))(hes:cEs n c (a::as)=some ies)(hn:(a::as).length<=100000) :
  PS X (.Raise (some (.Call (.Name x np) (a::as) [] cp)) none pos) (tS w g c E fr (.raise x ies)):=by
 obtain⟨C,h1,h2⟩:=O.gm h;have hs:=eU hes;refine PS.imp (Cf hc (O.thr ht) (by rw[O.K];exact O.exc x C (qX h).2.1 h2) (O.gl h) h1 ha (qX h).2.2.1 (qk (hs a aK)) (iJ λz hz=>hs z (aJ _ hz))) λD σ H ⟨H0,B,τ,S,ss,k⟩=>?_
 simp only[cg,cB,cG,cC,zC,cA,zS,cc,cD,zR,zP,zY,cK,zZ,cF,cL,cJ,cH]at k;refine s_a ss k λds vs H1 e1 s1 r k1=>⟨?_,k1 H1 C (ss.same.trans s1) h2⟩
 have:vs.length=ds.length:=(Paired.length r).symm;rw[this,iP hes e1];exact kZ hn
end
section
variable{w:W}{g:Gc}{c:Cc}{E:XK}{fr:Bool}{X:Cx}{H0:Hp}{B:Sh}{τ:Env}{σ:L2.St}{H H':Hp}{S:Sh}{Ed:Ends}
theorem wg{s:Stmt}:PS X s (tS w g c E fr .unk):=λpins s σ H D I ⟨H0,B,τ,S,ss,h⟩=>by
 simp only[cg,cB,cG,cC,zC,cA,zS,cc,cD,zR,zP,zY,cK,zZ,cF,cL,cJ,cH]at h;exact h.elim
theorem tj(O:XO w g c E X)(hfz:c.frz=false){x:Str}{i:Nat}{k a:Expr}{ik ia:EV.E}{p ap cp pos:Pos}(h:loc c x=some i)(ho:c.own.contains x=true)(hk:PE X k (tE w g c E ik))(ha:PE X a (tE w g c E ia))(hes:esc ia=true)(hsk:isStar k=false)(hs:isStar a=false)(hl:(ap.endLine==cp.line)=true) :
  PS X (.Expr (.Call (.Attribute (.Name x p) "insert" ap) [k,a] [] cp) pos) (tS w g c E fr (.ins i ik ia)):=λpins s σ H D I ⟨H0,B,τ,S,ss,h⟩=>by
 simp only[cg,cB,cG,cC,zC,cA,zS,cc,cD,zR,zP,zY,cK,zZ,cF,cL,cJ,cH]at h;exact aS h
theorem SS.cong{c':Cc}(hN:c'.N=c.N)(ho:c'.own=c.own)(hz:c'.frz=c.frz)(s:SS g c H0 B τ σ H S):SS g c' H0 B τ σ H S:=by
 cases c;cases c';simp only at hN ho hz;subst hN ho hz;exact⟨⟨s.se.len,s.se.val,s.se.sub⟩,s.lenN,s.same,s.sub0,s.hd,s.new,s.own,s.inj,s.frz⟩
theorem mI{i:Option Nat}{k:Str}:(cz τ i k).length=τ.length:=by
 cases i<;>simp[cz]
theorem SS.hand{σ':L2.St}{k:Str}{i:Option Nat}(ss:SS g c H0 B τ σ H S)(hz:c.frz=false)(he:c.own=[])(hs:qg H0 H')(hl:σ'.length=c.N.length)(hv:∀(j:Nat) (d:EV.D),(cz τ i k)[j]? = some (some d)->∃v,σ'[j]? = some (some v)/\Rep g (hid H' B) d v) :
  SS g (gI c) H0 B (cz τ i k) σ' H' ⟨λ_=>false,B.h,B.z,B.y⟩:=by
 have hh:hid H' ⟨λ_=>false,B.h,B.z,B.y⟩=hid H' B:=rfl;have no:∀j,¬ zD (gI c) j:=λj ⟨x,_,h2⟩=>by
  have h2:c.own.contains x=true:=h2;rw[he]at h2;cases h2
 refine⟨⟨by rw[mI,ss.lenN,hl],λj d h=>?_,λa ha=>?_⟩,by rw[mI];exact ss.lenN,hs,ss.sub0,(λa=>by simp),(λa ha=>by cases ha),λj d hj=>(no j hj).elim,λj _ d _ a hj=>(no j hj).elim,(λz=>by have z:c.frz=true:=z;rw[hz]at z;cases z)⟩
 ·obtain⟨v,h1,h2⟩:=hv j d h;exact⟨v,h1,.inl h2,λ_ _ _=>h2⟩
 ·refine(ss.sub0.same hs) a ?_;rcases ha with ha|ha
  ·exact .inl ha
  ·cases ha
noncomputable def EhT(w:W)(g:Gc)(b:Ss)(τ:Env)(H0:Hp):XK:=λcls o H'=>∃k C,cls=.ref C/\o=none/\g.clA k=some C/\qf w b τ=.ex k/\qg H0 H'
theorem q_{ib:Ss}{x:Str}{i:Option Nat}{ih:Ss}{c':Cc}(hN:c'.N=c.N)(ho:c'.own=c.own)(hz:c'.frz=c.frz)(h:bQ g c E fr H0 B H S Ed (evS w (.try ib x i ih) τ)):bQ g c' (EhT w g ib τ H0) fr H0 B H S Ed (qf w ib τ):=by
 simp only[cg,cB,cG,cC,zC,cA,zS,cc,cD,zR,zP,zY,cK,zZ,cF,cL,cJ,cH]at h;have c1:∀{τ':Env}{σ':L2.St}{H':Hp}{S':Sh},SS g c' H0 B τ' σ' H' S'->SS g c H0 B τ' σ' H' S':=λs=>s.cong hN.symm ho.symm hz.symm
 cases q:qf w ib τ with
 |nx τ'=>rw[q]at h;exact λσ' H' S' s e=>h σ' H' S' (c1 s) e
 |bk τ'=>rw[q]at h;exact λσ' H' S' s e=>h σ' H' S' (c1 s) e
 |ct τ'=>rw[q]at h;exact λσ' H' S' s e=>h σ' H' S' (c1 s) e
 |rt d=>rw[q]at h;exact h
 |ex k=>exact λH' C s hc=>⟨k,C,rfl,rfl,hc,q,s⟩
 |no=>rw[q]at h;exact h
theorem oV{ib ih:Ss}{x:Str}{i:Option Nat}{k:Str}(h:bQ g c E false H0 B H S Ed (evS w (.try ib x i ih) τ))(q:qf w ib τ=.ex k):w.cat k x=true/\∃d,qf w ih (cz τ i k)=.rt d/\∀v H',qg H0 H'->Rep g (hid H' B) d v->Ed.rt v H':=by
 simp only[cg,cB,cG,cC,zC,cA,zS,cc,cD,zR,zP,zY,cK,zZ,cF,cL,cJ,cH]at h;rw[q]at h;simp only at h;split at h
 ·rename_i hc
  refine⟨hc,?_⟩;cases z:qf w ih (cz τ i k)with
  |rt d=>rw[z]at h;exact⟨d,rfl,λv H' s r=>h v H' s r (by intro y;cases y)⟩
  |nx _=>rw[z]at h;exact h.elim
  |bk _=>rw[z]at h;exact h.elim
  |ct _=>rw[z]at h;exact h.elim
  |ex _=>rw[z]at h;exact h.elim
  |no=>rw[z]at h;exact h.elim
 ·exact h.elim
theorem XS.inTry(O:XS w g c E X){Eh:XK}{pn:List (Addr×Obj)}{Et:ae->af->Prop}(hp:Passes (CX1 X.prog X.w) (X.inTry pn Et) Eh):XS w g {c with thr:=false} Eh (X.inTry pn Et):=
 ⟨⟨O.K,O.nm,O.N,O.nd,O.calm,O.units,O.fn,O.kind,hp,O.gok,O.fns,O.sub⟩,(λz=>by cases z),O.exc,O.cat,O.frm,O.gh⟩
theorem XS.held(O:XS w g c E X)(x:Addr):XS w g (gI c) E0 (X.held x):=
 ⟨⟨O.K,O.nm,O.N,O.nd,(λz=>by cases z),O.units,O.fn,O.kind,kU rfl rfl,(λy k z=>(O.gh y k z).2 _),(λz=>by cases z),O.sub⟩,(λz=>by cases z),(λy C z _=>absurd rfl (O.gh y .exc z).1),O.cat,O.frm,(λy k z=>by cases z)⟩
theorem vL(O:XS w g c E X){x:Str}{b:List Stmt}{b₀:Stmt}{suite:List Stmt}{ib ih:Ss}{np hpos pos:Pos}(hfz:c.frz=false)(he:c.own=[])(hg:glob c x=some .exc\/glob c x=some .exk)
  (hb:∀(Eh:XK) pn Et,XS w g {c with thr:=false} Eh (X.inTry pn Et)->PSs (X.inTry pn Et) b (tSs w g {c with thr:=false} Eh false ib)) (hs:∀y,PSs (X.held y) (b₀::suite) (tSs w g (gI c) E0 false ih)) :
  PS X (.Try b [.ExceptHandler (some (.Name x np)) none (b₀::suite) hpos] [] [] pos) (tS w g c E false (.try ib x none ih)):=by
 have hG:∃C,X.mg x=some (.ref C)/\g.clA x=some C/\Gl X x/\(x==("__debug__" : Str))=false:=by
  rcases hg with h|h
  ·obtain⟨C,h1,h2⟩:=O.gm h;exact⟨C,h1,h2,O.gl h,(qX h).2.2.1⟩
  ·obtain⟨C,h1,h2⟩:=O.gm h;exact⟨C,h1,h2,O.gl h,(qX h).2.2.1⟩
 obtain⟨C,hm,hc,hgl,hd⟩:=hG;intro pins s σ H D I ⟨H0,B,τ,S,ss,h⟩;refine uP (Eh:=EhT w g ib τ H0) O.frm.1 O.frm.2.1 O.frm.2.2 hgl hm (λpn Et hp=>hb _ pn Et (O.inTry hp)) hs hd pins s σ H D I ⟨⟨H0,B,τ,S,SS.cong (c:=c) rfl rfl rfl ss,q_ (c:=c) rfl rfl rfl h⟩,λσ' cls H' hl hE=>?_⟩;obtain⟨k,C',rfl,_,hk,q,sm⟩:=hE;obtain⟨z1,d,z2,z3⟩:=oV h q;refine⟨by rw[O.K];exact O.cat k x z1 C' C hk hc,H0,B,cz τ none k,⟨λ_=>false,B.h,B.z,B.y⟩,ss.hand hfz he sm (by rw[hl,O.N]) (λj d hj=>?_),?_⟩
 ·simp only[cz,List.getElem?_map]at hj;cases z:τ[j]? with
  |none=>rw[z]at hj;cases hj
  |some o=>rw[z]at hj;cases hj
 ·rw[z2];exact λv H'' s' r _=>z3 v H'' s' r
theorem Ds(O:XS w g c E X){x n:Str}{i:Nat}{b:List Stmt}{b₀:Stmt}{suite:List Stmt}{ib ih:Ss}{np hpos pos:Pos}(hfz:c.frz=false)(he:c.own=[])(hg:glob c x=some .exc\/glob c x=some .exk)(hi:c.N[i]? = some n)(hn:c.nm.lookup n=some .local)
  (hb:∀(Eh:XK) pn Et,XS w g {c with thr:=false} Eh (X.inTry pn Et)->PSs (X.inTry pn Et) b (tSs w g {c with thr:=false} Eh false ib)) (hs:∀y,PSs (X.held y) (b₀::suite) (tSs w g (gI c) E0 false ih)) :
  PS X (.Try b [.ExceptHandler (some (.Name x np)) (some n) (b₀::suite) hpos] [] [] pos) (tS w g c E false (.try ib x (some i) ih)):=by
 have hG:∃C,X.mg x=some (.ref C)/\g.clA x=some C/\Gl X x/\(x==("__debug__" : Str))=false:=by
  rcases hg with h|h
  ·obtain⟨C,h1,h2⟩:=O.gm h;exact⟨C,h1,h2,O.gl h,(qX h).2.2.1⟩
  ·obtain⟨C,h1,h2⟩:=O.gm h;exact⟨C,h1,h2,O.gl h,(qX h).2.2.1⟩
 obtain⟨C,hm,hc,hgl,hd⟩:=hG;intro pins s σ H D I ⟨H0,B,τ,S,ss,h⟩;have hlt:i<c.N.length:=(List.getElem?_eq_some_iff.mp hi).1;refine tQ (Eh:=EhT w g ib τ H0) (i:=i) O.frm.1 O.frm.2.1 O.frm.2.2 (by rw[O.N];exact O.nd) (by rw[O.N];exact hi) (by rw[O.nm];exact hn) hgl hm (λpn Et hp=>hb _ pn Et (O.inTry hp)) hs hd pins s σ H D I ⟨⟨H0,B,τ,S,SS.cong (c:=c) rfl rfl rfl ss,q_ (c:=c) rfl rfl rfl h⟩,λσ' cls H' x' hl hE hx=>?_⟩;obtain⟨k,C',rfl,_,hk,q,sm⟩:=hE;obtain⟨z1,d,z2,z3⟩:=oV h q;have s2:qg H' (upd H' x' (gF x' (.ref C'))):=zo hx;refine⟨by rw[O.K];exact O.cat k x z1 C' C hk hc,H0,B,cz τ (some i) k,⟨λ_=>false,B.h,B.z,B.y⟩,ss.hand hfz he (sm.trans s2) (by rw[List.length_set,hl,O.N]) (λj d hj=>?_),?_⟩
 ·simp only[cz]at hj;have hi':i<σ'.length:=by rw[hl,O.N];exact hlt
  by_cases hij:i=j
  ·subst hij;have hlt':i<(τ.map λ_=>(none:Option EV.D)).length:=by rw[aV,ss.lenN];exact hlt
   rw[List.getElem?_set_self hlt']at hj;cases hj;refine⟨.ref x',by rw[List.getElem?_set_self hi'],.exn hk (bO.mpr ⟨ss.sub0.free (sm.free hx),zu⟩)⟩
  ·rw[List.getElem?_set_ne hij,List.getElem?_map]at hj;cases z:τ[j]? with
   |none=>rw[z]at hj;cases hj
   |some o=>rw[z]at hj;cases hj
 ·rw[z2];exact λv H'' s' r _=>z3 v H'' s' r
end
theorem Ap{e:Expr}{x:Str}{ap cp:Pos}{k a:Expr}(h:ph e=some (x,ap,k,a,cp)):∃p,e=.Call (.Attribute (.Name x p) "insert" ap) [k,a] [] cp:=by cases h
theorem xq{ts:List Expr}{k:Nat}{p:Pos}{e:Expr}{env:PySem.Env}(h:isTup e=true->kN e=true):swappedStores [.Tuple ts k p] e env=pure none:=by
 cases e<;>first|rfl|skip
 rename_i vs k2 p2
 have h:vs.all (foldedForSure 8)=true:=h rfl;unfold swappedStores;simp only[h,if_true];split
 ·rfl
 ·split
  ·rfl
  ·split
   ·rfl
   ·rfl
section
variable{w:W}{g:Gc}{c:Cc}{E:XK}{fr:Bool}{X:Cx}
theorem vE(O:XO w g c E X){n:Nat}(hn:n<=100000){x:Str}{i:Nat}{elt:Expr}{gs:List b_}{sc:aO}{p p' pos:Pos}{ie:EV.E}(hl:de c x=some i)(h:cE n c (.ListComp elt gs sc p)=some ie)(htw:kn (.ListComp elt gs sc p)=false)(hk:(zD c i/\fresh c ie=true/\c.frz=false)\/(¬ zD c i/\esc ie=true)) :
  PS X (.Assign [.Name x p'] (.ListComp elt gs sc p) pos) (tS w g c E fr (.set (.nm i) ie)):=by
 obtain⟨l1,l2⟩:=eN hl;obtain⟨l3,_⟩:=et l1;have hlt:i<c.N.length:=(List.getElem?_eq_some_iff.mp l3).1;have hN:X.N.Nodup:=by rw[O.N];exact O.nd
 have hix:X.N[i]? = some x:=by rw[O.N];exact l3
 have hx:L2.Loc X.env.scope x:=by unfold L2.Loc;rw[O.nm];rcases l2 with z|z;exact .inl z;exact .inr z.1
 have hf:X.fn x=true\/X.env.scope.names.lookup x=some .local:=by
  rcases l2 with z|z
  ·exact .inr (by rw[O.nm];exact z)
  ·exact .inl (O.fn x z.2)
 cases hb:(X.env.blockKind==.function&&X.env.kindOf x==some .local&&p'.line==p.line && !(sc.names.any λ(n,k)=>n==x&&(k==.local||k==.cell)))with
 |false=>
  have hs:swapsWith (.ListComp elt gs sc p) (some (.Name x p')) pos.line X.env=pure false:=by rw[<-hb];rfl
  exact kf (e:=.ListComp elt gs sc p) (rp hN hix hx ((snd n hn).e O h) hs hf) (λ_ _ _ z=>z) hlt hk
 |true=>
  have hs:swapsWith (.ListComp elt gs sc p) (some (.Name x p')) pos.line X.env=pure true:=by rw[<-hb];rfl
  match n,h with
  | 0,h=>cases h
  |m+1,h=>
   have ih:=snd (w:=w) (g:=g) m (Nat.le_of_succ_le hn);obtain⟨tgt,it,ifs,iit,itg,it',ie',rfl,hs1,hk1,h1,h2,h3,h4,he,rfl⟩:=p7 h;have hS:dC X (bR sc.names) (fL c sc.names) sc:=dC.of (by
    have e1:(λx=>c.nm.lookup x)=X.env.kindOf:=by funext x;show _=X.env.scope.names.lookup x;rw[O.nm]
    rw[<-e1,O.N];exact hk1.1)
   refine kf (e:=.ListComp elt [⟨tgt,it,ifs,0⟩] sc p) (yh (tb:=λacc=>jL acc (tE w g (c_ c sc) E0 ie')) hN hix hx (O.calm hs1.1) hS (ih.i O h1 he.2) (λcl C s₀ H₀ fp=>?_) (by simp) hs hf (λx=>by
    have q:=hs1.2;cases it<;>first|rfl|cases q)) (λσ H Q q=>pN O hS he.1 q) hlt hk
   have OY:=O.comp hS.kind hk1.2 cl C s₀ H₀ fp;exact⟨jx OY h2,ih.ifs OY h3,λacc=>nT rfl (ih.e OY h4)⟩
end
structure iC(w:W)(g:Gc)(n:Nat):Prop where
 s:∀{c:Cc}{E:XK}{X:Cx} (O:XS w g c E X) {fr:Bool}{x:Stmt}{ir:EV.S},cS n c fr x=some ir->PS X x (tS w g c E fr ir)
 ss:∀{c:Cc}{E:XK}{X:Cx} (O:XS w g c E X) {fr:Bool}{x:List Stmt}{ir:Ss},cSs n c fr x=some ir->PSs X x (tSs w g c E fr ir)
section
variable{w:W}{g:Gc}{n:Nat}
theorem iC.ss_succ(ih:iC w g n){c:Cc}{E:XK}{X:Cx}(O:XS w g c E X){fr:Bool}{x:List Stmt}{ir:Ss}(h:cSs (n+1) c fr x=some ir):PSs X x (tSs w g c E fr ir):=by
 match x with
 | []=>simp only[cSs,bJ]at h;subst h;exact BN
 |s::r=>
  simp only[cSs,aE,aD]at h;obtain⟨ir',h2,h⟩:=h;cases h;cases h1:cS n c fr s with
  |none=>exact oX wg (ih.ss O h2)
  |some is=>exact oX (ih.s O h1) (ih.ss O h2)
theorem yo{c:Cc}{x:Str}{i:Nat}(h:c.N[i]? = some x):zD c i↔c.own.contains x=true:=⟨λ⟨y,h1,h2⟩=>by rw[h]at h1;cases h1;exact h2,λh2=>⟨x,h,h2⟩⟩
theorem rX{e:Expr}{x m:Str}{ap cp:Pos}{a:Expr}(h:kg e=some (x,m,ap,a,cp)):∃p,e=.Call (.Attribute (.Name x p) m ap) [a] [] cp:=by
 unfold kg at h;split at h
 ·split at h
  ·split at h
   ·split at h
    ·split at h
     ·rename_i hk;cases h;rw[List.isEmpty_iff]at hk;subst hk;exact⟨_,rfl⟩
     ·cases h
    ·cases h
   ·cases h
  ·cases h
 ·cases h
theorem wH{e:Expr}{x:Str}{a:Expr}{as:List Expr}(h:raiseOf e=some (x,a,as)):∃p q,e=.Call (.Name x p) (a::as) [] q:=by
 unfold raiseOf at h;split at h
 ·split at h
  ·split at h
   ·split at h
    ·rename_i hk;cases h;rw[List.isEmpty_iff]at hk;subst hk;exact⟨_,_,rfl⟩
    ·cases h
   ·cases h
  ·cases h
 ·cases h
theorem iC.s_succ(ih:iC w g n)(hn:n<=100000){c:Cc}{E:XK}{X:Cx}(O:XS w g c E X){fr:Bool}{x:Stmt}{ir:EV.S}(h:cS (n+1) c fr x=some ir):PS X x (tS w g c E fr ir):=by
 have K:=snd (w:=w) (g:=g) n hn;unfold cS at h;split at h
 ·rename_i ts0 e pos
  split at h
  ·rename_i t0
   split at h
   ·-- x = e
    rename_i y p
    split at h
    ·cases h
    rename_i htw
    have htw:kn e=false:=by simpa using htw
    simp only[aE,aD]at h;obtain⟨i,hl,ie,h1,h⟩:=h;obtain⟨l1,l2⟩:=eN hl;obtain⟨l3,_⟩:=et l1;have ho:=yo l3;have hk:((zD c i/\fresh c ie=true/\c.frz=false)\/(¬ zD c i/\esc ie=true))/\ir=.set (.nm i) ie:=by
     split at h
     ·rename_i hy
      split at h
      ·rename_i hf;cases h;exact⟨.inl ⟨ho.mpr hy,by simpa using hf⟩,rfl⟩
      ·cases h
     ·rename_i hy
      split at h
      ·rename_i hf;cases h;exact⟨.inr ⟨λz=>hy (ho.mp z),hf⟩,rfl⟩
      ·cases h
    obtain⟨hk,rfl⟩:=hk;cases hc:eu e with
    |false=>
     refine kf (e:=e) (rp (i:=i) (by rw[O.N];exact O.nd) (by rw[O.N];exact l3) (by unfold L2.Loc;rw[O.nm];rcases l2 with z|z;exact .inl z;exact .inr z.1) (K.e O.toXO h1) (jj hc) ?_) (λ_ _ _ z=>z) (List.getElem?_eq_some_iff.mp l3).1 hk;rcases l2 with z|z
     ·exact .inr (by rw[O.nm];exact z)
     ·exact .inl (O.fn y z.2)
    |true=>
     cases e with
     |ListComp elt gs sc p=>exact vE O.toXO hn hl h1 htw hk
     |SetComp elt gs sc p=>match n,h1 with
      | 0,h1=>cases h1
      |m+1,h1=>cases h1
     |DictComp a b gs sc p=>match n,h1 with
      | 0,h1=>cases h1
      |m+1,h1=>cases h1
     |_=>cases hc
   ·-- (a, b) = e
    rename_i ts k p
    simp only[aE,aD]at h;obtain⟨tg,h1,ie,h2,h⟩:=h;split at h
    ·cases h
    ·rename_i hc
     have hc:((isTup e=true->kN e=true)/\eu e=false)/\esc ie=true:=by simpa using hc
     cases h;refine yH O.toXO (K.e O.toXO h2) (jx O.toXO h1) (oj h1) hc.2 (by simp only[swapsWithSole];exact jj hc.1.2) ?_ rfl;exact xq hc.1.1
   ·-- x[k] = e
    split at h
    ·simp only[aE,aD]at h;obtain⟨i,hl,ie,h1,ik,h2,h⟩:=h;split at h
     ·rename_i hc
      simp only[aH,br]at hc;cases h;exact AS O.toXO hc.2 (eN hl).1 hc.1.1.1.1 (K.e O.toXO h2) (K.e O.toXO h1) hc.1.1.1.2 hc.1.1.2 hc.1.2
     ·cases h
    ·cases h
   ·cases h
  ·cases h
 ·split at h
  ·-- x.insert(k, a)
   rename_i he
   obtain⟨p,rfl⟩:=Ap he;simp only[aE,aD]at h;obtain⟨i,hl,ik,h0,ia,h1,h⟩:=h;split at h
   ·rename_i hc
    simp only[aH,br,beq_iff_eq]at hc;cases h;obtain⟨⟨⟨⟨⟨c2,c3⟩,c4⟩,c5⟩,c6⟩,c7⟩:=hc;exact tj O.toXO c7 (eN hl).1 c2 (K.e O.toXO h0) (K.e O.toXO h1) c3 c4 c5 (by simpa using c6)
   ·cases h
  split at h
  ·-- x.append(a)
   rename_i he
   obtain⟨p,rfl⟩:=rX he;simp only[aE,aD]at h;obtain⟨i,hl,ia,h1,h⟩:=h;split at h
   ·rename_i hc
    simp only[aH,br,beq_iff_eq]at hc;cases h;obtain⟨⟨⟨⟨⟨rfl,c2⟩,c3⟩,c4⟩,c5⟩,c6⟩:=hc;exact xw O.toXO c6 (eN hl).1 c2 (K.e O.toXO h1) c3 c4 (by simpa using c5)
   ·cases h
  ·split at h
   ·cases h
   ·rename_i hc
    simp only[aE,aD]at h;obtain⟨ie,h1,h⟩:=h;cases h;exact xi (K.e O.toXO h1) (by simpa using hc)
 ·split at h
  ·-- return e
   rename_i e
   simp only[aE,aD]at h;obtain⟨ie,h1,h⟩:=h;split at h
   ·rename_i hf
    split at h
    ·rename_i y p
     split at h
     ·rename_i ho
      simp only[a_]at h;obtain⟨i,hl,rfl⟩:=h;exact uE O.toXO hl ho
     ·cases h
    ·split at h
     ·rename_i hfr
      cases h;exact rz (K.e O.toXO h1) λ_=>hfr
     ·cases h
   ·rename_i hf
    cases h;exact rz (K.e O.toXO h1) λz=>absurd z hf
  ·split at h
   ·cases h
   ·rename_i hf
    cases h;exact yr (by simpa using hf)
 ·simp only[aE,aD]at h;obtain⟨it,h1,ia,h2,ib,h3,h⟩:=h;cases h;exact uo (K.t O.toXO h1) (ih.ss O h2) (ih.ss O h3)
 ·split at h
  ·cases h
  ·rename_i tg0 it0 b0 els0 pos0 hc
   have hc:(els0=[]/\c.calm=true)/\zv it0=true:=by simpa using hc
   obtain⟨⟨rfl,hc1⟩,hc2⟩:=hc;simp only[aE,aD]at h;obtain⟨tg,h1,it,h2,h⟩:=h;split at h
   ·cases h
   ·rename_i ho
    have ho:fM it tg0=true:=by simpa using ho
    simp only[aD]at h;obtain⟨ib,h3,h⟩:=h;cases h;exact sX O.toXO (O.calm hc1) (K.i O.toXO.nox h2 ho) (jx O.toXO.nox h1) (oj h1) (ih.ss O.nox.froze h3) hc2
 ·split at h
  ·cases h
  ·rename_i els0 _ hc
   have hc:els0=[]/\c.calm=true:=by simpa using hc
   obtain⟨rfl,hc⟩:=hc;simp only[aE,aD]at h;obtain⟨it,h1,ib,h2,h⟩:=h;cases h;exact vF (K.t O.toXO.nox h1) (ih.ss O.nox h2)
 ·split at h
  ·split at h
   ·rename_i hr
    obtain⟨p0,q0,rfl⟩:=wH hr;split at h
    ·cases h
    ·rename_i hc
     simp only[bE,br,not_or,Bool.not_eq_false,Option.isNone_iff_eq_none]at hc;obtain⟨⟨rfl,hc1⟩,hc2⟩:=hc;split at h
     ·rename_i hg
      simp only[aE,aD]at h;obtain⟨ies,h1,h⟩:=h;cases h;exact BC O (O.calm hc1) hc2 hg (K.es O.toXO h1) h1 (aX (jn h1) hn)
     ·cases h
   ·cases h
  ·cases h
 ·-- try
  split at h
  ·split at h
   ·rename_i b0 els0 fin0 pos0 hs0 y0 h0 hp0 ty0 x0 np0
    split at h
    ·cases h
    ·rename_i hc
     have hc:(((((((els0=[]/\fin0=[])/\c.calm=true)/\c.fnc=true)/\fr=false)/\h0≠[])/\c.own=[])/\c.frz=false):=by simpa using hc
     obtain⟨⟨⟨⟨⟨⟨⟨rfl,rfl⟩,hc1⟩,hc2⟩,rfl⟩,hc3⟩,hc4⟩,hc5⟩:=hc;simp only[aE,aD]at h;obtain⟨ib,h1,ihd,h2,h⟩:=h;split at h
     ·cases h
     ·rename_i hg
      have hg:glob c x0=some .exc\/glob c x0=some .exk:=by
       by_cases z:glob c x0=some .exc
       ·exact .inl z
       ·exact .inr (by simpa[z]using hg)
      match h0,hc3,h2 with
      | [],hc3,_=>exact absurd rfl hc3
      |b₀::suite,_,h2=>
       split at h
       ·cases h;exact vL O hc5 hc4 hg (λEh pn Et O'=>ih.ss O' h1) (λy=>ih.ss (O.held y) h2)
       ·simp only[aD]at h;obtain⟨i,hl,h⟩:=h;split at h
        ·rename_i hn
         cases h;exact Ds O hc5 hc4 hg (et (eN hl).1).1 (by simpa using hn) (λEh pn Et O'=>ih.ss O' h1) (λy=>ih.ss (O.held y) h2)
        ·cases h
   ·cases h
  ·cases h
 ·cases h;exact Bg
 ·cases h;exact vT
 ·cases h;exact yY
 ·cases h
theorem mW:∀n,n<=100000->iC w g n
 | 0,_=>⟨λ_ _ _ _ h=>(by cases h),λ_ _ _ _ h=>by simp[cSs]at h⟩
 |n+1,h=>
  have ih:=mW n (Nat.le_of_succ_le h)
  ⟨λO _ _ _ q=>ih.s_succ (Nat.le_of_succ_le h) O q,λO _ _ _ q=>ih.ss_succ O q⟩
end
section
variable{w:W}{g:Gc}{c:Cc}{E:XK}{fr:Bool}{X:Cx}{H0:Hp}{B:Sh}{τ:Env}{σ:L2.St}{H H':Hp}{S:Sh}{n:Nat}
noncomputable def kx(g:Gc)(E:XK)(fr:Bool)(H0:Hp)(B:Sh)(D:Ends):O->Prop
 | .nx _=>∀σ' H',qg H0 H'->D.nx σ' H'
 | .rt d=>∀v H',qg H0 H'->Rep g (hid H' B) d v->(fr=true->Fr g H0 B H' d v)->D.rt v H'
 | .ex k=>∀H' C,qg H0 H'->g.clA k=some C->E (.ref C) none H'
 |_=>False
theorem kx.out{D:Ends}{o:O}(h:kx g E fr H0 B D o):bQ g c E fr H0 B H S D o:=by
 cases o with
 |nx t=>exact λσ' H' S' ss _=>h σ' H' ss.same
 |rt d=>exact h
 |ex k=>exact h
 |bk t=>exact h.elim
 |ct t=>exact h.elim
 |no=>exact h.elim
noncomputable def xy(w:W)(g:Gc)(c:Cc)(E:XK)(fr:Bool)(s:Ss):TS:=λD σ H=>∃H0 B τ S,SS g c H0 B τ σ H S/\kx g E fr H0 B D (qf w s τ)
theorem BD(hn:n<=100000)(O:XS w g c E X){x:List Stmt}{ir:Ss}(h:gJ n c fr x=some ir):PSs X x (xy w g c E fr ir):=
 PSs.imp ((mW n hn).ss O h) λD σ H ⟨H0,B,τ,S,ss,z⟩=>⟨H0,B,τ,S,ss,z.out⟩
end
noncomputable def GM0(p:Pr)(g:Gc)(mg:Str->Option ae)(x:Str):GK->Prop
 | .fn _=>∃f,g.fnA x=some f
 | .val=>∃u v d,mg x=some u/\RelV v u/\p.glb x=some d/\∀H,Rep g H d v
 | .bi b=>mg x=none/\x=b1N b/\∃id,b1V b=.builtin id
 | .rng=>mg x=none/\x = "range"
 | .enum=>mg x=none/\x = "enumerate"
 | .zip=>mg x=none/\x = "zip"
 | .isi=>mg x=none/\x = "isinstance"
 | .ty n b=>mg x=none/\bz x=some (.type n)/\(n∈["int","bool","str","list","tuple"]\/n = "ValueError")/\∀b',b=some b'->x=b1N b'/\b1V b'=.type n
 | .exc=>∃C,mg x=some (.ref C)/\g.clA x=some C/\jV g.K C
 | .exk=>∃C,mg x=some (.ref C)/\g.clA x=some C
 | .set=>mg x=none/\bz x=some (.type "set")
structure Ground(p:Pr)(g:Gc)(G GH GU:List (Str×GK))(mg:Str->Option ae):Prop where
 fn:∀x f,g.fnA x=some f->∃st own fr fd fnn,p.fns x=some fnn/\cFn G GH own fr st=some fnn/\Fun g.K x x st f fd/\Binds g.K fd (argNames (zc st)) []/\b9 g.K (.ref f)=true/\mg x=some (.ref f)/\G.lookup x=some (.fn fr)
 gl:∀x k,G.lookup x=some k->GM0 p g mg x k
 gu:∀x k,GU.lookup x=some k->(∀fr,k≠.fn fr)/\k≠.exc/\GM0 p g mg x k
 gh:∀x k,GH.lookup x=some k->GU.lookup x=some k\/∃fr f st own fd fnn,k=.fn fr/\g.fnA x=some f/\p.fns x=some fnn/\gz GU own fr st=some fnn/\Fun g.K x x st f fd/\Binds g.K fd (argNames (zc st)) []/\b9 g.K (.ref f)=true/\mg x=some (.ref f)
 sub:∀k cl b,p.sub k cl=some b->∃C cv,g.clA k=some C/\zQ g.K C/\bc g.K (.ref C) cv=some b/\match cl with
  | .ty n=>n = "ValueError"/\cv=.type n
  | .ex x=>∃D,g.clA x=some D/\cv=.ref D
 cat:∀k x,p.cat k x=true->∀C D,g.clA k=some C->g.clA x=some D->bG g.K (.ref C) (.ref D)=some true
abbrev wAt(p:Pr)(k:Nat):W:=⟨qa p k,p.glb,p.sub,p.cat⟩
theorem px{N ps:List Str}{sc:aO}(h:f_ N ps sc=true):fF N ps sc:=by
 unfold f_ at h;simp only[aH,beq_iff_eq,br,decide_eq_true_eq,b7,bE,bne_iff_ne,ne_eq]at h;obtain⟨⟨⟨⟨⟨⟨h1,h2⟩,h3⟩,h4⟩,h5⟩,h6⟩,h7⟩:=h;exact⟨h1,h2,h3,h4,h5,h6,h7⟩
theorem Cm{G GH:List (Str×GK)}{own:List Str}{fr:Bool}{st:Stmt}{fnn:Fn}(h:cFn G GH own fr st=some fnn):f_ (dU (zc st) (za st)) (argNames (zc st)) (za st)=true/\(argNames (zc st)).any own.contains=false /\
  ∃b,gJ gO ⟨(za st).names,dU (zc st) (za st),own,G,true,true,true,GH,[],false⟩ fr (zV st)=some b/\fnn=⟨(argNames (zc st)).length,(dU (zc st) (za st)).length,fr,b⟩:=by
 unfold cFn at h;dsimp only at h;split at h
 ·cases h
 ·rename_i hc
  simp only[bE,br,not_or,Bool.not_eq_false,Bool.not_eq_true]at hc;simp only[aE,aD,bJ]at h;obtain⟨b,h1,h2⟩:=h;exact⟨hc.1,hc.2,b,h1,h2.symm⟩
theorem vz{GU:List (Str×GK)}{own:List Str}{fr:Bool}{st:Stmt}{fnn:Fn}(h:gz GU own fr st=some fnn):f_ (dU (zc st) (za st)) (argNames (zc st)) (za st)=true/\(argNames (zc st)).any own.contains=false /\
  ∃b,gJ gO ⟨(za st).names,dU (zc st) (za st),own,GU,false,true,false,[],[],false⟩ fr (zV st)=some b/\fnn=⟨(argNames (zc st)).length,(dU (zc st) (za st)).length,fr,b⟩:=by
 unfold gz at h;dsimp only at h;split at h
 ·cases h
 ·rename_i hc
  simp only[bE,br,not_or,Bool.not_eq_false,Bool.not_eq_true]at hc;simp only[aE,aD,bJ]at h;obtain⟨b,h1,h2⟩:=h;exact⟨hc.1,hc.2,b,h1,h2.symm⟩
section
variable{P:ay}{w:au}{K:av}{mg:Str->Option ae}{base:Heap}{N:List Str}{qual:Str}{scope:aO}{f:Addr}{cd:ae}{A:ax}{outer:List PySem.Env}{s₀:af}{H₀:Hp}{E:XK}
theorem Ar:Passes (CX1 P w) (fq (CX1 P w) P w K mg base N qual scope f cd A outer s₀ H₀ E) E:=by
 intro pins σ H s e s' I h;obtain⟨x,cls,H',rfl,I',F,q⟩:=i7 rfl rfl I rfl h;exact bS.leaves (env:=(fq (CX1 P w) P w K mg base N qual scope f cd A outer s₀ H₀ E).env) (outer:=outer) I' rfl rfl rfl F q
end
theorem GM0.gm{p:Pr}{g:Gc}{mg:Str->Option ae}{x:Str}{k:GK}{P:ay}{wl:au}{base:Heap}{A:ax}{calm:Bool}{n:Nat}(h:GM0 p g mg x k)(hf:∀fr,k≠.fn fr):GM (wAt p n) g P wl mg base A calm x k:=by
 cases k with
 |fn fr'=>exact absurd rfl (hf fr')
 |exc=>obtain⟨C,h1,h2,_⟩:=h;exact⟨C,h1,h2⟩
 |val=>exact h
 |bi b=>exact h
 |rng=>exact h
 |enum=>exact h
 |zip=>exact h
 |isi=>exact h
 |ty n b=>exact h
 |exk=>exact h
 |set=>exact h
theorem oF{w:W}{g:Gc}{c:Cc}{E:XK}{X:Cx}{N ps own:List Str}{sc:aO}{fr:Bool}{body:List Stmt}{b:Ss}(hcN:c.N=N)(hco:c.own=own)(hcz:c.frz=false)(FS:fF N ps sc)(c2:ps.any own.contains=false)(c3:gJ gO c fr body=some b)
  (O:XS w g c E X) {vs:List V}{ds:List D}{B:Sh}{H:Hp}{Q:VK} (hB:Sub B H) (rv:qV g (hid H B) ds vs) (hl:ds.length=ps.length)
  (h:tR g E H (match qf w b (ds.map some++bF (N.length-ps.length) none)with
   | .nx _=>if fr then .no else .ok .non
   | .rt d=>.ok d
   | .ex c=>.ex c
   |_=>.no) (λd=>∀v H',qg H H'->Rep g (hid H' B) d v->(fr=true->Fr g H B H' d v)->Q v H')) :
  ∃t,PSs X body t/\t {nx:=λ_ H'=>Q .non H',rt:=Q} (start N vs) H:=by
 have hNl:ps.length<=N.length:=by have:=congrArg List.length FS.pre;rw[dv]at this;lia
 refine⟨_,BD (by decide) O c3,H,B,ds.map some++bF (N.length-ps.length) none,⟨λ_=>false,B.h,B.z,B.y⟩,?_,?_⟩
 ·-- at the start
  have hh:hid H ⟨λ_=>false,B.h,B.z,B.y⟩=hid H B:=rfl;have hvl:=rv.length;have par:∀i d,(ds.map some++bF (N.length-ps.length) none)[i]? = some (some d)->i<ps.length/\ds[i]? = some d:=λi d hi=>by
   by_cases hlt:i<ds.length
   ·rw[List.getElem?_append_left (by simpa using hlt),List.getElem?_map]at hi;refine⟨by lia,?_⟩;cases q:ds[i]? with
    |none=>rw[q]at hi;cases hi
    |some e=>rw[q]at hi;simpa using hi
   ·rw[List.getElem?_append_right (by simpa using hlt)]at hi;rw[List.getElem?_replicate]at hi;split at hi<;>cases hi
  have noOwn:∀i d,zD c i->(ds.map some++bF (N.length-ps.length) none)[i]? = some (some d)->False:=λi d ⟨y,h1,h2⟩ hi=>by
   obtain⟨hlt,_⟩:=par i d hi;rw[hcN]at h1;rw[hco]at h2;have:N.take ps.length=ps:=FS.pre;have hy:ps[i]? = some y:=by
    rw[<-this,List.getElem?_take,if_pos hlt];exact h1
   have:=List.any_eq_false.mp c2 y (List.mem_of_getElem? hy);exact this h2
  refine⟨⟨by simp[L2.start];lia,λi d hi=>?_,λa ha=>?_⟩,by simp[hcN];lia,qg.refl _,hB,(λa=>by simp),(λa ha=>by cases ha),(λi d ho hi=>(noOwn i d ho hi).elim),λi j d e a ho _ hi _ _ _=>(noOwn i d ho hi).elim,λz=>by rw[hcz]at z;cases z⟩
  ·obtain⟨hlt,hd⟩:=par i d hi;obtain⟨v,h1,h2⟩:=rv.get hd;have hlt':i<vs.length:=by lia
   refine⟨v,?_,.inl h2,λ_ _ _=>h2⟩;unfold L2.start;rw[List.getElem?_append_left (by simpa using hlt'),List.getElem?_map,h1]
   rfl
  ·refine hB a ?_;rcases ha with ha|ha
   ·exact .inl ha
   ·cases ha
 ·-- at the end
  cases q:qf w b (ds.map some++bF (N.length-ps.length) none)with
  |nx τ'=>
   rw[q]at h;simp only at h;cases fr with
   |true=>exact h.elim
   |false=>exact λσ' H' hs=>h .non H' hs .non (by intro z;cases z)
  |rt d=>rw[q]at h;exact h
  |ex z=>rw[q]at h;exact h
  |bk z=>rw[q]at h;exact h.elim
  |ct z=>rw[q]at h;exact h.elim
  |no=>rw[q]at h;exact h.elim
section
variable{p:Pr}{g:Gc}{G GH GU:List (Str×GK)}{mg:Str->Option ae}{P:ay}{wl:au}{base:Heap}
theorem Ground.okU(T:Ground p g G GH GU mg):∀(k:Nat) (x:Str) (f:Addr) (st:Stmt) (own:List Str) (fr:Bool) (fd:bw) (fnn:Fn),p.fns x=some fnn->gz GU own fr st=some fnn->Fun g.K x x st f fd ->
  h8 P wl g.K mg base (CX1 P wl) k f fd (argNames (zc st)) (spF (wAt p k) g x fr)
 | 0,x,f,st,own,fr,fd,fnn,_,_,_=>⟨λvs H Q E ⟨S,ds,_,_,h⟩=>h.elim,λA outer s H args us vs Q E _ _ _ _ ⟨S,ds,_,_,h⟩=>h.elim⟩
 |k+1,x,f,st,own,fr,fd,fnn,hf,hc,F=>by
  obtain⟨c1,c2,b,c3,rfl⟩:=vz hc;have FS:=px c1;generalize hN:dU (zc st) (za st)=N at *;generalize hps:argNames (zc st)=ps at *;have call:∀ds,qa p (k+1) x ds=cf (wAt p k) ⟨ps.length,N.length,fr,b⟩ ds:=λds=>by simp only[qa,hf]
  have lenOf:∀vs H Q E,spF (wAt p (k+1)) g x fr vs H Q E->vs.length=ps.length:=λvs H Q E ⟨S,ds,_,r,h⟩=>by
   have h:tR g E H (qa p (k+1) x ds) _:=h;rw[call]at h;unfold cf at h;by_cases hl:ds.length=ps.length
   ·rw[<-r.length];exact hl
   ·rw[if_neg hl]at h;exact h.elim
  obtain⟨oc,od,kV,doc,pm,an,cdv,ct,osl,rfl,lk,hcd⟩:=F.ex;refine DS lk hcd FS lenOf λA outer s H vs Q E hr hsp=>?_
  obtain⟨B,ds,hB,rv,h⟩:=hsp;have h:tR g E H (qa p (k+1) x ds) (λd=>∀v H',qg H H'->Rep g (hid H' B) d v->(fr=true->Fr g H B H' d v)->Q v H'):=h;rw[call]at h;unfold cf at h;by_cases hl:ds.length=ps.length
  ·rw[if_pos hl]at h;have O:XS (wAt p k) g ⟨(za st).names,N,own,GU,false,true,false,[],[],false⟩ E (fq (CX1 P wl) P wl g.K mg base N x (za st) f cdv A outer s H E):=
    ⟨⟨rfl,rfl,rfl,FS.nd,(λz=>by cases z),by have:=hr.un;show (A.deeper _).units+64<_;lia,λ_ _=>rfl,FS.kind,Ar,λy ky hy=>(T.gu y ky hy).2.2.gm (T.gu y ky hy).1,(λz=>by cases z),T.sub⟩,(λz=>by cases z),λy C hy _=>absurd rfl (T.gu y .exc hy).2.1,T.cat,⟨rfl,rfl,rfl⟩,λy k z=>by cases z⟩
   exact oF rfl rfl rfl FS c2 c3 O hB rv hl h
  ·rw[if_neg hl]at h;exact h.elim
theorem Ground.ok(T:Ground p g G GH GU mg):∀(k:Nat) (x:Str) (f:Addr) (st:Stmt) (own:List Str) (fr:Bool) (fd:bw) (fnn:Fn),p.fns x=some fnn->cFn G GH own fr st=some fnn->Fun g.K x x st f fd ->
  eV P wl g.K mg base (CX1 P wl) k f fd (argNames (zc st)) (spF (wAt p k) g x fr)
 | 0,x,f,st,own,fr,fd,fnn,_,_,_=>⟨λvs H Q E ⟨S,ds,_,_,h⟩=>h.elim,λA outer s H args us vs Q E _ _ _ _ ⟨S,ds,_,_,h⟩=>h.elim⟩
 |k+1,x,f,st,own,fr,fd,fnn,hf,hc,F=>by
  obtain⟨c1,c2,b,c3,rfl⟩:=Cm hc;have FS:=px c1;generalize hN:dU (zc st) (za st)=N at *;generalize hps:argNames (zc st)=ps at *;have call:∀ds,qa p (k+1) x ds=cf (wAt p k) ⟨ps.length,N.length,fr,b⟩ ds:=λds=>by simp only[qa,hf]
  have lenOf:∀vs H Q E,spF (wAt p (k+1)) g x fr vs H Q E->vs.length=ps.length:=λvs H Q E ⟨S,ds,_,r,h⟩=>by
   have h:tR g E H (qa p (k+1) x ds) _:=h;rw[call]at h;unfold cf at h;by_cases hl:ds.length=ps.length
   ·rw[<-r.length];exact hl
   ·rw[if_neg hl]at h;exact h.elim
  refine F.ok1 FS lenOf λcdv A outer s H vs Q E hr hsp=>?_
  obtain⟨B,ds,hB,rv,h⟩:=hsp;have h:tR g E H (qa p (k+1) x ds) (λd=>∀v H',qg H H'->Rep g (hid H' B) d v->(fr=true->Fr g H B H' d v)->Q v H'):=h;rw[call]at h;unfold cf at h;by_cases hl:ds.length=ps.length
  ·rw[if_pos hl]at h
   -- the ground of the body
   have calls:∀y fy,g.fnA y=some fy->∃fry,G.lookup y=some (.fn fry)/\ju (wAt p k) g P wl mg base (A.deeper (envOfC x (za st) s.heap.objs.size f cdv)) true y fy fry:=λy fy hy=>by
    obtain⟨sty,owny,fry,fdy,fny,z1,z2,z3,z4,z5,z6,z7⟩:=T.fn y fy hy;exact⟨fry,z7,z6,z5,k,fdy,_,z4,.inl ⟨rfl,Ground.ok T k y fy sty owny fry fdy fny z1 z2 z3,hr⟩⟩
   have O:XS (wAt p k) g ⟨(za st).names,N,own,G,true,true,true,GH,[],false⟩ E (dD (CX1 P wl) P wl g.K mg base N x (za st) f cdv A outer s H E):=by
    refine⟨⟨rfl,rfl,rfl,FS.nd,λ_=>rfl,hr.units,λ_ _=>rfl,FS.kind,Bk,λy ky hy=>?_,λ_ y fy hy=>?_,T.sub⟩,λ_=>Ck,λy C hy hC=>?_,T.cat,⟨rfl,rfl,rfl⟩,λy ky hy=>?_⟩
    ·have:=T.gl y ky hy;by_cases hf:∃fr,ky=.fn fr
     ·obtain⟨fr',rfl⟩:=hf;obtain⟨fy,h1⟩:=this;obtain⟨fry,h2,h3⟩:=calls y fy h1;have hy:G.lookup y=some (.fn fr'):=hy;rw[hy]at h2;cases h2;exact⟨fy,h1,h3⟩
     ·exact this.gm λfr z=>hf ⟨fr,z⟩
    ·obtain⟨fry,_,h3⟩:=calls y fy hy;exact⟨fry,h3⟩
    ·obtain⟨C',_,h2,h3⟩:=T.gl y .exc hy;rw[h2]at hC;cases hC;exact h3
    ·rcases T.gh y ky hy with z|⟨fr',fy,sty,owny,fdy,fny,rfl,z1,z2,z3,z4,z5,z6,z7⟩
     ·obtain⟨u1,u2,u3⟩:=T.gu y ky z;exact⟨u2,λv=>u3.gm u1⟩
     ·exact⟨by simp,λv=>⟨fy,z1,z7,z6,k,fdy,_,z5,.inr ⟨rfl,Ground.okU T k y fy sty owny fr' fdy fny z2 z3 z4,hr.mark v⟩⟩⟩
   exact oF rfl rfl rfl FS c2 c3 O hB rv hl h
  ·rw[if_neg hl]at h;exact h.elim
end
end EV
namespace WB
open PySem PySem.Spec PyProof.Rows L2
structure Dd(K:av)(n:Str)(st:Stmt)(f:Addr):Prop where
 a:aq K ao n=some (some (.ref f))
 l:∃oc od an sl kV dc pm cd ct,K.lookup f=some ⟨oc,od,.func (bN n n (zc st) (zV st) (za st) .none kV dc pm an cd ct),sl⟩/\PySem.W.codeIn K cd n=true
 k:b9 K (.ref f)=true
theorem zy{K:av}{n:Str}{st:Stmt}{f:Addr}{od an:Option Addr}{sl:Array (Option ae)}{oc kV dc pm cd ct:ae}(a:aq K ao n=some (some (.ref f)))
  (l:K.lookup f=some ⟨oc,od,.func (bN n n (zc st) (zV st) (za st) .none kV dc pm an cd ct),sl⟩) (c:PySem.W.codeIn K cd n=true) (k:b9 K (.ref f)=true):Dd K n st f:=
 ⟨a,⟨oc,od,an,sl,kV,dc,pm,cd,ct,l,c⟩,k⟩
theorem Dd.fn{K:av}{n:Str}{st:Stmt}{f:Addr}(d:Dd K n st f):∃fd,Fun K n n st f fd:=by
 obtain⟨oc,od,an,sl,kV,dc,pm,cd,ct,l,c⟩:=d.l;exact⟨_,oH (st:=st) l c d.k⟩
theorem nY{K:av}{C:Addr}{c:ae}{dd:Option Addr}{cd:PySem.ClassData}{sl:Array (Option ae)}(s1:PySem.W.findIn K (.ref C) "__getattribute__" = some (some (.builtin "BaseException.__getattribute__")))
  (s2:PySem.W.findIn K (.ref C) "__getattr__" = some none) (s3:PySem.W.findIn K (.ref C) "__class__" = some (some (.builtin "object.__class__"))) (s4:PySem.W.mroIn K C (.type "BaseException")=some true) (s5:PySem.W.mroIn K C (.type "object")=some true)
  (s6:K.lookup C=some ⟨c,dd,.cls cd,sl⟩):zQ K C:=⟨s1,s2,s3,s4,s5,⟨c,dd,cd,sl,s6⟩⟩
theorem pS{K:av}{C:Addr}:bc K (.ref C) (.ref C)=some true:=by
 unfold bc;rw[if_pos (beq_self_eq_true _)]
theorem pD{K:av}{C:Addr}(s:aB K (.ref C) (.type "ValueError")=some true):bc K (.ref C) (.type "ValueError")=some true:=by
 unfold bc;rw[if_neg (λz=>by have:=eq_of_beq z;cases this)];show (if PySem.W.kitMeta "ValueError" = true then aB K (.ref C) (.type "ValueError")else none)=_;rw[if_pos (by decide +kernel)];exact s
theorem n_{K:av}{C D:Addr}{x:PySem.ClassData}(u:aB K (.ref D) (.type "BaseException")=some true)(c:PySem.W.clsIn K D=some x)(t:PySem.W.typeIn K (.ref D)=some (.type "type"))(s:aB K (.ref C) (.ref D)=some true) :
  bG K (.ref C) (.ref D)=some true:=by
 unfold bG;rw[u,if_pos (by decide)];show (if ((PySem.W.clsIn K D).isSome&&PySem.W.typeIn K (.ref D)==some (.type "type"))=true then aB K (.ref C) (.ref D)else none)=_;rw[c,t,if_pos (by rw[beq_self_eq_true];rfl)];exact s
theorem ko{us:List ae}(h:us.length=1):∃a,us=[a]:=List.length_eq_one_iff.mp h
theorem oJ{n:Nat}{us:List ae}(h:us.length=n+1):∃a r,us=a::r/\r.length=n:=by
 cases us with
 |nil=>cases h
 |cons a r=>exact⟨a,r,rfl,Nat.succ.inj h⟩
theorem jN{us:List ae}(h:us.length=2):∃a b,us=[a,b]:=by
 obtain⟨a,r,e,h⟩:=oJ h;obtain⟨b,q⟩:=ko h;subst q;exact⟨a,b,e⟩
theorem nA{us:List ae}(h:us.length=3):∃a b c,us=[a,b,c]:=by
 obtain⟨a,r,e,h⟩:=oJ h;obtain⟨b,c,q⟩:=jN h;subst q;exact⟨a,b,c,e⟩
structure Dk(K:av)(n:Str)(D:Addr):Prop where
 a:aq K ao n=some (some (.ref D))
 c:∃x,PySem.W.clsIn K D=some x
 t:PySem.W.typeIn K (.ref D)=some (.type "type")
theorem cU{K:av}{n:Str}{D:Addr}{x:PySem.ClassData}(a:aq K ao n=some (some (.ref D)))(c:PySem.W.clsIn K D=some x)(t:PySem.W.typeIn K (.ref D)=some (.type "type")):Dk K n D:=⟨a,⟨x,c⟩,t⟩
theorem Dk.kit{K:av}{n:Str}{C D:Addr}{b:Bool}(d:Dk K n D)(s:aB K (.ref C) (.ref D)=some b)(ne:C≠D):bc K (.ref C) (.ref D)=some b:=by
 obtain⟨x,c⟩:=d.c;unfold bc;rw[if_neg (λz=>ne (by have:=eq_of_beq z;injection this))];show (if ((PySem.W.clsIn K D).isSome&&PySem.W.typeIn K (.ref D)==some (.type "type"))=true then aB K (.ref C) (.ref D)else none)=_;rw[c,d.t,if_pos (by rw[beq_self_eq_true];rfl)];exact s
end WB
namespace EV
open PySem PySem.Spec PySem.P PyProof.Rows L2
structure Ent where
 x:Str
 st:Stmt
 own:List Str
 fr:Bool
 fn:Fn
noncomputable def prT(tab:List Ent)(vals:List (Str×D))(cq:List (Str×Str))(subs:List ((Str×Cl)×Bool):=[]):Pr:=⟨λx=>(tab.find? (·.x==x)).map (·.fn),λx=>vals.lookup x,λk c=>subs.lookup (k,c),λk x=>cq.contains (k,x)⟩
noncomputable def unx:GK->GK
 | .exc=>.exk
 |k=>k
noncomputable def eE(oth:List (Str×GK)):List (Str×GK):=oth.map λy=>(y.1,unx y.2)
noncomputable def fC(us:List Ent)(oth:List (Str×GK)):List (Str×GK):=us.map (λe=>(e.x,GK.fn e.fr))++eE oth
theorem pe{x:Str}{k:GK}:∀{oth:List (Str×GK)},(eE oth).lookup x=some k->∃k0,oth.lookup x=some k0/\k=unx k0
 | [],h=>by cases h
 | (y,k1)::r,h=>by
  have h:List.lookup x ((y,unx k1)::eE r)=some k:=h;rw[ba]at h;split at h
  ·rename_i q;cases h;exact⟨k1,by rw[ba,q],rfl⟩
  ·rename_i q
   obtain⟨k0,h1,h2⟩:=pe h;exact⟨k0,by rw[ba,q];exact h1,h2⟩
theorem pk{x:Str}{k:GK}{oth:List (Str×GK)}:∀{us:List Ent},(fC us oth).lookup x=some k->(∃e∈us,e.x=x/\k=.fn e.fr)\/(eE oth).lookup x=some k
 | [],h=>.inr h
 |a::r,h=>by
  have h:List.lookup x ((a.x,GK.fn a.fr)::fC r oth)=some k:=h;rw[ba]at h;split at h
  ·rename_i q;cases h;exact .inl ⟨a,aK,(eq_of_beq q).symm,rfl⟩
  ·rcases pk h with ⟨e,h1,h2⟩|h1
   ·exact .inl ⟨e,aJ _ h1,h2⟩
   ·exact .inr h1
noncomputable def ef(K:av)(ns:List Str)(x:Str):Option Addr:=if ns.contains x then (match aq K ao x with
 |some (some (.ref f))=>some f
 |_=>none)else none
noncomputable def gOf(K:av)(fns cls:List Str):Gc:=⟨K,ef K fns,ef K cls⟩
theorem iG{K:av}{ns:List Str}{x:Str}{f:Addr}(h:aq K ao x=some (some (.ref f)))(hx:ns.contains x=true):ef K ns x=some f:=by
 unfold ef;rw[if_pos hx,h]
theorem lA{K:av}{ns:List Str}{x:Str}{f:Addr}(h:ef K ns x=some f):ns.contains x=true/\aq K ao x=some (some (.ref f)):=by
 unfold ef at h;split at h
 ·rename_i hx
  split at h
  ·rename_i q;cases h;exact⟨hx,q⟩
  ·cases h
 ·cases h
noncomputable def Bnd(e:Ent):Prop:=∀(kV doc pm:ae) (an:Option Addr) (cdv ct:ae) (us:List ae),us.length=(argNames (zc e.st)).length->bindArgs (bN e.x e.x (zc e.st) (zV e.st) (za e.st) .none kV doc pm an cdv ct) ⟨us,[]⟩=pure ((argNames (zc e.st)).zip us)
structure gM(K:av)(G:List (Str×GK))(e:Ent):Prop where
 dd:∃f,WB.Dd K e.x e.st f
 bnd:Bnd e
noncomputable def nG(K:av)(vals:List (Str×D))(x:Str):GK->Prop
 | .fn _=>True
 | .val=>∃u v d,aq K ao x=some (some u)/\RelV v u/\vals.lookup x=some d/\∀g H,g.K=K->Rep g H d v
 | .bi b=>aq K ao x=some none/\x=b1N b/\∃id,b1V b=.builtin id
 | .rng=>aq K ao x=some none/\x = "range"
 | .enum=>aq K ao x=some none/\x = "enumerate"
 | .zip=>aq K ao x=some none/\x = "zip"
 | .isi=>aq K ao x=some none/\x = "isinstance"
 | .ty n b=>aq K ao x=some none/\bz x=some (.type n)/\(n∈["int","bool","str","list","tuple"]\/n = "ValueError")/\∀b',b=some b'->x=b1N b'/\b1V b'=.type n
 | .exc=>∃C,aq K ao x=some (some (.ref C))/\PySem.W.excIn K C gy "ValueError.__new__" = true
 | .exk=>∃C,aq K ao x=some (some (.ref C))
 | .set=>aq K ao x=some none/\bz x=some (.type "set")
noncomputable def rf(K:av)(cls:List Str)(y:(Str×Cl)×Bool):Prop:=∃C cv,cls.contains y.1.1=true/\aq K ao y.1.1=some (some (.ref C))/\zQ K C/\bc K (.ref C) cv=some y.2/\match y.1.2 with
 | .ty n=>n = "ValueError"/\cv=.type n
 | .ex x=>∃D,cls.contains x=true/\aq K ao x=some (some (.ref D))/\cv=.ref D
theorem nN{α β:Type} [BEq α] [LawfulBEq α]{a:α}{b:β}:∀{l:List (α×β)},l.lookup a=some b->(a,b)∈l
 | (c,d)::r,h=>by
  rw[ba]at h;split at h
  ·rename_i q;cases h;rw[eq_of_beq q];exact aK
  ·exact aJ _ (nN h)
theorem rL{tab:List Ent}{e:Ent}(hn:(tab.map (·.x)).Nodup)(he:e∈tab):tab.find? (·.x==e.x)=some e:=by
 induction tab with
 |nil=>simp at he
 |cons a r ih=>
  simp only[a7,List.nodup_cons]at hn;rw[List.find?_cons];rcases aG.mp he with rfl|h
  ·simp
  ·have:(a.x==e.x)=false:=by
    cases q:a.x==e.x with
    |false=>rfl
    |true=>
     have:=eq_of_beq q;exact absurd (this▸aQ.mpr ⟨e,h,rfl⟩) hn.1
   rw[this];exact ih hn.2 h
theorem Ax{K:av}{h:Heap}{mg:Str->Option ae}(X:K.In h)(N:h.Ns ao mg){tab:List Ent}{oth G:List (Str×GK)}{vals:List (Str×D)}(hG:G=tab.map (λe=>(e.x,GK.fn e.fr))++oth)
  (hnd:(tab.map (·.x)).Nodup) (ho:∀x k,oth.lookup x=some k->nG K vals x k) (hof:∀x fr,oth.lookup x≠some (.fn fr)) {us:List Ent} (hus:∀e∈us,e∈tab) (hcu:∀e∈us,gz (eE oth) e.own e.fr e.st=some e.fn) (hc:∀e∈tab,cFn G (fC us oth) e.own e.fr e.st=some e.fn) (he:∀e∈tab,gM K G e) (cls:List Str) {cq:List (Str×Str)} (hcat:∀y∈cq,∃C D,aq K ao y.1=some (some (.ref C))/\aq K ao y.2=some (some (.ref D))/\bG K (.ref C) (.ref D)=some true) (hcl:∀x,(oth.lookup x=some .exc\/oth.lookup x=some .exk)->cls.contains x=true)
  {subs:List ((Str×Cl)×Bool)} (hsub:∀y∈subs,rf K cls y) :
  Ground (prT tab vals cq subs) (gOf K (tab.map (·.x)) cls) G (fC us oth) (eE oth) mg:=by
 have lk:∀x k,G.lookup x=some k->(∃e∈tab,e.x=x/\k=.fn e.fr)\/oth.lookup x=some k:=by
  subst hG;clear hnd hc he hus
  induction tab with
  |nil=>intro x k hx;exact .inr hx
  |cons a r ih=>
   intro x k hx;simp only[a7,List.cons_append,ba]at hx;split at hx
   ·rename_i q;cases hx;exact .inl ⟨a,aK,(eq_of_beq q).symm,rfl⟩
   ·rcases ih x k hx with ⟨e,h1,h2⟩|h1
    ·exact .inl ⟨e,aJ _ h1,h2⟩
    ·exact .inr h1
 have lkE:∀e∈tab,G.lookup e.x=some (.fn e.fr):=by
  subst hG;clear hc he lk hus
  induction tab with
  |nil=>intro e h;simp at h
  |cons a r ih=>
   intro e hm;simp only[a7,List.nodup_cons]at hnd;simp only[a7,List.cons_append,ba];rcases aG.mp hm with rfl|hm
   ·rw[beq_self_eq_true]
   ·have:(e.x==a.x)=false:=by
     cases q:e.x==a.x with
     |false=>rfl
     |true=>exact absurd ((eq_of_beq q)▸aQ.mpr ⟨e,hm,rfl⟩) hnd.1
    rw[this];exact ih hnd.2 e hm
 have hca:∀k x,cq.contains (k,x)=true->∀C D,ef K cls k=some C->ef K cls x=some D->bG K (.ref C) (.ref D)=some true:=λk x z C D h1 h2=>by
  obtain⟨C',D',e1,e2,e3⟩:=hcat (k,x) (by simpa using z);have a1:=(lA h1).2;have a2:=(lA h2).2;rw[e1]at a1;rw[e2]at a2;cases a1;cases a2;exact e3
 have fnd:∀e∈tab,∃f fd,ef K (tab.map (·.x)) e.x=some f/\Fun K e.x e.x e.st f fd/\Binds K fd (argNames (zc e.st)) []/\b9 K (.ref f)=true/\mg e.x=some (.ref f):=λe hm=>by
  obtain⟨⟨f',d⟩,hb⟩:=he e hm;obtain⟨fd,F⟩:=d.fn;exact⟨f',fd,iG d.a (by simpa using aQ.mpr ⟨e,hm,rfl⟩),F,F.binds hb,d.k,PySem.W.mg_of X N d.a⟩
 have fne:∀e∈tab,(prT tab vals cq subs).fns e.x=some e.fn:=λe hm=>by show (tab.find? (·.x==e.x)).map (·.fn)=_;rw[rL hnd hm];rfl
 have gl:∀x k,oth.lookup x=some k->GM0 (prT tab vals cq subs) (gOf K (tab.map (·.x)) cls) mg x k:=λx k hk=>by
  have:=ho x k hk;cases k with
  |fn fr=>exact absurd hk (hof x fr)
  |val=>obtain⟨u,v,d,h1,h2,h3,h4⟩:=this;exact⟨u,v,d,PySem.W.mg_of X N h1,h2,h3,λH=>h4 _ H rfl⟩
  |bi b=>exact⟨dr X N this.1,this.2⟩
  |rng=>exact⟨dr X N this.1,this.2⟩
  |enum=>exact⟨dr X N this.1,this.2⟩
  |zip=>exact⟨dr X N this.1,this.2⟩
  |isi=>exact⟨dr X N this.1,this.2⟩
  |ty n b=>exact⟨dr X N this.1,this.2⟩
  |exc=>obtain⟨C,h1,h2⟩:=this;exact⟨C,PySem.W.mg_of X N h1,iG h1 (hcl x (.inl hk)),h2⟩
  |exk=>obtain⟨C,h1⟩:=this;exact⟨C,PySem.W.mg_of X N h1,iG h1 (hcl x (.inr hk))⟩
  |set=>exact⟨dr X N this.1,this.2⟩
 refine⟨λx f hf=>?_,λx k hx=>?_,λx k hx=>?_,λx k hx=>?_,λk cl b z=>?_,hca⟩
 ·obtain⟨h1,h2⟩:=lA hf;obtain⟨e,hm,rfl⟩:=aQ.mp (by simpa using h1:x∈tab.map (·.x));obtain⟨f',fd,z1,z2,z3,z4,z5⟩:=fnd e hm;have hf:ef K (tab.map (·.x)) e.x=some f:=hf;rw[hf]at z1;cases z1;exact⟨e.st,e.own,e.fr,fd,e.fn,fne e hm,hc e hm,z2,z3,z4,z5,lkE e hm⟩
 ·rcases lk x k hx with ⟨e,hm,rfl,rfl⟩|hk
  ·obtain⟨f',fd,z1,_⟩:=fnd e hm;exact⟨f',z1⟩
  ·exact gl x k hk
 ·obtain⟨k0,h1,rfl⟩:=pe hx;have:=gl x k0 h1;cases k0 with
  |fn fr=>exact absurd h1 (hof x fr)
  |exc=>obtain⟨C,z1,z2,_⟩:=this;exact⟨by simp[unx],by simp[unx],⟨C,z1,z2⟩⟩
  |_=>exact⟨by simp[unx],by simp[unx],this⟩
 ·rcases pk hx with ⟨e,hm,rfl,rfl⟩|hk
  ·obtain⟨f',fd,z1,z2,z3,z4,z5⟩:=fnd e (hus e hm);exact .inr ⟨e.fr,f',e.st,e.own,fd,e.fn,rfl,z1,fne e (hus e hm),hcu e hm,z2,z3,z4,z5⟩
  ·exact .inl hk
 ·have z:subs.lookup (k,cl)=some b:=z;obtain⟨C,cv,h0,h1,h2,h3,h4⟩:=hsub _ (nN z);refine⟨C,cv,iG h1 h0,h2,h3,?_⟩;cases cl with
  |ty n=>exact h4
  |ex x=>obtain⟨D,d0,d1,d2⟩:=h4;exact⟨D,iG d1 d0,d2⟩
theorem Du{l:PySem.W.OpenLaw}{q:ay}{loose:List Str}{XP:(Str->Option ae)->Heap->Prop}{YP:au->Heap->Prop}{d:DefRec}{K:Params->av}{tab:List Ent}{G:List (Str×GK)}{vals:List (Str×D)}{cls:List Str}{cq:List (Str×Str)}{subs:List ((Str×Cl)×Bool)}{GH GU:List (Str×GK)}{e:Ent}{k:Nat}
  (hn:l.most=some 63) (hdf:d.params.defaults=[]) (hd:d.name=e.x) (hr:bW k callerA) (hY:∀(w:au) (h:Heap),YP w h->(K w.params).In h) (hm:e∈tab) (hnd:(tab.map (·.x)).Nodup) (hx:e.x = "law") (hfr:e.fr=false) (hp:argNames (zc e.st)=[("_law_script" : Str)])
  (hG:∀(w:au) (mg:Str->Option ae) (h:Heap),(K w.params).In h->h.Ns ao mg->Ground (prT tab vals cq subs) (gOf (K w.params) (tab.map (·.x)) cls) G GH GU mg/\gM (K w.params) G e) (hc:cFn G GH e.own e.fr e.st=some e.fn)
  (hlaw:∀ns:List Int,ns.length<=63->qa (prT tab vals cq subs) k "law" [.lst (ns.map D.int)]=.ok (.bl true)) :
  PySem.W.WalkO q loose XP YP l.row.toRowW d [] (λf vs=>PySem.call f vs):=by
 refine L2.Bs (n:=63) (k:=k) (x:="_law_script") (CX:=λw=>CX1 l.prog w) (sp:=λw=>spF (wAt (prT tab vals cq subs) k) (gOf (K w.params) (tab.map (·.x)) cls) "law" false) hn (by decide) hdf hr hY (λw mg fa h KX N hfa=>?_) (λw H a ns hl _ hS=>?_) λw H s e s' z=>?_
 ·obtain⟨T,⟨f,dd⟩,hb⟩:=hG w mg h KX N;have e1:=hfa.symm.trans (hd▸PySem.W.mg_of KX N dd.a);cases e1;obtain⟨oc,od,an,sl,kV,dc,pm,cd,ct,lk,hcd⟩:=dd.l;refine⟨bN e.x e.x (zc e.st) (zV e.st) (za e.st) .none kV dc pm an cd ct,λs u=>.of_eq ?_,λbase _ _=>?_⟩
  ·have:=hb kV dc pm an cd ct [u] (by rw[hp];rfl);rw[hp]at this;exact this
  ·have:=T.ok (P:=l.prog) (wl:=w) (base:=base) k e.x fa e.st e.own e.fr _ e.fn (by show (tab.find? (·.x==e.x)).map (·.fn)=_;rw[rL hnd hm];rfl) hc (oH (st:=e.st) lk hcd dd.k);rw[hp,hx,hfr]at this;rw[hx];exact this
 ·refine⟨⟨λ_=>false,λ_=>false,[],λ_=>none⟩,[.lst (ns.map D.int)],(λa z=>by rcases z with z|z<;>cases z),.cons (.lst (xs:=ns.map V.int) ?_ (qV.ofInts _)) .nil,?_⟩
  ·have:hid H ⟨λ_=>false,λ_=>false,[],λ_=>none⟩=H:=by funext b;unfold hid;rw[if_neg (by simp)]
   rw[this];exact hS
  ·show tR _ _ _ (qa (prT tab vals cq subs) k "law" [.lst (ns.map D.int)]) _;rw[hlaw ns hl];intro v H' _ r _;cases r;rfl
 ·obtain⟨_,_,_,_,_,_,_,_,_,z⟩:=z;exact z
end EV
namespace KT
open PySem PySem.Builtin PySem.Builtin.Str
open L2 (zq zx zJ qe zw pickL)
structure Tx(n:Nat)(x:Str):Prop where
 len:x.length<=n
 ok:PyData.strOk x=true
theorem Tx.mono{n m:Nat}{x:Str}(h:Tx n x)(q:n<=m):Tx m x:=⟨aX h.len q,h.ok⟩
theorem dE(x:Str):PyData.strOk x=true↔∀c∈x.cps.toList,c<0x110000:=by
 unfold PyData.strOk;rw[Array.all_eq_true_iff_forall_mem];simp
theorem iQ{x y:Str}(h:∀c∈y.cps.toList,c∈x.cps.toList)(q:PyData.strOk x=true):PyData.strOk y=true:=by
 rw[dE]at q ⊢;exact λc hc=>q c (h c hc)
theorem len_list(x:Str):x.length=x.cps.toList.length:=by simp[Str.length]
theorem m7{x:Str}{l:List Nat}{c:Nat}(h:c∈l.filterMap (x.cps[·]?)):c∈x.cps.toList:=by
 obtain⟨i,_,hi⟩:=List.mem_filterMap.mp h;exact Array.mem_toList_iff.mpr (Array.mem_of_getElem? hi)
theorem Cr(lo hi:Option Int)(n:Nat):(strSliceIndices lo hi 1 n).length<=n:=by
 unfold strSliceIndices sliceRange;simp only[aV,List.length_range];cases lo with
 |none=>
  cases hi with
  |none=>simp;split<;>lia
  |some j=>simp;split<;>split<;>lia
 |some i=>
  cases hi with
  |none=>simp;split<;>split<;>lia
  |some j=>simp;split<;>split<;>split<;>lia
theorem rj(n:Nat):(strSliceIndices none none (-1) n).length<=n:=by
 unfold strSliceIndices sliceRange;simp only[aV,List.length_range];simp;split<;>lia
theorem rO{n:Nat}{x:Str}(h:Tx n x)(lo hi:Option Int):Tx n (zq x lo hi):=by
 unfold zq;split
 ·exact h
 ·refine⟨?_,iQ (λc hc=>m7 (by simpa using hc)) h.ok⟩;have:=List.length_filterMap_le (x.cps[·]?) (strSliceIndices lo hi 1 x.length);have:=Cr lo hi x.length;have:=h.len;simp only[Str.length,aL]at *;lia
theorem oz{n:Nat}{x:Str}(h:Tx n x):Tx n (zx x):=by
 unfold zx;refine⟨?_,iQ (λc hc=>m7 (by simpa using hc)) h.ok⟩;have:=List.length_filterMap_le (x.cps[·]?) (strSliceIndices none none (-1) x.length);have:=rj x.length;have:=h.len;simp only[Str.length,aL]at *;lia
theorem pK(x:Str):(zx x).length<=x.length:=by
 unfold zx;have:=List.length_filterMap_le (x.cps[·]?) (strSliceIndices none none (-1) x.length);have:=rj x.length;simp only[Str.length,aL]at *;lia
theorem gj{n m:Nat}{x y:Str}(h:Tx n x)(q:Tx m y):Tx (n+m) (x++y):=by
 refine⟨?_,?_⟩
 ·rw[PySem.Str.length_append];exact Nat.add_le_add h.len q.len
 ·rw[dE];intro c hc;rw[PySem.Str.cps_append,Array.toList_append,List.mem_append]at hc;rcases hc with hc|hc
  ·exact(dE x).mp h.ok c hc
  ·exact(dE y).mp q.ok c hc
theorem rY(x y:Str):qe x y=Txt.split x y:=by
 unfold qe Txt.split
 rfl
theorem lR(x y:Str):glued y (qe x y)=x:=by rw[rY,StrLaws.glued_eq_join];exact StrLaws.join_split x y
theorem iM(x y:Str):qe x y≠[]:=by
 unfold qe;split
 ·simp
 ·split
  ·simp
  ·intro h;have:=length_partsBetween x (occurrences x y 0 x.length (x.length+1)) y.length;rw[h]at this;cases this
theorem jJ(x y:Str)(hy:y.length=1):((qe x y).map (·.length)).sum+(qe x y).length=x.length+1:=by
 have e:=size_glued y (qe x y);rw[lR,hy]at e;have:=List.length_pos_iff.mpr (iM x y);lia
theorem lU{sep:Str}:∀{l:List Str}{a:Array Nat}{p:Str}{c:Nat},p∈l->c∈p.cps.toList->c∈(l.foldl (λacc p=>acc++sep.cps++p.cps) a).toList
 | [],_,_,_,h,_=>by cases h
 |q::l,a,p,c,h,hc=>by
  rw[List.foldl_cons];rcases aG.mp h with rfl|h
  ·have:∀(l:List Str) (b:Array Nat),c∈b.toList->c∈(l.foldl (λacc p=>acc++sep.cps++p.cps) b).toList:=by
    intro l
    induction l with
    |nil=>intro b hb;exact hb
    |cons q l ih=>intro b hb;exact ih _ (by simp at hb ⊢;simp[hb])
   exact this l _ (by simp at hc ⊢;simp[hc])
  ·exact lU h hc
theorem BO{sep:Str}{l:List Str}{p:Str}{c:Nat}(h:p∈l)(hc:c∈p.cps.toList):c∈(glued sep l).cps.toList:=by
 cases l with
 |nil=>cases h
 |cons q l=>
  show c∈(l.foldl (λacc p=>acc++sep.cps++p.cps) q.cps).toList;rcases aG.mp h with rfl|h
  ·have:∀(l:List Str) (b:Array Nat),c∈b.toList->c∈(l.foldl (λacc p=>acc++sep.cps++p.cps) b).toList:=by
    intro l
    induction l with
    |nil=>intro b hb;exact hb
    |cons q l ih=>intro b hb;exact ih _ (by simp at hb ⊢;simp[hb])
   exact this l _ hc
  ·exact lU h hc
theorem mD{sep:Str}:∀{l:List Str}{a:Array Nat}{c:Nat},c∈(l.foldl (λacc p=>acc++sep.cps++p.cps) a).toList->c∈a.toList\/c∈sep.cps.toList\/∃p∈l,c∈p.cps.toList
 | [],_,_,h=>.inl h
 |q::l,a,c,h=>by
  rw[List.foldl_cons]at h;rcases mD h with h|h|⟨p,hp,h⟩
  ·simp only[Array.toList_append,List.mem_append]at h;rcases h with (h|h)|h
   ·exact .inl h
   ·exact .inr (.inl h)
   ·exact .inr (.inr ⟨q,aK,h⟩)
  ·exact .inr (.inl h)
  ·exact .inr (.inr ⟨p,aJ _ hp,h⟩)
theorem rZ{x y p:Str}{c:Nat}(hp:p∈qe x y)(hc:c∈p.cps.toList):c∈x.cps.toList:=by
 have:=BO (sep:=y) hp hc
 rwa[lR]at this
theorem lZ:∀{l:List Nat}{a:Nat},a∈l->a<=l.sum
 | [],_,h=>by cases h
 |b::l,a,h=>by
  rw[List.sum_cons];rcases aG.mp h with rfl|h
  ·lia
  ·have:=lZ h;lia
theorem lr{n:Nat}{x y p:Str}(h:Tx n x)(hp:p∈qe x y)(hy:y.length=1):Tx n p:=by
 refine⟨?_,iQ (λc hc=>rZ hp hc) h.ok⟩;have:=jJ x y hy;have:=lZ (List.mem_map_of_mem (f:=(·.length)) hp);have:=List.length_pos_iff.mpr (iM x y);have:=h.len;lia
theorem wQ(sep:Str)(l:List Str):zw sep l=glued sep l:=by
 match l with
 | []=>rfl
 | [p]=>simp[zw,glued]
 |p::q::r=>rfl
theorem iq{n:Nat}{sep:Str}{l:List Str}(hs:sep.length=1)(ok:PyData.strOk sep=true)(hl:∀p∈l,PyData.strOk p=true)(hn:(l.map (·.length)).sum+l.length<=n+1):Tx n (zw sep l):=by
 rw[wQ];refine⟨?_,?_⟩
 ·rw[size_glued,hs];cases l with
  |nil=>simp
  |cons p r=>simp only[bU]at *;lia
 ·rw[dE];intro c hc;cases l with
  |nil=>simp[glued,Str.empty]at hc
  |cons p r=>
   rcases mD (l:=r) (a:=p.cps) hc with h|h|⟨q,hq,h⟩
   ·exact(dE p).mp (hl p aK) c h
   ·exact(dE sep).mp ok c h
   ·exact(dE q).mp (hl q (aJ _ hq)) c h
theorem nE{α β:Type}{f:α->Option β}{g:α->β}:∀{l:List α},(∀x∈l,f x=some (g x))->l.filterMap f=l.map g
 | [],_=>rfl
 |x::l,h=>by
  rw[List.filterMap_cons_some (h x aK),a7,nE λy hy=>h y (aJ _ hy)]
theorem kY{α:Type}(xs:List α):pickL xs none (some 0) (some (-1))=(xs.drop 1).reverse:=by
 unfold pickL;cases xs with
 |nil=>simp[sliceBounds,sliceRange]
 |cons x r=>
  have e:sliceRange (sliceBounds none (some 0) (some (-1)) (x::r).length).1 (sliceBounds none (some 0) (some (-1)) (x::r).length).2.1 (sliceBounds none (some 0) (some (-1)) (x::r).length).2.2=(aR r.length).map λk=>r.length-k:=by
   have a1:(sliceBounds none (some 0) (some (-1)) (x::r).length).1=(r.length:Int):=by simp[sliceBounds]
   have a2:(sliceBounds none (some 0) (some (-1)) (x::r).length).2.1=0:=by simp[sliceBounds];lia
   have a3:(sliceBounds none (some 0) (some (-1)) (x::r).length).2.2 = -1:=by simp[sliceBounds]
   rw[a1,a2,a3,sliceRange];have a4:(if (-1:Int)>0 then (if (r.length:Int)<0 then (0-(r.length:Int) + -1-1) / -1 else 0)else (if (r.length:Int)>0 then ((r.length:Int)-0 - -1-1)/(- -1)else 0)).toNat=r.length:=by
    rw[if_neg (by decide)];simp only[Int.neg_neg,Int.ediv_one];split<;>lia
   simp only[a4];refine List.map_congr_left λk hk=>?_
   rw[List.mem_range]at hk;lia
  rw[e,List.filterMap_map];have e':∀k∈aR r.length,((λi=>(x::r)[i]?)∘λk=>r.length-k) k=some (r.reverse[k]?.getD x):=by
   intro k hk;rw[List.mem_range]at hk;show (x::r)[r.length-k]? = _;obtain⟨j,hj⟩:∃j,r.length-k=j+1:=⟨r.length-k-1,by lia⟩
   rw[hj,List.getElem?_cons_succ,List.getElem?_reverse (by simpa using hk),show r.length-1-k=j by lia,List.getElem?_eq_getElem (by lia)]
   rfl
  rw[nE e'];simp only[List.drop_one,List.tail_cons];apply List.ext_getElem
  ·simp
  ·intro i h1 h2;simp at h1 h2 ⊢;simp[h2]
abbrev FIG:Str:="0123456789"
noncomputable def dg(c:Nat):Bool:=decide (48<=c)&&decide (c<=57)
theorem we:∀c∈[48,49,50,51,52,53,54,55,56,57],c<58:=by decide
theorem vm:∀c:Fin 58,c.val∈[48,49,50,51,52,53,54,55,56,57]↔dg c.val=true:=by decide +kernel
theorem ny(c:Nat):c∈FIG.cps.toList↔dg c=true:=by
 have e:FIG.cps.toList=[48,49,50,51,52,53,54,55,56,57]:=by decide +kernel
 rw[e];by_cases h:c<58
 ·exact vm ⟨c,h⟩
 ·refine⟨λq=>absurd (we c q) h,λq=>?_⟩;unfold dg at q;rw[aH,decide_eq_true_eq,decide_eq_true_eq]at q;exact absurd (show c<58 by lia) h
theorem xU(c:Nat):FIG.cps.contains c=dg c:=by
 rw[Bool.eq_iff_iff,<-ny];simp
noncomputable def nm(x:Str):Option Int:=if x.cps.toList≠[]/\x.cps.toList.all dg=true/\¬ (x.cps.toList.head? = some 48/\1<x.cps.toList.length)then some ((NumText.digitsVal x.cps.toList:Nat):Int)else none
theorem BG(x:Str):zJ x FIG=ah ""↔x.cps.toList.all dg=true:=by
 have hg:(FIG.cps.contains:Nat->Bool)=dg:=funext xU;have e:zJ x FIG=strSub x (stripLo dg true x) (stripHi dg true x (stripLo dg true x)):=by
  have:=PyProof.Rows.stripBy_eq FIG.cps.contains true true x;rw[hg]at this;rw[<-this];unfold zJ Txt.stripBy;rw[hg]
 obtain⟨a1,a2,a3⟩:=PyProof.Rows.lo_facts dg x;obtain⟨b1,b2,b3,b4⟩:=PyProof.Rows.hi_facts dg x _ a1;have hl:=len_list x;have hd:∀k,k<x.length->x.cps.getD k 0=x.cps.toList.getD k 0:=λk _=>(PyProof.Rows.getD_list x k).symm
 rw[e];constructor
 ·intro h;have h':=congrArg Str.length h;have h0:(ah "").length=0:=by decide +kernel
  rw[h0]at h';have hs:(strSub x (stripLo dg true x) (stripHi dg true x (stripLo dg true x))).length=min (stripHi dg true x (stripLo dg true x)) x.length-stripLo dg true x:=by simp[strSub,Str.length]
  rw[hs]at h';rw[b7];intro c hc;obtain⟨k,hk⟩:=List.getElem?_of_mem hc;have hk':k<x.length:=by rw[hl];exact(List.getElem?_eq_some_iff.mp hk).1
  have hc':x.cps.getD k 0=c:=by rw[hd k hk',List.getD,hk];rfl
  by_cases q:k<stripLo dg true x
  ·rw[<-hc'];exact a2 k q
  ·rw[<-hc'];exact b3 k (by lia) hk'
 ·intro h;have hlo:stripLo dg true x=x.length:=by
   rcases a3 with q|q
   ·exact q
   ·by_cases z:stripLo dg true x<x.length
    ·rw[hd _ z,List.getD,List.getElem?_eq_getElem (by lia)]at q;have:=b7.mp h _ (cN (show stripLo dg true x<x.cps.toList.length by lia));rw[Option.getD_some,this]at q;cases q
    ·lia
  have hz:(strSub x (stripLo dg true x) (stripHi dg true x (stripLo dg true x))).cps.toList=[]:=by
   rw[StrLaws.strSub_toList,hlo];simp[hl]
  have h0:(ah "").cps.toList=[]:=by decide +kernel
  exact PySem.Str.ext' (Array.toList_inj.mp (by rw[hz,h0]))
theorem ng{x:Str}(h:x.cps.toList.all dg=true)(h1:x.cps.toList≠[])(h2:x.length<=640):intText? x=some ((NumText.digitsVal x.cps.toList:Nat):Int):=
 intText_digits (λc hc=>by have:=b7.mp h c hc;simpa[dg]using this) h1 (by lia)
theorem mj:∀(l:List Nat) (a:Nat),a<=l.foldl (λacc c=>acc * 10+(c-48)) a
 | [],a=>az _
 |c::l,a=>aX (show a<=a * 10+(c-48)by lia) (mj l _)
theorem CD{x:Str}{i:Int}(h:nm x=some i)(h2:1<x.length):10<=i:=by
 unfold nm at h;split at h
 ·rename_i q
  cases h;obtain⟨q1,q2,q3⟩:=q;rw[len_list]at h2;generalize x.cps.toList=l at *
  match l,q1,q2,q3,h2 with
  |a::b::r,_,q2,q3,_=>
   have ha:dg a=true:=b7.mp q2 a aK;have hne:a≠48:=λe=>q3 ⟨by rw[e];rfl,by simp⟩
   simp only[dg,aH,decide_eq_true_eq]at ha;unfold NumText.digitsVal;rw[List.foldl_cons,List.foldl_cons];have:=mj r ((0 * 10+(a-48)) * 10+(b-48));lia
 ·cases h
theorem nW{x:Str}{i:Int}(h:nm x=some i):0<=i:=by
 unfold nm at h;split at h
 ·cases h;lia
 ·cases h
end KT
namespace KG
open EV
open PySem (Str)
open L2 (atI ixN ltP)
abbrev prD:Int×Int->D:=EV.pairD
theorem qL{w:W}{f:Fn}{ds:List D}{d:D}{τ:Env}(hl:ds.length=f.ps)(hτ:ds.map some++bF (f.N-f.ps) none=τ)(h:qf w f.body τ=.rt d):cf w f ds=.ok d:=by
 rw[cf,if_pos hl,hτ,h]
theorem zB{w:W}{s:S}{r:Ss}{τ σ:Env}{o:O}(h:evS w s τ=.nx σ)(h':qf w r σ=o):qf w (.cons s r) τ=o:=by rw[qf,h];exact h'
theorem pF{w:W}{tg:Tg}{it:It}{b r:Ss}{τ:Env}{o:O}{ds:List D}(I:List D->Env->Prop)(h:evI w it τ=.ok ds)(h0:I ds τ)
  (hs:∀x t σ,I (x::t) σ->∃σ1 σ2,store tg x σ=.ok σ1/\qf w b σ1=.nx σ2/\I t σ2) (hn:∀σ,I [] σ->qf w r σ=o):qf w (.cons (.for tg it b) r) τ=o:=by
 have key:∀(l:List D) (σ:Env),I l σ->∃σ',cy tg (λσ=>qf w b σ) l σ=.nx σ'/\I [] σ':=by
  intro l
  induction l with
  |nil=>intro σ q;exact⟨σ,rfl,q⟩
  |cons x t ih=>
   intro σ q;obtain⟨σ1,σ2,a,b',c⟩:=hs x t σ q;obtain⟨σ',d,e⟩:=ih σ2 c;exact⟨σ',by rw[cy,a];simp only[R.out_ok];rw[b'];exact d,e⟩
 obtain⟨σ',a,b'⟩:=key ds τ h0;rw[qf,cc,h];simp only[R.out_ok];rw[a];exact hn σ' b'
theorem fS{w:W}{it:It}{cap:List (Option Nat)}{t:T}{elt:E}{τ c:Env}{ds:List D}{g:D->List D}(h:evI w it τ=.ok ds)(hz:ds.length<=SZ)(hc:dX cap τ=none::none::c)
  (hb:∀x∈ds,((evT w t (none::some x::c)).bind λr=>if r then (evE w elt (none::some x::c)).bind λd=>.ok [d]else .ok [])=.ok (g x)):evE w (.comp it cap (.nm 1) t elt) τ=.ok (.lst (ds.flatMap g)):=by
 have key:∀(l:List D) (v:Option D) (acc:List D),(∀x∈l,x∈ds)->ck (λx σ=>noEx ((store (.nm 1) x σ).bind λσ'=>(evT w t σ').bind λr=>if r then (evE w elt σ').bind λd=>.ok (σ',[d])else .ok (σ',[]))) l (none::v::c) acc=.ok (acc++l.flatMap g):=by
  intro l
  induction l with
  |nil=>intro v acc _;simp[ck]
  |cons x r ih=>
   intro v acc hm;have q:=hb x (hm x aK);rw[ck];have e:noEx ((store (.nm 1) x (none::v::c)).bind λσ'=>(evT w t σ').bind λr=>if r then (evE w elt σ').bind λd=>.ok (σ',[d])else .ok (σ',[]))=.ok (none::some x::c,g x):=by
    simp only[store,R.bind_ok,List.set_cons_succ,List.set_cons_zero];cases ht:evT w t (none::some x::c)with
    |ok b=>
     rw[ht]at q;simp only[R.bind_ok]at q ⊢;cases b
     ·simp at q ⊢;rw[<-q];rfl
     ·simp only[if_true]at q ⊢;cases he:evE w elt (none::some x::c)with
      |ok d=>rw[he]at q;simp only[R.bind_ok,R.ok.injEq]at q ⊢;rw[<-q];rfl
      |ex=>rw[he]at q;cases q
      |no=>rw[he]at q;cases q
    |ex=>rw[ht]at q;cases q
    |no=>rw[ht]at q;cases q
   rw[e];simp only[R.bind_ok];rw[ih (some x) _ λy hy=>hm y (aJ _ hy),List.flatMap_cons,List.append_assoc]
 rw[qr,h];simp only[R.bind_ok];rw[if_neg (by lia),hc,key ds none [] λ_ h=>h]
 rfl
theorem A6{w:W}{i:Int}:zL w (.int i) (.ty "int")=.ok (.bl true):=rfl
theorem xB{w:W}{i:Int}:zL w (.int i) (.ty "bool")=.ok (.bl false):=rfl
theorem AF{w:W}{i:List D}:zL w (.tup i) (.ty "tuple")=.ok (.bl true):=rfl
theorem Bi{w:W}{i:List D}:zL w (.tup i) (.ty "bool")=.ok (.bl false)/\zL w (.tup i) (.ty "int")=.ok (.bl false)/\zL w (.tup i) (.ty "str")=.ok (.bl false)/\zL w (.tup i) (.ty "list")=.ok (.bl false):=⟨rfl,rfl,rfl,rfl⟩
theorem BP{w:W}{i:Bool}:zL w (.bl i) (.ty "bool")=.ok (.bl true):=rfl
theorem Dr(t:Int×Int):(prD t).asks=true:=rfl
theorem jP:∀ns:List Int,plainAll (ns.map D.int)=true
 | []=>rfl
 |_::r=>jP r
theorem lz:∀ns:List Int,eI (ns.map D.int)=0
 | []=>rfl
 |_::r=>by show max 0 (eI _)=0;rw[lz r];rfl
theorem pf(ns:List Int):(D.tup (ns.map D.int)).asks=true:=by
 simp[D.asks,D.plain,D.deep,jP,lz]
theorem lL:∀ns ms:List Int,eqvAll (ns.map D.int) (ms.map D.int)=decide (ns=ms)
 | [],[]=>rfl
 | [],_::_=>rfl
 |_::_,[]=>rfl
 |a::r,b::t=>by
  show (a==b&&eqvAll (r.map D.int) (t.map D.int))=_;rw[lL r t];simp[Bool.decide_and]
  rfl
noncomputable def mn(a b:Int):Int:=if b<a then b else a
noncomputable def mx(a b:Int):Int:=if a<b then b else a
noncomputable def g_(ts:List (Int×Int))(a b:Int):Bool:=ts.any λt=>t.1==mn a b&&t.2==mx a b
theorem By(ts:List (Int×Int))(u v:Int):qh .isin (.tup [.int u,.int v]) (.tup (ts.map prD))=.ok (ts.any λt=>t.1==u&&t.2==v):=by
 rw[qh];simp only[seq?];rw[if_pos (by simp only[aH,b7,aQ];exact⟨rfl,λx ⟨t,_,e⟩=>e▸Dr t⟩),inD,List.any_map]
 congr 2;funext t;show ((t.1==u)&&((t.2==v)&&true))=_;rw[Bool.and_true]
theorem v_(ns ms:List Int):qh .eq (.tup (ns.map D.int)) (.tup (ms.map D.int))=.ok (decide (ns=ms)):=by
 rw[qh]
 ·rw[if_pos (by simp only[aH];exact⟨pf _,pf _⟩)];show R.ok (eqvAll _ _)=_;rw[lL]
 all_goals (intros;rintro⟨⟩)
structure GW(m:Int)(ts:List (Int×Int)):Prop where
 lo:1<=m
 hi:m<=8
 lt:ts.Pairwise λs t=>ltP s t=true
 ok:∀t∈ts,0<=t.1/\t.1<t.2/\t.2<m
 len:ts.length<=28
structure GS(m:Int)(s:List Int):Prop where
 lt:s.Pairwise (· < ·)
 ok:∀i∈s,0<=i/\i<m
 len:s.length<=8
abbrev wb(m:Int)(ts:List (Int×Int)):D:=.tup [.int m,.tup (ts.map prD)]
abbrev tu(s:List Int):D:=.tup (s.map D.int)
theorem fB{xs:List D}{i:Nat}(h:i<xs.length):atI xs (i:Int)=some xs[i]:=by
 rw[atI,ixN,if_pos (by lia),if_pos (by lia)];simp[h]
theorem all_true(xs:List D):bools? (xs.flatMap λ_=>[.bl true])=some (bF xs.length true):=by
 induction xs with
 |nil=>rfl
 |cons x r ih=>show (bools? (r.flatMap λ_=>[.bl true])).map (true :: ·)=_;rw[ih];rfl
theorem Bm(n:Nat):(bF n true).all id=true:=by simp
theorem Ca{s t:Int×Int}(h:ltP s t=true):qh .lt (prD s) (prD t)=.ok true:=by
 show R.ok (eF [s.1,s.2] [t.1,t.2])=_;rw[ltP]at h;simp only[eF];by_cases e:s.1=t.1
 ·rw[if_pos e]at h ⊢;by_cases e2:s.2=t.2
  ·rw[e2]at h;simp at h
  ·rw[if_neg e2,h]
 ·rw[if_neg e]at h ⊢;rw[h]
noncomputable def rng(m:Int):List Int:=(aR m.toNat).map λ(i:Nat)=>(i:Int)
theorem fm(m:Int):zA 0 m.toNat=(rng m).map D.int:=by
 rw[zA,rng,bM];simp
theorem lS(m:Int):(rng m).length=m.toNat:=by simp[rng]
theorem lM{m i:Int}:i∈rng m↔0<=i/\i<m:=by
 simp only[rng,aQ,List.mem_range];constructor
 ·rintro⟨a,h,rfl⟩;lia
 ·intro h;exact⟨i.toNat,by lia,by lia⟩
theorem nc(m:Int):(rng m).Pairwise (· < ·):=by
 rw[rng,List.pairwise_map];exact List.pairwise_lt_range.imp λh=>by lia
theorem jR(c:Int->Bool)(ns:List Int):(ns.map D.int).flatMap (λx=>match x with | .int i=>if c i then [D.int i]else []|_=>[])=(ns.filter c).map D.int:=by
 induction ns with
 |nil=>rfl
 |cons a r ih=>
  rw[a7,List.flatMap_cons,ih,List.filter_cons];show (if c a=true then [D.int a]else [])++_=_;cases c a<;>rfl
theorem AJ(x y:Int)(h:0<y)(h':y<=2^64):small (x%y)=true:=by
 have a:=Int.emod_nonneg x (show y≠0 by lia);have b:=Int.emod_lt_of_pos x h;simp only[small,aH,decide_eq_true_eq];lia
noncomputable def st(c j:Int):Int:=
 ((((c%2147483647+977 * j+1) * 48271%2147483647) * ((c%2147483647+977 * j+1) * 48271%2147483647)%2147483629+40692 * (j+3)) * 69621%2147483647)/8
theorem GW.sub{m:Int}{ts ps:List (Int×Int)}(h:GW m ps)(s:ts.Sublist ps):GW m ts:=
 ⟨h.lo,h.hi,h.lt.sublist s,λt ht=>h.ok t (s.subset ht),aX s.length_le h.len⟩
theorem eq_int(a b:Int):qh .eq (.int a) (.int b)=.ok (decide (a=b)):=by
 show R.ok (a==b)=_;congr 1
theorem lt_int(a b:Int):qh .lt (.int a) (.int b)=.ok (decide (a<b)):=rfl
theorem wF{w:W}{tg:Tg}{it:It}{b r:Ss}{τ:Env}{ds:List D}(I:List D->Env->Prop)(h:evI w it τ=.ok ds)(h0:I ds τ)
  (hs:∀x t σ,I (x::t) σ->∃σ1 σ2,store tg x σ=.ok σ1/\qf w b σ1=.nx σ2/\I t σ2):∃σ,I [] σ/\qf w (.cons (.for tg it b) r) τ=qf w r σ:=by
 have key:∀(l:List D) (σ:Env),I l σ->∃σ',cy tg (λσ=>qf w b σ) l σ=.nx σ'/\I [] σ':=by
  intro l
  induction l with
  |nil=>intro σ q;exact⟨σ,rfl,q⟩
  |cons x t ih=>
   intro σ q;obtain⟨σ1,σ2,a,b',c⟩:=hs x t σ q;obtain⟨σ',d,e⟩:=ih σ2 c;exact⟨σ',by rw[cy,a];simp only[R.out_ok];rw[b'];exact d,e⟩
 obtain⟨σ',a,b'⟩:=key ds τ h0;refine⟨σ',b',?_⟩;rw[qf,cc,h];simp only[R.out_ok];rw[a]
 rfl
theorem ints_map(ns:List Int):ints? (ns.map D.int)=some ns:=by
 induction ns with
 |nil=>rfl
 |cons a r ih=>show (ints? (r.map D.int)).map (a :: ·)=_;rw[ih];rfl
noncomputable instance (m:Int) (ts:List (Int×Int)):Decidable (GW m ts):=
 decidable_of_iff (1<=m/\m<=8/\ts.Pairwise (λs t=>ltP s t=true)/\(∀t∈ts,0<=t.1/\t.1<t.2/\t.2<m)/\ts.length<=28) ⟨λ⟨a,b,c,d,e⟩=>⟨a,b,c,d,e⟩,λ⟨a,b,c,d,e⟩=>⟨a,b,c,d,e⟩⟩
noncomputable def Ends(J:Env->Prop)(Q:D->Prop):O->Prop
 | .nx σ=>J σ
 | .rt d=>Q d
 |_=>False
section
variable{w:W}{J K:Env->Prop}{Q:D->Prop}{s:S}{r:Ss}{τ σ:Env}
theorem fz(h:J τ):Ends J Q (qf w .nil τ):=by rw[qf];exact h
theorem cW(h:evS w s τ=.nx σ)(h':Ends J Q (qf w r σ)):Ends J Q (qf w (.cons s r) τ):=by rw[qf,h];exact h'
theorem eC(h:Ends K Q (evS w s τ))(h':∀σ,K σ->Ends J Q (qf w r σ)):Ends J Q (qf w (.cons s r) τ):=by
 rw[qf];cases q:evS w s τ with
 |nx σ=>rw[q]at h;exact h' σ h
 |rt d=>rw[q]at h;exact h
 |_=>rw[q]at h;exact h.elim
theorem eh{e:E}{d:D}(h:evE w e τ=.ok d)(hq:Q d):Ends J Q (qf w (.cons (.ret e) r) τ):=by
 rw[qf,zC,h];exact hq
theorem fg{t:T}{a b:Ss}{v:Bool}(h:evT w t τ=.ok v)(h1:v=true->Ends J Q (qf w a τ))(h2:v=false->Ends J Q (qf w b τ)):Ends J Q (evS w (.ite t a b) τ):=by
 rw[zS,h];cases v
 ·exact h2 rfl
 ·exact h1 rfl
theorem jC{tg:Tg}{it:It}{b:Ss}{ds:List D}(I:List D->Env->Prop)(h:evI w it τ=.ok ds)(h0:I ds τ)(hs:∀x t σ,I (x::t) σ->∃σ1,store tg x σ=.ok σ1/\Ends (I t) Q (qf w b σ1))(hn:∀σ,I [] σ->Ends J Q (qf w r σ)):Ends J Q (qf w (.cons (.for tg it b) r) τ):=by
 have key:∀(l:List D) (σ:Env),I l σ->Ends (I []) Q (cy tg (λσ=>qf w b σ) l σ):=by
  intro l
  induction l with
  |nil=>intro σ q;exact q
  |cons x t ih=>
   intro σ q;obtain⟨σ1,a,b'⟩:=hs x t σ q;rw[cy,a];simp only[R.out_ok];cases z:qf w b σ1 with
   |nx σ2=>rw[z]at b';exact ih σ2 b'
   |rt d=>rw[z]at b';exact b'
   |_=>rw[z]at b';exact b'.elim
 have hk:=key ds τ h0;refine eC (K:=I []) ?_ hn;rw[cc,h];simp only[R.out_ok];cases z:cy tg (λσ=>qf w b σ) ds τ with
 |nx σ2=>rw[z]at hk;exact hk
 |rt d=>rw[z]at hk;exact hk
 |_=>rw[z]at hk;exact hk.elim
end
noncomputable def hd(m:Int)(ts:List (Int×Int))(a:Int):List Int:=(rng m).filter λb=>b==a||g_ ts a b
end KG
noncomputable def KG.Z:=aw @EV.qf.eq_1 (aw @EV.qf.eq_2 (aw @EV.cg (aw @EV.cB (aw @EV.cC (aw @EV.zC (aw @EV.cA (aw @EV.zS (aw @EV.zR (aw @EV.qW (aw @EV.zb (aw @EV.itr?.eq_1 (aw @EV.itr?.eq_2 (aw @EV.qZ (aw @EV.zj (aw @EV.zf (aw @EV.zd (aw @EV.zg (aw @EV.qp (aw @EV.qA (aw @EV.qF (aw @EV.qu (aw @EV.qB (aw @EV.qq (aw @EV.qw (aw @EV.qo (aw @EV.qx (aw @EV.ql (aw @EV.qm (aw @EV.qz (aw @EV.qD (aw @EV.zt.eq_1 (aw @EV.zt.eq_2 (aw @EV.eM (aw @EV.eK (aw @EV.dH (aw @EV.eX (aw @EV.eT (aw @EV.cY (aw @EV.fc (aw @EV.evI.eq_1 (aw @EV.evI.eq_2 (aw @EV.evI.eq_3 (aw @EV.evI.eq_4 (aw @EV.evI.eq_5 (aw @EV.evI.eq_6 (aw @EV.evO.eq_1 (aw @EV.evO.eq_2 (aw @EV.opI.eq_1 (aw @EV.opI.eq_2 (aw @EV.opI.eq_3 (aw @EV.opI.eq_4 (aw @EV.opI.eq_5 (aw @EV.opI.eq_6 (aw @EV.opI.eq_7 (aw @EV.opI.eq_8 (aw @EV.opI.eq_9 (aw @EV.opI.eq_10 (aw @EV.opI.eq_11 (aw @EV.b11.eq_1 (aw @EV.b11.eq_2 (aw @EV.b11.eq_3 (aw @EV.b11.eq_4 (aw @EV.b11.eq_5 (aw @EV.b11.eq_6 (aw @EV.b11.eq_7 (aw @EV.b11.eq_8 (aw @EV.b11.eq_9 (aw @EV.b11.eq_10 (aw @EV.b11.eq_11 (aw @EV.b11.eq_12 (aw @EV.b11.eq_13 (aw @EV.b11.eq_14 (aw @EV.b12.eq_1 (aw @EV.b12.eq_2 (aw @EV.b12.eq_3 (aw @EV.zO.eq_1 (aw @EV.zO.eq_2 (aw @EV.cV.eq_1 (aw @EV.cV.eq_2 (aw @EV.iiR.eq_1 (aw @EV.iiR.eq_2 (aw @EV.bP.eq_1 (aw @EV.store.eq_1 (aw @EV.store.eq_2 (aw @EV.store.eq_3 (aw @EV.setAll.eq_1 (aw @EV.setAll.eq_2 (aw @EV.setAll.eq_3 (aw @EV.truth.eq_1 (aw @EV.truth.eq_2 (aw @EV.truth.eq_3 (aw @EV.truth.eq_4 (aw @EV.truth.eq_5 (aw @EV.truth.eq_6 (aw @KG.A6 (aw @KG.xB (aw @KG.AF (aw @KG.Bi (@KG.BP)))))))))))))))))))))))))))))))))))))))))))))))))))))))))))))))))))))))))))))))))))))))))))))))))))
namespace KG
open EV
open PySem (Str)
open L2 (atI ixN ltP)
noncomputable def jF:Fn:=⟨1,1,false,(.cons (.ret (.and (.isi (.var 0) (.ty "int")) (.not (.isi (.var 0) (.ty "bool"))))) .nil)⟩
noncomputable def zG:Fn:=⟨3,3,false,(.cons (.ret (.and (.call "is_whole" (.cons (.var 0) .nil)) (.cmp2 .le .le (.var 1) (.var 0) (.var 2)))) .nil)⟩
noncomputable def fO:Fn:=⟨1,1,false,(.cons (.ret (.and (.isi (.var 0) (.ty "tuple")) (.cmp .eq (.bi .len (.cons (.var 0) .nil)) (.con (.int 2))))) .nil)⟩
noncomputable def iw:Fn:=⟨1,1,false,(.cons (.ret (.bi .all (.cons (.comp (.rng (.op .sub (.bi .len (.cons (.var 0) .nil)) (.con (.int 1)))) [none,none,some 0] (.nm 1) .yes (.cmp .lt (.ix (.var 2) (.var 1)) (.ix (.var 2) (.op .add (.var 1) (.con (.int 1)))))) .nil))) .nil)⟩
noncomputable def eW:Fn:=⟨1,3,false,(.cons (.ite (.not (.val (.call "is_pair" (.cons (.var 0) .nil)))) (.cons (.ret (.con (.bl false))) .nil) .nil) (.cons (.set (.tp [1,2]) (.var 0)) (.cons (.ite (.or (.not (.val (.call "is_between" (.cons (.var 1) (.cons (.con (.int 1)) (.cons (.glb "MOST") .nil)))))) (.not (.val (.isi (.var 2) (.ty "tuple"))))) (.cons (.ret (.con (.bl false))) .nil) .nil) (.cons (.ret (.and (.bi .all (.cons (.comp (.seq (.var 2)) [none,none,some 1] (.nm 1) .yes (.call "is_tie" (.cons (.var 1) (.cons (.var 2) .nil)))) .nil)) (.call "rises" (.cons (.var 2) .nil)))) .nil))))⟩
noncomputable def zX:Fn:=⟨2,4,false,(.cons (.ite (.not (.val (.call "is_pair" (.cons (.var 0) .nil)))) (.cons (.ret (.con (.bl false))) .nil) .nil) (.cons (.set (.tp [2,3]) (.var 0)) (.cons (.ret (.and (.call "is_whole" (.cons (.var 2) .nil)) (.and (.call "is_whole" (.cons (.var 3) .nil)) (.cmp3 .le .lt .lt (.con (.int 0)) (.var 2) (.var 3) (.var 1))))) .nil)))⟩
noncomputable def gn:Fn:=⟨1,1,false,(.cons (.ite (.not (.val (.call "is_web" (.cons (.var 0) .nil)))) (.cons (.raise "NoWeb" (.cons (.con (.str "a web is due")) .nil)) .nil) .nil) .nil)⟩
noncomputable def oP:Fn:=⟨1,1,false,(.cons (.exp (.call "need_web" (.cons (.var 0) .nil))) (.cons (.ret (.bi .tuple (.cons (.comp (.rng (.ix (.var 0) (.con (.int 0)))) [none,none,some 0] (.nm 1) .yes (.call "hood_of" (.cons (.var 2) (.cons (.var 1) .nil)))) .nil))) .nil))⟩
noncomputable def iL:Fn:=⟨2,4,false,(.cons (.set (.tp [2,3]) (.var 0)) (.cons (.ret (.bi .tuple (.cons (.comp (.rng (.var 2)) [none,none,some 1,some 3] (.nm 1) (.or (.cmp .eq (.var 1) (.var 2)) (.val (.call "are_tied" (.cons (.var 3) (.cons (.var 2) (.cons (.var 1) .nil)))))) (.var 1)) .nil))) .nil))⟩
noncomputable def iu:Fn:=⟨3,3,false,(.cons (.ret (.cmp .isin (.tup (.cons (.bi .min (.cons (.var 1) (.cons (.var 2) .nil))) (.cons (.bi .max (.cons (.var 1) (.cons (.var 2) .nil))) .nil))) (.var 0))) .nil)⟩
noncomputable def sF:Fn:=⟨2,2,false,(.cons (.ret (.bi .tuple (.cons (.comp (.seq (.var 1)) [none,none,some 0] (.nm 1) (.cmp .isin (.var 1) (.var 2)) (.var 1)) .nil))) .nil)⟩
noncomputable def yQ:Fn:=⟨2,2,false,(.cons (.ret (.comp (.seq (.var 0)) [none,none,some 1] (.nm 1) .yes (.call "mark_of" (.cons (.var 1) (.cons (.var 2) .nil))))) .nil)⟩
noncomputable def AK:Fn:=⟨1,3,false,(.cons (.set (.nm 1) (.lst (.cons (.tup .nil) .nil))) (.cons (.for (.nm 2) (.rng (.ix (.var 0) (.con (.int 0)))) (.cons (.set (.nm 1) (.op .add (.var 1) (.comp (.seq (.var 1)) [none,none,some 2] (.nm 1) .yes (.op .add (.var 1) (.tup (.cons (.var 2) .nil)))))) .nil)) (.cons (.ret (.bi .sorted (.cons (.var 1) .nil))) .nil)))⟩
noncomputable def nC:Fn:=⟨2,2,false,(.cons (.ite (.cmp .lt (.var 1) (.bi .len (.cons (.var 0) .nil))) (.cons (.ret (.ix (.var 0) (.var 1))) .nil) .nil) (.cons (.ret (.con (.int 0))) .nil))⟩
noncomputable def zE:Fn:=⟨2,3,false,(.cons (.set (.nm 2) (.op .mod (.op .mul (.op .add (.op .add (.op .mod (.var 0) (.con (.int 2147483647))) (.op .mul (.con (.int 977)) (.var 1))) (.con (.int 1))) (.con (.int 48271))) (.con (.int 2147483647)))) (.cons (.set (.nm 2) (.op .mod (.op .mul (.var 2) (.var 2)) (.con (.int 2147483629)))) (.cons (.set (.nm 2) (.op .mod (.op .mul (.op .add (.var 2) (.op .mul (.con (.int 40692)) (.op .add (.var 1) (.con (.int 3))))) (.con (.int 69621))) (.con (.int 2147483647)))) (.cons (.ret (.op .fdiv (.var 2) (.con (.int 8)))) .nil))))⟩
noncomputable def nr:Fn:=⟨2,10,false,(.cons (.set (.nm 2) (.op .add (.con (.int 1)) (.op .mod (.var 0) (.var 1)))) (.cons (.set (.nm 3) (.op .fdiv (.var 0) (.var 1))) (.cons (.set (.nm 4) (.op .mod (.var 3) (.con (.int 6)))) (.cons (.set (.nm 5) (.lst .nil)) (.cons (.for (.nm 6) (.rng2 (.con (.int 1)) (.var 2)) (.cons (.for (.nm 7) (.rng (.var 6)) (.cons (.set (.nm 8) (.op .band (.op .shr (.op .fdiv (.var 3) (.con (.int 6))) (.op .add (.op .fdiv (.op .mul (.var 6) (.op .sub (.var 6) (.con (.int 1)))) (.con (.int 2))) (.var 7))) (.con (.int 1)))) (.cons (.ite (.cmp .eq (.var 4) (.con (.int 3))) (.cons (.set (.nm 8) (.op .fdiv (.op .mod (.call "_law_stir" (.cons (.var 0) (.cons (.op .add (.op .mul (.con (.int 8)) (.var 7)) (.var 6)) .nil))) (.con (.int 3))) (.con (.int 2)))) .nil) .nil) (.cons (.ite (.cmp .eq (.var 4) (.con (.int 4))) (.cons (.set (.nm 8) (.op .fdiv (.op .add (.op .mod (.call "_law_stir" (.cons (.var 0) (.cons (.op .add (.op .mul (.con (.int 8)) (.var 7)) (.var 6)) .nil))) (.con (.int 4))) (.con (.int 2))) (.con (.int 3)))) .nil) .nil) (.cons (.ite (.cmp .eq (.var 4) (.con (.int 5))) (.cons (.set (.nm 9) (.lst (.cons (.cmp .eq (.var 6) (.op .add (.var 7) (.con (.int 1)))) (.cons (.or (.cmp .eq (.var 6) (.op .add (.var 7) (.con (.int 1)))) (.cmp .eq (.op .sub (.var 6) (.var 7)) (.op .sub (.var 2) (.con (.int 1))))) (.cons (.cmp .eq (.var 7) (.con (.int 0))) (.cons (.con (.bl true)) (.cons (.and (.cmp .eq (.var 6) (.op .add (.var 7) (.con (.int 1)))) (.cmp .lt (.op .mod (.var 7) (.con (.int 3))) (.con (.int 2)))) .nil))))))) (.cons (.set (.nm 8) (.bi .int (.cons (.ix (.var 9) (.op .mod (.op .fdiv (.var 3) (.con (.int 6))) (.con (.int 5)))) .nil))) .nil)) .nil) (.cons (.ite (.cmp .eq (.var 8) (.con (.int 1))) (.cons (.app 5 (.tup (.cons (.var 7) (.cons (.var 6) .nil)))) .nil) .nil) .nil)))))) .nil)) (.cons (.ret (.tup (.cons (.var 2) (.cons (.bi .tuple (.cons (.bi .sorted (.cons (.own 5) .nil)) .nil)) .nil)))) .nil))))))⟩
noncomputable def Ah:Fn:=⟨1,4,false,(.cons (.set (.nm 1) (.comp (.rng (.ix (.var 0) (.con (.int 0)))) [none,none] (.nm 1) .yes (.op .shl (.con (.int 1)) (.var 1)))) (.cons (.for (.tp [2,3]) (.seq (.ix (.var 0) (.con (.int 1)))) (.cons (.seti 1 (.var 2) (.op .bor (.ix (.own 1) (.var 2)) (.op .shl (.con (.int 1)) (.var 3)))) (.cons (.seti 1 (.var 3) (.op .bor (.ix (.own 1) (.var 3)) (.op .shl (.con (.int 1)) (.var 2)))) .nil))) (.cons (.ret (.own 1)) .nil)))⟩
noncomputable def B8:Fn:=⟨2,2,false,(.cons (.ret (.bi .tuple (.cons (.comp (.rng (.var 0)) [none,none,some 1] (.nm 1) (.cmp .eq (.op .band (.op .shr (.var 2) (.var 1)) (.con (.int 1))) (.con (.int 1))) (.var 1)) .nil))) .nil)⟩
noncomputable def fh:Fn:=⟨2,2,false,(.cons (.ret (.call "is_between" (.cons (.var 1) (.cons (.con (.int 0)) (.cons (.op .sub (.ix (.var 0) (.con (.int 0))) (.con (.int 1))) .nil))))) .nil)⟩
noncomputable def fK:Fn:=⟨2,2,false,(.cons (.ite (.not (.val (.isi (.var 1) (.ty "tuple")))) (.cons (.ret (.con (.bl false))) .nil) .nil) (.cons (.ret (.and (.bi .all (.cons (.comp (.seq (.var 1)) [none,none,some 0] (.nm 1) .yes (.call "is_place" (.cons (.var 2) (.cons (.var 1) .nil)))) .nil)) (.call "rises" (.cons (.var 1) .nil)))) .nil))⟩
noncomputable def oY:Fn:=⟨2,2,false,(.cons (.ite (.not (.val (.call "is_some" (.cons (.var 0) (.cons (.var 1) .nil))))) (.cons (.raise "NoPlaces" (.cons (.con (.str "a rising tuple of places of the web is due")) .nil)) .nil) .nil) .nil)⟩
structure Web(p:Pr):Prop where
 is_whole:p.fns "is_whole" = some jF
 is_between:p.fns "is_between" = some zG
 is_pair:p.fns "is_pair" = some fO
 rises:p.fns "rises" = some iw
 is_web:p.fns "is_web" = some eW
 is_tie:p.fns "is_tie" = some zX
 need_web:p.fns "need_web" = some gn
 MOST:p.glb "MOST" = some (.int 8)
structure Base(p:Pr):Prop extends Web p where
 all_some:p.fns "all_some" = some AK
 _law_cell_at:p.fns "_law_cell_at" = some nC
 _law_stir:p.fns "_law_stir" = some zE
 _law_web:p.fns "_law_web" = some nr
 _law_some:p.fns "_law_some" = some B8
structure nM(p:Pr):Prop where
 _law_cell_at:p.fns "_law_cell_at" = some nC
 _law_stir:p.fns "_law_stir" = some zE
 _law_web:p.fns "_law_web" = some nr
theorem Base.draw{p:Pr}(B:Base p):nM p:=⟨B._law_cell_at,B._law_stir,B._law_web⟩
structure Hds(p:Pr):Prop where
 hoods:p.fns "hoods" = some oP
 hood_of:p.fns "hood_of" = some iL
 are_tied:p.fns "are_tied" = some iu
structure Nbr(p:Pr):Prop where
 hoods:p.fns "hoods" = some oP
 hood_of:p.fns "hood_of" = some iL
 are_tied:p.fns "are_tied" = some iu
 mark_of:p.fns "mark_of" = some sF
 marks_of:p.fns "marks_of" = some yQ
structure uU(p:Pr):Prop extends Nbr p where
 _law_masks:p.fns "_law_masks" = some Ah
noncomputable instance {p:Pr}:CoeOut (Base p) (Web p):=⟨λb=>b.toWeb⟩
theorem Nbr.hds{p:Pr}(O:Nbr p):Hds p:=⟨O.hoods,O.hood_of,O.are_tied⟩
noncomputable instance {p:Pr}:CoeOut (Base p) (nM p):=⟨λb=>b.draw⟩
noncomputable instance {p:Pr}:CoeOut (Nbr p) (Hds p):=⟨λb=>b.hds⟩
noncomputable instance {p:Pr}:CoeOut (uU p) (Nbr p):=⟨λb=>b.toNbr⟩
structure fD(p:Pr):Prop where
 is_place:p.fns "is_place" = some fh
 is_some:p.fns "is_some" = some fK
structure iT(p:Pr):Prop where
 is_place:p.fns "is_place" = some fh
 is_some:p.fns "is_some" = some fK
 need_some:p.fns "need_some" = some oY
theorem iT.a{p:Pr}(b:iT p):fD p:=⟨b.is_place,b.is_some⟩
noncomputable instance {p:Pr}:CoeOut (iT p) (fD p):=⟨λb=>b.a⟩
section
variable{p:Pr}
theorem qc{k:Nat}{x:Str}{f:Fn}{ds:List D}(h:p.fns x=some f):qa p (k+1) x ds=cf ⟨qa p k,p.glb,p.sub,p.cat⟩ f ds:=by
 rw[qa,h]
theorem kz{k:Nat}{x:Str}{f:Fn}{ds:List D}{τ:Env}{Q:D->Prop}(hf:p.fns x=some f)(hl:ds.length=f.ps)(hτ:ds.map some++bF (f.N-f.ps) none=τ)(h:Ends (λ_=>False) Q (qf (wAt p k) f.body τ)):∃d,qa p (k+1) x ds=.ok d/\Q d:=by
 rw[qc hf,cf,if_pos hl,hτ];cases z:qf ⟨qa p k,p.glb,p.sub,p.cat⟩ f.body τ with
 |rt d=>rw[z]at h;exact⟨d,rfl,h⟩
 |nx _=>rw[z]at h;exact h.elim
 |_=>rw[z]at h;exact h.elim
section
variable(B:Web p)
include B
theorem is_whole{k:Nat}(i:Int):qa p (k+1) "is_whole" [.int i]=.ok (.bl true):=by rw[qc B.is_whole];rfl
theorem is_between{k:Nat}(i a b:Int)(h:a<=i/\i<=b):qa p (k+2) "is_between" [.int i,.int a,.int b]=.ok (.bl true):=by
 rw[qc B.is_between];refine qL rfl rfl ?_;simp[KG.Z,zG,is_whole B,qh,jz,h.1,h.2]
theorem is_pair{k:Nat}(a b:D):qa p (k+1) "is_pair" [.tup [a,b]]=.ok (.bl true):=by
 rw[qc B.is_pair];refine qL rfl rfl ?_;simp[KG.Z,fO,b1,seq?,qh,D.asks,D.plain,D.deep,D.eqv]
theorem is_tie{k:Nat}(a b m:Int)(h:0<=a/\a<b/\b<m):qa p (k+2) "is_tie" [.tup [.int a,.int b],.int m]=.ok (.bl true):=by
 rw[qc B.is_tie];refine qL rfl rfl ?_;simp[KG.Z,zX,is_pair B,is_whole B,qh,jz,h.1,h.2.1,h.2.2]
theorem rises{k:Nat}(xs:List D)(hz:xs.length<=28)(h:∀(i:Nat) (q:i+1<xs.length),qh .lt xs[i] xs[i+1]=.ok true):qa p (k+1) "rises" [.tup xs]=.ok (.bl true):=by
 rw[qc B.rises];refine qL rfl rfl ?_;have hr:qY ((xs.length:Int)-1)=true:=by simp[qY];lia
 have hc:evE ⟨qa p k,p.glb,p.sub,p.cat⟩ (.comp (.rng (.op .sub (.bi .len (.cons (.var 0) .nil)) (.con (.int 1)))) [none,none,some 0] (.nm 1) .yes (.cmp .lt (.ix (.var 2) (.var 1)) (.ix (.var 2) (.op .add (.var 1) (.con (.int 1)))))) [some (.tup xs)]=.ok (.lst ((zA 0 ((xs.length:Int)-1).toNat).flatMap λ_=>[.bl true])):=by
  refine fS (c:=[some (.tup xs)]) ?_ ?_ rfl ?_
  ·simp[KG.Z,b1,seq?,op2,hr]
  ·simp[zA,SZ];lia
  ·intro x hx;simp only[zA,aQ,List.mem_range]at hx;obtain⟨i,hi,rfl⟩:=hx;have e1:atI xs ((0:Int)+(i:Int))=some xs[i]:=by rw[Int.zero_add];exact fB (by lia)
   have e2:atI xs ((0:Int)+(i:Int)+1)=some xs[i+1]:=by rw[Int.zero_add];exact fB (i:=i+1) (by lia)
   have e3:=h i (by lia);simp only[Int.zero_add]at e1 e2;simp[KG.Z,ixD,op2,e1,e2,e3]
 simp[KG.Z,iw,hc,b1,all_true,Bm]
theorem is_web{k:Nat}{m:Int}{ts:List (Int×Int)}(h:GW m ts):qa p (k+3) "is_web" [wb m ts]=.ok (.bl true):=by
 rw[qc B.is_web];refine qL rfl rfl ?_;have hr:=rises B (k:=k+1) (ts.map prD) (by simpa using h.len) (λi q=>by
  rw[du,du];exact Ca (List.pairwise_iff_getElem.mp h.lt i (i+1) (by simp at q;lia) (by simpa using q) (by lia)))
 have hc:evE ⟨qa p (k+2),p.glb,p.sub,p.cat⟩ (.comp (.seq (.var 2)) [none,none,some 1] (.nm 1) .yes (.call "is_tie" (.cons (.var 1) (.cons (.var 2) .nil)))) [some (wb m ts),some (.int m),some (.tup (ts.map prD))]=.ok (.lst ((ts.map prD).flatMap λ_=>[.bl true])):=by
  refine fS (c:=[some (.int m)]) ?_ ?_ rfl ?_
  ·simp[KG.Z,seq?]
  ·simp[SZ];have:=h.len;lia
  ·intro x hx;rw[aQ]at hx;obtain⟨t,ht,rfl⟩:=hx;have e:=is_tie B (k:=k) t.1 t.2 m (h.ok t ht);have e':qa p (k+2) "is_tie" [prD t,.int m]=.ok (.bl true):=e;simp[KG.Z,e']
 simp[KG.Z,eW,is_pair B,is_between B m 1 8 ⟨h.lo,h.hi⟩,B.MOST,hc,b1,all_true,hr]
theorem need_web{k:Nat}{m:Int}{ts:List (Int×Int)}(h:GW m ts):qa p (k+4) "need_web" [wb m ts]=.ok .non:=by
 rw[qc B.need_web];simp only[cf];simp[KG.Z,gn,is_web B h]
end
theorem eO(hf:p.fns "_law_stir" = some zE){k:Nat}(c j:Int):qa p (k+1) "_law_stir" [.int c,.int j]=.ok (.int (st c j)):=by
 have s1:small 977=true:=by decide
 have s2:small 48271=true:=by decide
 have s3:small 40692=true:=by decide
 have s4:small 69621=true:=by decide
 have s5:=AJ ((c%2147483647+977 * j+1) * 48271) 2147483647 (by decide) (by decide);rw[qc hf];refine qL rfl rfl ?_;simp[KG.Z,zE,op2,s1,s2,s3,s4,s5,st]
section
variable(B:Base p)
include B
end
section
variable(B:Web p)(S:fD p)
include B S
theorem is_place{k:Nat}(i m:Int)(t:D)(h:0<=i/\i<m):qa p (k+3) "is_place" [.tup [.int m,t],.int i]=.ok (.bl true):=by
 rw[qc S.is_place];refine qL rfl rfl ?_;simp[KG.Z,fh,ixD,atI,ixN,op2,is_between B i 0 (m-1) (by lia)]
theorem is_some{k:Nat}{m:Int}{t:D}{s:List Int}(h:GS m s):qa p (k+4) "is_some" [.tup [.int m,t],tu s]=.ok (.bl true):=by
 rw[qc S.is_some];refine qL rfl rfl ?_;have hr:=rises B (k:=k+2) (s.map D.int) (by simp;have:=h.len;lia) (λi q=>by
  rw[du,du];have:=List.pairwise_iff_getElem.mp h.lt i (i+1) (by simp at q;lia) (by simpa using q) (by lia);simp[qh,jz,this])
 have hc:evE ⟨qa p (k+3),p.glb,p.sub,p.cat⟩ (.comp (.seq (.var 1)) [none,none,some 0] (.nm 1) .yes (.call "is_place" (.cons (.var 2) (.cons (.var 1) .nil)))) [some (.tup [.int m,t]),some (tu s)]=.ok (.lst ((s.map D.int).flatMap λ_=>[.bl true])):=by
  refine fS (c:=[some (.tup [.int m,t])]) ?_ ?_ rfl ?_
  ·simp[KG.Z,seq?]
  ·simp[SZ];have:=h.len;lia
  ·intro x hx;rw[aQ]at hx;obtain⟨i,hi,rfl⟩:=hx;simp[KG.Z,is_place B S i m t (h.ok i hi)]
 simp[KG.Z,fK,hc,b1,all_true,hr]
omit S in
theorem need_some(S:iT p){k:Nat}{m:Int}{t:D}{s:List Int}(h:GS m s):qa p (k+5) "need_some" [.tup [.int m,t],tu s]=.ok .non:=by
 rw[qc S.need_some];simp only[cf];simp[KG.Z,oY,is_some B S h]
end
theorem oy(hA:p.fns "are_tied" = some iu){k:Nat}(ts:List (Int×Int))(a b:Int):qa p (k+1) "are_tied" [.tup (ts.map prD),.int a,.int b]=.ok (.bl (g_ ts a b)):=by
 rw[qc hA];refine qL rfl rfl ?_;simp[KG.Z,iu,b1,By,g_,mn,mx]
theorem BK(hH:p.fns "hood_of" = some iL)(hA:p.fns "are_tied" = some iu){k:Nat}{m:Int}{ts:List (Int×Int)}(h:GW m ts)(a:Int):qa p (k+2) "hood_of" [wb m ts,.int a]=.ok (tu (hd m ts a)):=by
 rw[qc hH];refine qL rfl rfl ?_;have h1:=h.lo;have h2:=h.hi;have hc:evE ⟨qa p (k+1),p.glb,p.sub,p.cat⟩ (.comp (.rng (.var 2)) [none,none,some 1,some 3] (.nm 1) (.or (.cmp .eq (.var 1) (.var 2)) (.val (.call "are_tied" (.cons (.var 3) (.cons (.var 2) (.cons (.var 1) .nil)))))) (.var 1)) [some (wb m ts),some (.int a),some (.int m),some (.tup (ts.map prD))]=.ok (.lst ((hd m ts a).map D.int)):=by
  rw[hd,<-jR,<-fm];refine fS (c:=[some (.int a),some (.tup (ts.map prD))]) ?_ ?_ rfl ?_
  ·have:qY m=true:=by simp[qY];lia
   simp[KG.Z,this]
  ·simp[zA,SZ];lia
  ·intro x hx;rw[fm,aQ]at hx;obtain⟨b,hb,rfl⟩:=hx;have e:qh .eq (.int b) (.int a)=.ok (b==a):=rfl;simp[KG.Z,e,oy hA];by_cases q:b=a
   ·simp[q]
   ·simp[q];cases g_ ts a b<;>simp
 simp[KG.Z,iL,hc,b1,seq?]
section
variable(B:Web p)(O:Hds p)
include O
theorem are_tied{k:Nat}(ts:List (Int×Int))(a b:Int):qa p (k+1) "are_tied" [.tup (ts.map prD),.int a,.int b]=.ok (.bl (g_ ts a b)):=oy O.are_tied ts a b
theorem hood_of{k:Nat}{m:Int}{ts:List (Int×Int)}(h:GW m ts)(a:Int):qa p (k+2) "hood_of" [wb m ts,.int a]=.ok (tu (hd m ts a)):=BK O.hood_of O.are_tied h a
include B
end
section
variable(O:Nbr p)
include O
end
end
theorem yZ{α:Type}{w:W}{it:It}{cap:List (Option Nat)}{t:T}{elt:E}{τ c:Env}{l:List α}{f:α->D}(q:α->Bool)(g:α->D)(h:evI w it τ=.ok (l.map f))(hz:l.length<=SZ)(hc:dX cap τ=none::none::c)
  (hb:∀a∈l,evT w t (none::some (f a)::c)=.ok (q a)/\(q a=true->evE w elt (none::some (f a)::c)=.ok (g a))):evE w (.comp it cap (.nm 1) t elt) τ=.ok (.lst ((l.filter q).map g)):=by
 have key:∀(r:List α) (v:Option D) (acc:List D),(∀x∈r,x∈l)->ck (λx σ=>noEx ((store (.nm 1) x σ).bind λσ'=>(evT w t σ').bind λr=>if r then (evE w elt σ').bind λd=>.ok (σ',[d])else .ok (σ',[]))) (r.map f) (none::v::c) acc=.ok (acc++(r.filter q).map g):=by
  intro r
  induction r with
  |nil=>intro v acc _;simp[ck]
  |cons x r ih=>
   intro v acc hm;obtain⟨h1,h2⟩:=hb x (hm x aK);rw[a7,ck];have e:noEx ((store (.nm 1) (f x) (none::v::c)).bind λσ'=>(evT w t σ').bind λr=>if r then (evE w elt σ').bind λd=>.ok (σ',[d])else .ok (σ',[]))=.ok (none::some (f x)::c,if q x then [g x]else []):=by
    simp only[store,R.bind_ok,List.set_cons_succ,List.set_cons_zero,h1];cases hq:q x with
    |false=>rfl
    |true=>simp only[if_true,h2 hq,R.bind_ok];rfl
   rw[e];simp only[R.bind_ok];rw[ih (some (f x)) _ λy hy=>hm y (aJ _ hy),List.filter_cons,List.append_assoc];cases q x<;>simp
 rw[qr,h];simp only[R.bind_ok];rw[if_neg (by simp;lia),hc,key l none [] λ_ h=>h]
 rfl
theorem eP{α:Type}{w:W}{it:It}{cap:List (Option Nat)}{elt:E}{τ c:Env}{l:List α}{f:α->D}(g:α->D)(h:evI w it τ=.ok (l.map f))(hz:l.length<=SZ)(hc:dX cap τ=none::none::c)
  (hb:∀a∈l,evE w elt (none::some (f a)::c)=.ok (g a)):evE w (.comp it cap (.nm 1) .yes elt) τ=.ok (.lst (l.map g)):=by
 have:=yZ (t:=.yes) (elt:=elt) (f:=f) (λ_=>true) g h hz hc λa ha=>⟨rfl,λ_=>hb a ha⟩
 rwa[List.filter_eq_self.mpr (λ_ _=>rfl)]at this
theorem ke{w:W}{e:E}{τ:Env}{xs:List D}(h:evE w e τ=.ok (.tup xs)):evI w (.seq e) τ=.ok xs:=by rw[evI.eq_1,h];rfl
theorem ja{α:Type}(l:List α)(f:α->Bool):bools? (l.map λa=>D.bl (f a))=some (l.map f):=by
 induction l with
 |nil=>rfl
 |cons a r ih=>rw[a7,bools?,ih];rfl
theorem lI{α:Type}(l:List α)(f:α->Bool):b1 .all [.lst (l.map λa=>D.bl (f a))]=.ok (.bl (l.all f)):=by
 rw[b1,b11];simp only[cV];rw[ja];simp only[zO];rw[List.all_map];rfl
theorem vB(xs:List D):b1 .len [.tup xs]=.ok (.int xs.length):=rfl
theorem ne_int(a b:Int):qh .ne (.int a) (.int b)=.ok (!decide (a=b)):=by
 show R.ok (!(a==b))=_
 congr 1
theorem yx(a b:Bool):qh .ne (.bl a) (.bl b)=.ok (!decide (a=b)):=by
 cases a<;>cases b<;>rfl
theorem ix0{α:Type}(f:α->D)(a:α)(r:List α):ixD (.lst ((a::r).map f)) (.int 0)=.ok (f a):=by
 have:=fB (xs:=(a::r).map f) (i:=0) (by simp);simp only[ixD];rw[show (0:Int)=((0:Nat):Int)from rfl,this];rfl
theorem A2(ns:List Int)(lo hi:Option Int):∃cs:List Int,cutD (ns.map D.int) lo hi=cs.map D.int/\cs.length<=ns.length:=by
 refine⟨(ns.drop _).take _,by rw[cutD,<-List.map_drop,<-List.map_take],by simp;lia⟩
theorem fx{α:Type}{f:α->D}{r:List D}{x:D}{l:List α}(e:x::r=l.map f):∃a l',l=a::l'/\x=f a/\r=l'.map f:=by
 cases l with
 |nil=>cases e
 |cons a l'=>rw[a7]at e;injection e with e1 e2;exact⟨a,l',rfl,e1,e2⟩
theorem Br{w:W}{f:Fn}{ds:List D}{τ:Env}{Q:D->Prop}(hl:ds.length=f.ps)(hτ:ds.map some++bF (f.N-f.ps) none=τ)(h:Ends (λ_=>False) Q (qf w f.body τ)):∃d,cf w f ds=.ok d/\Q d:=by
 rw[cf,if_pos hl,hτ];cases z:qf w f.body τ with
 |rt d=>rw[z]at h;exact⟨d,rfl,h⟩
 |nx _=>rw[z]at h;exact h.elim
 |_=>rw[z]at h;exact h.elim
noncomputable def zU:Fn:=⟨2,4,false,(.cons (.ite (.cmp .is (.var 1) (.con .non)) (.cons (.ret (.cmp .is (.var 0) (.con .non))) .nil) .nil) (.cons (.ite (.val (.isi (.var 1) (.ty "bool"))) (.cons (.ret (.and (.isi (.var 0) (.ty "bool")) (.cmp .eq (.var 0) (.var 1)))) .nil) .nil) (.cons (.ite (.val (.isi (.var 1) (.ty "int"))) (.cons (.ret (.and (.isi (.var 0) (.ty "int")) (.and (.not (.isi (.var 0) (.ty "bool"))) (.cmp .eq (.var 0) (.var 1))))) .nil) .nil) (.cons (.ite (.val (.isi (.var 1) (.ty "str"))) (.cons (.ret (.and (.isi (.var 0) (.ty "str")) (.cmp .eq (.var 0) (.var 1)))) .nil) .nil) (.cons (.ite (.or (.cmp .ne (.isi (.var 1) (.ty "list")) (.isi (.var 0) (.ty "list"))) (.cmp .ne (.isi (.var 1) (.ty "tuple")) (.isi (.var 0) (.ty "tuple")))) (.cons (.ret (.con (.bl false))) .nil) .nil) (.cons (.ite (.cmp .ne (.bi .len (.cons (.var 0) .nil)) (.bi .len (.cons (.var 1) .nil))) (.cons (.ret (.con (.bl false))) .nil) .nil) (.cons (.for (.tp [2,3]) (.zip (.var 0) (.var 1)) (.cons (.ite (.not (.val (.call "_law_same" (.cons (.var 2) (.cons (.var 3) .nil))))) (.cons (.ret (.con (.bl false))) .nil) .nil) .nil)) (.cons (.ret (.con (.bl true))) .nil))))))))⟩
noncomputable def gG:Fn:=⟨1,3,false,(.cons (.set (.nm 1) (.lst .nil)) (.cons (.for (.nm 2) (.rng (.var 0)) (.cons (.set (.nm 1) (.op .add (.var 1) (.comp (.rng2 (.op .add (.var 2) (.con (.int 1))) (.var 0)) [none,none,some 2] (.nm 1) .yes (.tup (.cons (.var 2) (.cons (.var 1) .nil)))))) .nil)) (.cons (.ret (.var 1)) .nil)))⟩
noncomputable def gL:Fn:=⟨2,5,false,(.cons (.set (.nm 2) (.lst .nil)) (.cons (.for (.tp [3,4]) (.enum (.call "_law_pairs" (.cons (.var 0) .nil))) (.cons (.ite (.and (.cmp .eq (.op .mod (.var 1) (.con (.int 2))) (.con (.int 0))) (.cmp .eq (.op .mod (.op .shr (.op .fdiv (.var 1) (.con (.int 2))) (.var 3)) (.con (.int 2))) (.con (.int 1)))) (.cons (.app 2 (.var 4)) .nil) .nil) (.cons (.ite (.and (.cmp .eq (.op .mod (.var 1) (.con (.int 2))) (.con (.int 1))) (.cmp .lt (.op .mod (.call "_law_stir" (.cons (.var 1) (.cons (.var 3) .nil))) (.con (.int 5))) (.op .add (.con (.int 1)) (.op .mod (.op .fdiv (.var 1) (.con (.int 2))) (.con (.int 3)))))) (.cons (.app 2 (.var 4)) .nil) .nil) .nil))) (.cons (.ret (.tup (.cons (.var 0) (.cons (.bi .tuple (.cons (.own 2) .nil)) .nil)))) .nil)))⟩
noncomputable def zW:Fn:=⟨2,2,false,(.cons (.ite (.cmp .eq (.op .mod (.var 1) (.con (.int 2))) (.con (.int 0))) (.cons (.ret (.bi .tuple (.cons (.comp (.rng (.var 0)) [none,none,some 1] (.nm 1) (.cmp .eq (.op .mod (.op .shr (.op .fdiv (.var 2) (.con (.int 2))) (.var 1)) (.con (.int 2))) (.con (.int 1))) (.var 1)) .nil))) .nil) .nil) (.cons (.ret (.bi .tuple (.cons (.comp (.rng (.var 0)) [none,none,some 1] (.nm 1) (.cmp .lt (.op .mod (.call "_law_stir" (.cons (.var 2) (.cons (.op .add (.var 1) (.con (.int 60))) .nil))) (.con (.int 4))) (.op .add (.con (.int 1)) (.op .mod (.op .fdiv (.var 2) (.con (.int 2))) (.con (.int 3))))) (.var 1)) .nil))) .nil))⟩
structure Lw(p:Pr):Prop where
 _law_stir:p.fns "_law_stir" = some zE
 _law_pairs:p.fns "_law_pairs" = some gG
 _law_web_by:p.fns "_law_web_by" = some gL
 _law_some_by:p.fns "_law_some_by" = some zW
section
variable{p:Pr}
noncomputable def prs(n:Nat):List (Int×Int):=(aR n).flatMap λa=>((aR n).filter λb=>decide (a<b)).map λ(b:Nat)=>((a:Int),(b:Int))
theorem Bf(hf:p.fns "_law_pairs" = some gG)(m:Int)(h1:1<=m)(h2:m<=8):∃P,(∀k,qa p (k+1) "_law_pairs" [.int m]=.ok (.lst (P.map prD)))/\GW m P:=by
 have:m=1\/m=2\/m=3\/m=4\/m=5\/m=6\/m=7\/m=8:=by lia
 rcases this with rfl|rfl|rfl|rfl|rfl|rfl|rfl|rfl
 ·exact⟨prs 1,λk=>by rw[qc hf];kernel_rfl,by decide +kernel⟩
 ·exact⟨prs 2,λk=>by rw[qc hf];kernel_rfl,by decide +kernel⟩
 ·exact⟨prs 3,λk=>by rw[qc hf];kernel_rfl,by decide +kernel⟩
 ·exact⟨prs 4,λk=>by rw[qc hf];kernel_rfl,by decide +kernel⟩
 ·exact⟨prs 5,λk=>by rw[qc hf];kernel_rfl,by decide +kernel⟩
 ·exact⟨prs 6,λk=>by rw[qc hf];kernel_rfl,by decide +kernel⟩
 ·exact⟨prs 7,λk=>by rw[qc hf];kernel_rfl,by decide +kernel⟩
 ·exact⟨prs 8,λk=>by rw[qc hf];kernel_rfl,by decide +kernel⟩
noncomputable def WI(m c:Int)(P:List (Int×Int))(r:List D)(σ:Env):Prop:=
 ∃(j:Nat) (ts ps:List (Int×Int)) (v u:Option D),r=dB j (ps.map prD)/\(ts++ps).Sublist P/\σ=[some (.int m),some (.int c),some (.lst (ts.map prD)),v,u]
theorem tD(hS:p.fns "_law_stir" = some zE)(hP0:p.fns "_law_pairs" = some gG)(hW:p.fns "_law_web_by" = some gL){k:Nat}(m c:Int)(h1:1<=m)(h2:m<=8):∃ts,GW m ts/\qa p (k+2) "_law_web_by" [.int m,.int c]=.ok (wb m ts):=by
 obtain⟨P,hP,g⟩:=Bf hP0 m h1 h2;have hl:=g.len;obtain⟨σ,⟨j,ts,ps,v,u,e,s,rfl⟩,ev⟩:=wF (w:=⟨qa p (k+1),p.glb,p.sub,p.cat⟩) (tg:=.tp [3,4]) (it:=.enum (.call "_law_pairs" (.cons (.var 0) .nil)))
  (b:=.cons (.ite (.and (.cmp .eq (.op .mod (.var 1) (.con (.int 2))) (.con (.int 0))) (.cmp .eq (.op .mod (.op .shr (.op .fdiv (.var 1) (.con (.int 2))) (.var 3)) (.con (.int 2))) (.con (.int 1)))) (.cons (.app 2 (.var 4)) .nil) .nil) (.cons (.ite (.and (.cmp .eq (.op .mod (.var 1) (.con (.int 2))) (.con (.int 1))) (.cmp .lt (.op .mod (.call "_law_stir" (.cons (.var 1) (.cons (.var 3) .nil))) (.con (.int 5))) (.op .add (.con (.int 1)) (.op .mod (.op .fdiv (.var 1) (.con (.int 2))) (.con (.int 3)))))) (.cons (.app 2 (.var 4)) .nil) .nil) .nil))
  (r:=.cons (.ret (.tup (.cons (.var 0) (.cons (.bi .tuple (.cons (.own 2) .nil)) .nil)))) .nil) (τ:=[some (.int m),some (.int c),some (.lst []),none,none]) (ds:=dB 0 (P.map prD)) (WI m c P)
  (by simp[KG.Z,hP k]) ⟨0,[],P,none,none,rfl,by simp,rfl⟩ (by
   rintro x t σ ⟨j,ts,ps,v,u,e,s,rfl⟩;cases ps with
   |nil=>cases e
   |cons y ps=>
    rw[a7,dB]at e;injection e with e1 e2
    subst e1 e2;have hlen:ts.length<SZ:=by have:=s.length_le;simp at this;simp[SZ];lia
    have A:∀b:Bool,∃us,(us++ps).Sublist P/\us=if b then ts++[y]else ts:=by
     intro b;cases b
     ·exact⟨ts,(List.Sublist.append_left (List.sublist_cons_self _ _) _).trans s,rfl⟩
     ·exact⟨ts++[y],by simpa using s,rfl⟩
    refine⟨[some (.int m),some (.int c),some (.lst (ts.map prD)),some (.int j),some (prD y)],?_⟩;by_cases q:c%2=0
    ·obtain⟨us,a1,a2⟩:=A (decide (c/2/2^j%2=1));refine⟨[some (.int m),some (.int c),some (.lst (us.map prD)),some (.int j),some (prD y)],by simp[KG.Z],?_,j+1,us,ps,_,_,rfl,a1,rfl⟩;by_cases q2:c/2/2^j%2=1
     ·simp[KG.Z,op2,eq_int,q,q2,hlen]at a2 ⊢;subst a2;simp
     ·simp[KG.Z,op2,eq_int,q,q2]at a2 ⊢;subst a2;simp
    ·have q1:c%2=1:=by lia
     obtain⟨us,a1,a2⟩:=A (decide (st c j%5<1+c/2%3));refine⟨[some (.int m),some (.int c),some (.lst (us.map prD)),some (.int j),some (prD y)],by simp[KG.Z],?_,j+1,us,ps,_,_,rfl,a1,rfl⟩;by_cases q2:st c j%5<1+c/2%3
     ·simp[KG.Z,op2,eq_int,q1,lt_int,eO hS,q2,hlen]at a2 ⊢;subst a2;simp
     ·simp[KG.Z,op2,eq_int,q1,lt_int,eO hS,q2]at a2 ⊢;subst a2;simp)
 cases ps with
 |cons y ps=>cases e
 |nil=>
  refine⟨ts,g.sub (by simpa using s),?_⟩;rw[qc hW];refine qL (τ:=[some (.int m),some (.int c),none,none,none]) rfl rfl (zB (σ:=[some (.int m),some (.int c),some (.lst []),none,none]) (by simp[KG.Z]) (ev.trans ?_));simp[KG.Z,b1,seq?]
theorem sI(H:Lw p){k:Nat}(m c:Int)(h1:1<=m)(h2:m<=8):∃ts,GW m ts/\qa p (k+2) "_law_web_by" [.int m,.int c]=.ok (wb m ts):=tD H._law_stir H._law_pairs H._law_web_by m c h1 h2
theorem GS.filter{m:Int}(h1:1<=m)(h2:m<=8)(c:Int->Bool):GS m ((rng m).filter c):=
 ⟨(nc m).sublist List.filter_sublist,λi hi=>lM.mp (List.mem_filter.mp hi).1,aX (List.length_filter_le _ _) (by rw[lS];lia)⟩
theorem wD(H:Lw p){k:Nat}(m c:Int)(h1:1<=m)(h2:m<=8):∃s,GS m s/\qa p (k+2) "_law_some_by" [.int m,.int c]=.ok (tu s):=by
 have hm:qY m=true:=by simp[qY];lia
 by_cases q:c%2=0
 ·refine⟨_,GS.filter h1 h2 λi=>decide (c/2/2^i.toNat%2=1),?_⟩;have hc:evE ⟨qa p (k+1),p.glb,p.sub,p.cat⟩ (.comp (.rng (.var 0)) [none,none,some 1] (.nm 1) (.cmp .eq (.op .mod (.op .shr (.op .fdiv (.var 2) (.con (.int 2))) (.var 1)) (.con (.int 2))) (.con (.int 1))) (.var 1)) [some (.int m),some (.int c)]=.ok (.lst (((rng m).filter λi=>decide (c/2/2^i.toNat%2=1)).map D.int)):=by
   rw[<-jR,<-fm];refine fS (c:=[some (.int c)]) ?_ ?_ rfl ?_
   ·simp[KG.Z,hm]
   ·simp[zA,SZ];lia
   ·intro x hx;rw[fm,aQ]at hx;obtain⟨b,hb,rfl⟩:=hx;have hb':=(lM.mp hb).1;simp[KG.Z,op2,eq_int,hb'];by_cases q:c/2/2^b.toNat%2=1<;>simp[q]
  rw[qc H._law_some_by];refine qL rfl rfl ?_;simp[KG.Z,zW,op2,eq_int,q,hc,b1,seq?]
 ·have q1:c%2=1:=by lia
  refine⟨_,GS.filter h1 h2 λi=>decide (st c (i+60)%4<1+c/2%3),?_⟩;have hc:evE ⟨qa p (k+1),p.glb,p.sub,p.cat⟩ (.comp (.rng (.var 0)) [none,none,some 1] (.nm 1) (.cmp .lt (.op .mod (.call "_law_stir" (.cons (.var 2) (.cons (.op .add (.var 1) (.con (.int 60))) .nil))) (.con (.int 4))) (.op .add (.con (.int 1)) (.op .mod (.op .fdiv (.var 2) (.con (.int 2))) (.con (.int 3))))) (.var 1)) [some (.int m),some (.int c)]=.ok (.lst (((rng m).filter λi=>decide (st c (i+60)%4<1+c/2%3)).map D.int)):=by
   rw[<-jR,<-fm];refine fS (c:=[some (.int c)]) ?_ ?_ rfl ?_
   ·simp[KG.Z,hm]
   ·simp[zA,SZ];lia
   ·intro x hx;rw[fm,aQ]at hx;obtain⟨b,hb,rfl⟩:=hx;simp[KG.Z,op2,lt_int,eO H._law_stir];by_cases q:st c (b+60)%4<1+c/2%3<;>simp[q]
  rw[qc H._law_some_by];refine qL rfl rfl ?_;simp[KG.Z,zW,op2,eq_int,q1,hc,b1,seq?]
theorem oZ(a:D):qh .is a .non=.ok (eQ a):=by cases a<;>rfl
theorem same_int(hf:p.fns "_law_same" = some zU){k:Nat}(i:Int):qa p (k+1) "_law_same" [.int i,.int i]=.ok (.bl true):=by
 rw[qc hf];refine qL rfl rfl ?_;simp[KG.Z,zU,oZ,eQ,eq_int]
theorem same_ints(hf:p.fns "_law_same" = some zU){k:Nat}(ns:List Int):qa p (k+2) "_law_same" [tu ns,tu ns]=.ok (.bl true):=by
 rw[qc hf];refine qL (τ:=[some (tu ns),some (tu ns),none,none]) rfl rfl ?_;refine zB (σ:=[some (tu ns),some (tu ns),none,none]) (by simp[KG.Z,oZ,eQ]) ?_;refine zB (σ:=[some (tu ns),some (tu ns),none,none]) (by simp[KG.Z]) ?_;refine zB (σ:=[some (tu ns),some (tu ns),none,none]) (by simp[KG.Z]) ?_;refine zB (σ:=[some (tu ns),some (tu ns),none,none]) (by simp[KG.Z]) ?_;refine zB (σ:=[some (tu ns),some (tu ns),none,none]) (by simp[KG.Z,yx]) ?_;refine zB (σ:=[some (tu ns),some (tu ns),none,none]) (by simp[KG.Z,ne_int,b1,seq?]) ?_;refine pF (ds:=cx (ns.map D.int) (ns.map D.int)) (λr σ=>∃(ms:List Int) (v u:Option D),r=cx (ms.map D.int) (ms.map D.int)/\σ=[some (tu ns),some (tu ns),v,u]) (by simp[KG.Z]) ⟨ns,none,none,rfl,rfl⟩ ?_ ?_
 ·rintro x t σ ⟨ms,v,u,e,rfl⟩;cases ms with
  |nil=>cases e
  |cons y ms=>
   rw[a7,cx]at e;injection e with e1 e2
   subst e1 e2;exact⟨[some (tu ns),some (tu ns),some (.int y),some (.int y)],[some (tu ns),some (tu ns),some (.int y),some (.int y)],by simp[KG.Z],by simp[KG.Z,same_int hf],ms,_,_,rfl,rfl⟩
 ·rintro σ ⟨ms,v,u,e,rfl⟩;simp[KG.Z]
theorem lV{i x:Int}{l:List Int}:x∈insI i l↔x=i\/x∈l:=by
 induction l with
 |nil=>simp[insI]
 |cons a r ih=>
  rw[insI];split
  ·simp
  ·simp only[aG,ih];constructor<;>rintro(h|h|h)<;>simp[h]
theorem AE{x:Int}{l:List Int}:x∈sortI l↔x∈l:=by
 induction l with
 |nil=>simp[sortI]
 |cons a r ih=>rw[sortI,lV,ih,aG]
theorem DP{i:Int}{l:List Int}(h:l.Pairwise (· < ·))(hn:i∉l):(insI i l).Pairwise (· < ·):=by
 induction l with
 |nil=>simp[insI]
 |cons a r ih=>
  rw[List.pairwise_cons]at h;have h0:i≠a:=λe=>hn (e▸aK)
  rw[insI];split
  ·rename_i q
   rw[List.pairwise_cons];refine⟨λb hb=>?_,List.pairwise_cons.mpr h⟩;rcases aG.mp hb with rfl|hb
   ·lia
   ·have:=h.1 b hb;lia
  ·rename_i q
   rw[List.pairwise_cons];refine⟨λb hb=>?_,ih h.2 λe=>hn (aJ _ e)⟩;rcases lV.mp hb with rfl|hb
   ·lia
   ·exact h.1 b hb
theorem w9{l:List Int}(h:l.Nodup):(sortI l).Pairwise (· < ·):=by
 induction l with
 |nil=>simp[sortI]
 |cons a r ih=>
  rw[List.nodup_cons]at h;rw[sortI];exact DP (ih h.2) λe=>h.1 (AE.mp e)
theorem GS.none{m:Int}:GS m []:=⟨List.Pairwise.nil,by simp,by simp⟩
theorem GS.all{m:Int}(h1:1<=m)(h2:m<=8):GS m (rng m):=⟨nc m,λi hi=>lM.mp hi,by rw[lS];lia⟩
end
noncomputable def gU:Fn:=⟨2,5,false,(.cons (.set (.tp [2,3]) (.var 0)) (.cons (.set (.nm 4) (.lst (.cons (.con .non) (.cons (.var 2) (.cons (.tup (.cons (.var 2) .nil)) (.cons (.tup (.cons (.var 2) (.cons (.bi .list (.cons (.var 3) .nil)) .nil))) (.cons (.tup (.cons (.con (.int 0)) (.cons (.tup .nil) .nil))) (.cons (.tup (.cons (.con (.int 9)) (.cons (.tup .nil) .nil))) (.cons (.tup (.cons (.con (.bl true)) (.cons (.tup .nil) .nil))) (.cons (.tup (.cons (.var 2) (.cons (.op .add (.var 3) (.tup (.cons (.tup (.cons (.con (.int 0)) (.cons (.con (.int 0)) .nil))) .nil))) .nil))) .nil)))))))))) (.cons (.set (.nm 4) (.op .add (.var 4) (.lst (.cons (.tup (.cons (.var 2) (.cons (.op .add (.var 3) (.tup (.cons (.tup (.cons (.op .sub (.var 2) (.con (.int 1))) (.cons (.var 2) .nil))) .nil))) .nil))) (.cons (.tup (.cons (.var 2) (.cons (.op .add (.var 3) (.tup (.cons (.tup (.cons (.con (.int 1)) (.cons (.con (.int 0)) .nil))) .nil))) .nil))) (.cons (.lst (.cons (.var 2) (.cons (.var 3) .nil))) (.cons (.tup (.cons (.var 2) (.cons (.var 3) (.cons (.tup .nil) .nil)))) (.cons (.con (.str "1")) .nil)))))))) (.cons (.set (.nm 4) (.op .add (.var 4) (.lst (.cons (.tup (.cons (.var 2) (.cons (.con .non) .nil))) (.cons (.tup (.cons (.var 2) (.cons (.tup (.cons (.tup (.cons (.con (.int 0)) .nil)) .nil)) .nil))) (.cons (.tup (.cons (.neg (.con (.int 1))) (.cons (.tup .nil) .nil))) (.cons (.tup (.cons (.var 2) (.cons (.op .add (.var 3) (.tup (.cons (.con .non) .nil))) .nil))) (.cons (.tup (.cons (.var 2) (.cons (.tup (.cons (.tup (.cons (.con (.int 0)) (.cons (.con (.int 1)) .nil))) (.cons (.tup (.cons (.con (.int 0)) (.cons (.con (.int 1)) .nil))) .nil))) .nil))) .nil)))))))) (.cons (.ret (.ix (.op .add (.var 4) (.lst (.cons (.tup (.cons (.con (.str "1")) (.cons (.tup .nil) .nil))) (.cons .dic (.cons (.tup (.cons (.var 2) (.cons (.tup (.cons (.tup (.cons (.con (.bl false)) (.cons (.con (.int 1)) .nil))) .nil)) .nil))) (.cons (.tup (.cons (.op .pow (.con (.int 10)) (.con (.int 30))) (.cons (.tup .nil) .nil))) .nil)))))) (.op .mod (.var 1) (.con (.int 22))))) .nil)))))⟩
noncomputable def od:D->Bool
 | .int _=>false
 | .fn _=>false
 | .exn _=>false
 |_=>true
noncomputable def nt:D->Bool
 | .tup _=>false
 | .fn _=>false
 | .exn _=>false
 |_=>true
theorem pick{l:List D}{P:D->Prop}(hL:∀d∈l,P d)(i:Int)(h:0<=i/\i<l.length):∃d,ixD (.lst l) (.int i)=.ok d/\P d:=by
 obtain⟨j,rfl⟩:∃j:Nat,i=j:=⟨i.toNat,by lia⟩
 have hj:j<l.length:=by lia
 refine⟨l[j],?_,hL _ (cN hj)⟩;simp only[ixD];rw[fB hj]
theorem yp(xs ys:List D)(h:xs.length+ys.length<=SZ):op2 .add (.tup xs) (.tup ys)=.ok (.tup (xs++ys)):=by
 rw[op2,if_pos ⟨rfl,h⟩]
noncomputable def dz(m T:Int)(TS:List D):List D:=[.non,.int m,.tup [.int m],.tup [.int m,.lst (TS)],.tup [.int 0,.tup []],.tup [.int 9,.tup []],.tup [.bl true,.tup []],.tup [.int m,.tup (TS++[.tup [.int 0,.int 0]])],.tup [.int m,.tup (TS++[.tup [.int (m-1),.int m]])],.tup [.int m,.tup (TS++[.tup [.int 1,.int 0]])],.lst [.int m,.tup (TS)],.tup [.int m,.tup (TS),.tup []],.str "1",.tup [.int m,.non],.tup [.int m,.tup [.tup [.int 0]]],.tup [.int (-1),.tup []],.tup [.int m,.tup (TS++[.non])],.tup [.int m,.tup [.tup [.int 0,.int 1],.tup [.int 0,.int 1]]],.tup [.str "1",.tup []],.dic,.tup [.int m,.tup [.tup [.bl false,.int 1]]],.tup [.int T,.tup []]]
section
variable{p:Pr}(B:Web p)
include B
theorem pT{k:Nat}{d:D}(h:od d=true):qa p (k+1) "is_whole" [d]=.ok (.bl false):=by
 rw[qc B.is_whole];cases d<;>first|(cases h;done)|rfl
theorem oN{k:Nat}(i a b:Int):qa p (k+2) "is_between" [.int i,.int a,.int b]=.ok (.bl (decide (a<=i/\i<=b))):=by
 have e1:qh .le (.int a) (.int i)=.ok (decide (a<=i)):=rfl;have e2:qh .le (.int i) (.int b)=.ok (decide (i<=b)):=rfl;by_cases q:a<=i
 ·have e1:qh .le (.int a) (.int i)=.ok true:=by rw[e1,decide_eq_true q]
  by_cases q2:i<=b
  ·have e2:qh .le (.int i) (.int b)=.ok true:=by rw[e2,decide_eq_true q2]
   rw[qc B.is_between];refine qL rfl rfl ?_;simp[KG.Z,zG,is_whole B,e1,e2,q,q2]
  ·have e2:qh .le (.int i) (.int b)=.ok false:=by rw[e2,decide_eq_false q2]
   rw[qc B.is_between];refine qL rfl rfl ?_;simp[KG.Z,zG,is_whole B,e1,e2,q,q2]
 ·have e1:qh .le (.int a) (.int i)=.ok false:=by rw[e1,decide_eq_false q]
  rw[qc B.is_between];refine qL rfl rfl ?_;simp[KG.Z,zG,is_whole B,e1,q]
theorem kP{k:Nat}{d:D}(h:od d=true)(a b:D):qa p (k+2) "is_between" [d,a,b]=.ok (.bl false):=by
 rw[qc B.is_between];refine qL rfl rfl ?_;simp[KG.Z,zG,pT B h]
theorem gf{k:Nat}{d:D}(h:nt d=true):qa p (k+1) "is_pair" [d]=.ok (.bl false):=by
 rw[qc B.is_pair];cases d<;>first|(cases h;done)|rfl
theorem ou{k:Nat}(xs:List D):qa p (k+1) "is_pair" [.tup xs]=.ok (.bl (decide ((xs.length:Int)=2))):=by
 have e:=vB xs;have e2:=eq_int (xs.length:Int) 2;rw[qc B.is_pair];refine qL rfl rfl ?_;simp[KG.Z,fO,e,e2]
theorem pM{k:Nat}(a b m:Int):qa p (k+2) "is_tie" [.tup [.int a,.int b],.int m]=.ok (.bl (decide (0<=a/\a<b/\b<m))):=by
 have e1:qh .le (.int 0) (.int a)=.ok (decide (0<=a)):=rfl;have e2:qh .lt (.int a) (.int b)=.ok (decide (a<b)):=rfl;have e3:qh .lt (.int b) (.int m)=.ok (decide (b<m)):=rfl;by_cases q1:0<=a
 ·rw[decide_eq_true q1]at e1;by_cases q2:a<b
  ·rw[decide_eq_true q2]at e2;by_cases q3:b<m
   ·rw[decide_eq_true q3]at e3;rw[qc B.is_tie];refine qL rfl rfl ?_;simp[KG.Z,zX,is_pair B,is_whole B,e1,e2,e3,q1,q2,q3]
   ·rw[decide_eq_false q3]at e3;rw[qc B.is_tie];refine qL rfl rfl ?_;simp[KG.Z,zX,is_pair B,is_whole B,e1,e2,e3,q1,q2,q3]
  ·rw[decide_eq_false q2]at e2;rw[qc B.is_tie];refine qL rfl rfl ?_;simp[KG.Z,zX,is_pair B,is_whole B,e1,e2,q1,q2]
 ·rw[decide_eq_false q1]at e1;rw[qc B.is_tie];refine qL rfl rfl ?_;simp[KG.Z,zX,is_pair B,is_whole B,e1,q1]
theorem pR{k:Nat}{d:D}{m:D}(h:∀k,qa p (k+1) "is_pair" [d]=.ok (.bl false)):qa p (k+2) "is_tie" [d,m]=.ok (.bl false):=by
 rw[qc B.is_tie];refine qL rfl rfl ?_;simp[KG.Z,zX,h]
theorem uS{k:Nat}{a b:D}{m:D}(h:od a=true):qa p (k+2) "is_tie" [.tup [a,b],m]=.ok (.bl false):=by
 rw[qc B.is_tie];refine qL rfl rfl ?_;simp[KG.Z,zX,is_pair B,pT B h]
theorem ot{k:Nat}(xs:List D)(hz:xs.length<=100)(b:Nat->Bool)(h:∀(i:Nat) (q:i+1<xs.length),qh .lt xs[i] xs[i+1]=.ok (b i)):qa p (k+1) "rises" [.tup xs]=.ok (.bl ((aR (xs.length-1)).all b)):=by
 rw[qc B.rises];refine qL (τ:=[some (.tup xs)]) rfl rfl ?_;have hr:qY ((xs.length:Int)-1)=true:=by simp[qY];lia
 have hc:evE ⟨qa p k,p.glb,p.sub,p.cat⟩ (.comp (.rng (.op .sub (.bi .len (.cons (.var 0) .nil)) (.con (.int 1)))) [none,none,some 0] (.nm 1) .yes (.cmp .lt (.ix (.var 2) (.var 1)) (.ix (.var 2) (.op .add (.var 1) (.con (.int 1)))))) [some (.tup xs)]=.ok (.lst ((aR (xs.length-1)).map λi=>.bl (b i))):=by
  refine eP (f:=λ(i:Nat)=>D.int (i:Int)) (c:=[some (.tup xs)]) (λi=>.bl (b i)) ?_ ?_ rfl ?_
  ·have e:zA 0 (xs.length-1)=(aR (xs.length-1)).map λ(i:Nat)=>D.int (i:Int):=by
    rw[zA];simp
   simp[KG.Z,b1,seq?,op2,hr,e]
  ·simp[SZ];lia
  ·intro i hi;have hi:=List.mem_range.mp hi;have e1:atI xs (i:Int)=some xs[i]:=fB (by lia);have e2:atI xs ((i:Int)+1)=some xs[i+1]:=fB (i:=i+1) (by lia);have e3:=h i (by lia);simp[KG.Z,ixD,op2,e1,e2,e3]
 have h3:=lI (aR (xs.length-1)) b;show qf _ (.cons (.ret (.bi .all (.cons _ .nil))) .nil) _=_;rw[qf,zC,qm,zt,hc];simp only[R.bind_ok,zt,h3,R.out_ok]
theorem fT{k:Nat}{d:D}(h:∀k,qa p (k+1) "is_pair" [d]=.ok (.bl false)):qa p (k+3) "is_web" [d]=.ok (.bl false):=by
 have h:=h (k+1);rw[qc B.is_web];refine qL rfl rfl ?_;simp[KG.Z,eW,h]
theorem j6{k:Nat}{a b:D}(h:∀k,qa p (k+2) "is_between" [a,.int 1,.int 8]=.ok (.bl false)):qa p (k+3) "is_web" [.tup [a,b]]=.ok (.bl false):=by
 rw[qc B.is_web];refine qL rfl rfl ?_;simp[KG.Z,eW,is_pair B,B.MOST,h]
theorem mz{k:Nat}{m:Int}(h:1<=m/\m<=8){b:D}(hb:nt b=true):qa p (k+3) "is_web" [.tup [.int m,b]]=.ok (.bl false):=by
 have e:∀w:W,zL w b (.ty "tuple")=.ok (.bl false):=λw=>by cases b<;>first|(cases hb;done)|rfl
 rw[qc B.is_web];refine qL rfl rfl ?_;simp[KG.Z,eW,is_pair B,is_between B m 1 8 h,B.MOST,e]
theorem lK{k:Nat}{m:Int}(h:1<=m/\m<=8){ys:List (D×Bool)}{xs:List D}(hx:xs=ys.map (·.1))(hz:xs.length<=100)(hf:∀y∈ys,qa p (k+2) "is_tie" [y.1,.int m]=.ok (.bl y.2))(hb:ys.all (·.2)=false\/qa p (k+2) "rises" [.tup xs]=.ok (.bl false)):qa p (k+3) "is_web" [.tup [.int m,.tup xs]]=.ok (.bl false):=by
 rw[qc B.is_web];refine qL (τ:=[some (.tup [.int m,.tup xs]),none,none]) rfl rfl ?_;have hc:evE ⟨qa p (k+2),p.glb,p.sub,p.cat⟩ (.comp (.seq (.var 2)) [none,none,some 1] (.nm 1) .yes (.call "is_tie" (.cons (.var 1) (.cons (.var 2) .nil)))) [some (.tup [.int m,.tup xs]),some (.int m),some (.tup xs)]=.ok (.lst (ys.map λx=>.bl x.2)):=by
  refine eP (f:=λ(x:D×Bool)=>x.1) (c:=[some (.int m)]) (λ(x:D×Bool)=>.bl x.2) (by rw[<-hx];exact ke rfl) (by rw[hx]at hz;simp at hz;simp[SZ];lia) rfl λx hx=>?_
  have e:=hf x hx;simp[KG.Z,e]
 have h3:=lI ys (·.2);show qf _ (.cons (.ite _ _ _) (.cons (.set (.tp [1,2]) _) (.cons (.ite _ _ _) (.cons (.ret (.and (.bi .all (.cons _ .nil)) _)) .nil)))) _=_;refine zB (σ:=[some (.tup [.int m,.tup xs]),none,none]) (by simp[KG.Z,is_pair B]) ?_;refine zB (σ:=[some (.tup [.int m,.tup xs]),some (.int m),some (.tup xs)]) (by simp[KG.Z]) ?_;refine zB (σ:=[some (.tup [.int m,.tup xs]),some (.int m),some (.tup xs)]) (by simp[KG.Z,is_between B m 1 8 h,B.MOST]) ?_;rw[qf,zC,qp,qm,zt,hc];simp only[R.bind_ok,zt,h3];rcases hb with hb|hb
 ·rw[hb];rfl
 ·cases q:ys.all (·.2)with
  |false=>rfl
  |true=>simp[KG.Z,hb]
theorem uJ(hf:p.fns "_law_no_web" = some gU){k:Nat}{m:Int}{ts:List (Int×Int)}(h:GW m ts)(n:Int):∃d,qa p (k+1) "_law_no_web" [wb m ts,.int n]=.ok d/\∀k,qa p (k+3) "is_web" [d]=.ok (.bl false):=by
 have hm:1<=m/\m<=8:=⟨h.lo,h.hi⟩
 have hl:=h.len;have hz:(ts.map prD).length<=99:=by simp;lia
 have old:∀(k:Nat) (x:D),x∈ts.map prD->qa p (k+2) "is_tie" [x,.int m]=.ok (.bl true):=λk x hx=>by
  obtain⟨t,ht,rfl⟩:=aQ.mp hx;exact is_tie B t.1 t.2 m (h.ok t ht)
 -- a tie more that is none
 have more:∀(x:D),(∀k,qa p (k+2) "is_tie" [x,.int m]=.ok (.bl false))->∀k,qa p (k+3) "is_web" [.tup [.int m,.tup (ts.map prD++[x])]]=.ok (.bl false):=λx hx k=>by
  refine lK B hm (ys:=ts.map (λt=>(prD t,true))++[(x,false)]) (by simp) (by simp at hz ⊢;lia) (λy hy=>?_) (.inl (by simp));rcases List.mem_append.mp hy with z|z
  ·obtain⟨t,ht,rfl⟩:=aQ.mp z;exact is_tie B t.1 t.2 m (h.ok t ht)
  ·rw[List.mem_singleton.mp z];exact hx k
 have hT:op2 .pow (.int 10) (.int 30)=.ok (.int (10^30)):=by rw[op2,opI,if_pos (by decide)];rfl
 have hb:¬ ((1:Int)<=10^30/\(10:Int)^30<=8):=by decide
 generalize (10:Int)^30=T at *;have hL:∀d∈dz m T (ts.map prD),∀k,qa p (k+3) "is_web" [d]=.ok (.bl false):=by
  have num:∀(i:Int) (b:D),¬ (1<=i/\i<=8)->∀k,qa p (k+3) "is_web" [.tup [.int i,b]]=.ok (.bl false):=λi b hi k=>j6 B λk=>by rw[oN B,decide_eq_false hi]
  have len:∀xs:List D,(xs.length:Int)≠2->∀k,qa p (k+3) "is_web" [.tup xs]=.ok (.bl false):=λxs hx k=>fT B λk=>by rw[ou B,decide_eq_false hx]
  have one:∀x:D,(∀k,qa p (k+2) "is_tie" [x,.int m]=.ok (.bl false))->∀k,qa p (k+3) "is_web" [.tup [.int m,.tup [x]]]=.ok (.bl false):=λx hx k=>lK B hm (ys:=[(x,false)]) rfl (by simp) (λy hy=>by rw[List.mem_singleton.mp hy];exact hx k) (.inl rfl)
  have tv:∀a b:Int,¬ (0<=a/\a<b/\b<m)->∀k,qa p (k+2) "is_tie" [.tup [.int a,.int b],.int m]=.ok (.bl false):=λa b q k=>by rw[pM B,decide_eq_false q]
  simp only[dz,List.forall_mem_cons];refine⟨λk=>fT B λk=>gf B rfl,λk=>fT B λk=>gf B rfl,len _ (by simp),λk=>mz B hm rfl,num 0 _ (by decide),num 9 _ (by decide),λk=>j6 B λk=>kP B rfl _ _,more _ (tv 0 0 (by lia)),more _ (tv (m-1) m (by lia)),more _ (tv 1 0 (by lia)),λk=>fT B λk=>gf B rfl,len _ (by simp),λk=>fT B λk=>gf B rfl,λk=>mz B hm rfl,one _ λk=>pR B λk=>by rw[ou B];rfl,num (-1) _ (by decide),more _ λk=>pR B λk=>gf B rfl,?_,λk=>j6 B λk=>kP B rfl _ _,λk=>fT B λk=>gf B rfl,one _ λk=>uS B rfl,num T _ hb,by simp⟩;intro k;refine lK B hm (ys:=[(.tup [.int 0,.int 1],decide (1<m)),(.tup [.int 0,.int 1],decide (1<m))]) rfl (by simp) (λy hy=>?_) ?_
  ·simp only[aG,bh,or_false,or_self]at hy;rw[hy,pM B];simp
  ·refine .inr ?_;have:=ot B (k:=k+1) [.tup [.int 0,.int 1],.tup [.int 0,.int 1]] (by simp) (λ_=>false) λi q=>by
    have:i=0:=by simp at q;lia
    subst this;rfl
   rw[this];rfl
 obtain⟨d,e,hd⟩:=pick hL (n%22) ⟨by lia,by show n%22<22;lia⟩;refine⟨d,?_,hd⟩;rw[qc hf];refine qL (τ:=[some (.tup [.int m,.tup (ts.map prD)]),some (.int n),none,none,none]) rfl rfl ?_;have a1:∀x:D,op2 .add (.tup (ts.map prD)) (.tup [x])=.ok (.tup (ts.map prD++[x])):=λx=>yp _ _ (by simp[SZ];lia)
 have a2:b1 .list [.tup (ts.map prD)]=.ok (.lst (ts.map prD)):=rfl;have a3:op2 .mod (.int n) (.int 22)=.ok (.int (n%22)):=rfl;have a4:op2 .sub (.int m) (.int 1)=.ok (.int (m-1)):=rfl;have a5:∀xs ys:List D,xs.length+ys.length<=100->op2 .add (.lst xs) (.lst ys)=.ok (.lst (xs++ys)):=λxs ys q=>by rw[op2,if_pos ⟨rfl,by simp[SZ];lia⟩]
 generalize ts.map prD=TS at *;show qf _ (.cons _ (.cons _ (.cons _ (.cons _ (.cons _ .nil))))) _=_;refine zB (σ:=[some (.tup [.int m,.tup TS]),some (.int n),some (.int m),some (.tup TS),none]) (by simp[KG.Z]) ?_;refine zB (σ:=[some (.tup [.int m,.tup TS]),some (.int n),some (.int m),some (.tup TS),some (.lst ((dz m T TS).take 8))]) (by simp[KG.Z,a1,a2,dz]) ?_;refine zB (σ:=[some (.tup [.int m,.tup TS]),some (.int n),some (.int m),some (.tup TS),some (.lst ((dz m T TS).take 13))]) (by simp[KG.Z,a1,a4,a5,dz]) ?_;refine zB (σ:=[some (.tup [.int m,.tup TS]),some (.int n),some (.int m),some (.tup TS),some (.lst ((dz m T TS).take 18))]) (by simp[KG.Z,a1,a5,dz,ze]) ?_;rw[qf,zC,qo];have f1:evE ⟨qa p k,p.glb,p.sub,p.cat⟩ (.op .add (.var 4) (.lst (.cons (.tup (.cons (.con (.str "1")) (.cons (.tup .nil) .nil))) (.cons .dic (.cons (.tup (.cons (.var 2) (.cons (.tup (.cons (.tup (.cons (.con (.bl false)) (.cons (.con (.int 1)) .nil))) .nil)) .nil))) (.cons (.tup (.cons (.op .pow (.con (.int 10)) (.con (.int 30))) (.cons (.tup .nil) .nil))) .nil)))))) [some (.tup [.int m,.tup TS]),some (.int n),some (.int m),some (.tup TS),some (.lst ((dz m T TS).take 18))]=.ok (.lst (dz m T TS)):=by simp[KG.Z,hT,a5,dz,qs]
 rw[f1];have f2:evE ⟨qa p k,p.glb,p.sub,p.cat⟩ (.op .mod (.var 1) (.con (.int 22))) [some (.tup [.int m,.tup TS]),some (.int n),some (.int m),some (.tup TS),some (.lst ((dz m T TS).take 18))]=.ok (.int (n%22)):=by simp[KG.Z,a3]
 rw[f2];simp only[R.bind_ok];rw[e];rfl
theorem lP{k:Nat}(S:fD p)(i m:Int)(t:D):qa p (k+3) "is_place" [.tup [.int m,t],.int i]=.ok (.bl (decide (0<=i/\i<=m-1))):=by
 have e:=oN B (k:=k) i 0 (m-1);rw[qc S.is_place];refine qL rfl rfl ?_;simp[KG.Z,fh,ixD,atI,ixN,op2,e]
theorem yF{k:Nat}(S:fD p){d:D}(h:od d=true)(m:Int)(t:D):qa p (k+3) "is_place" [.tup [.int m,t],d]=.ok (.bl false):=by
 have e:=λa b=>kP B (k:=k) h a b
 rw[qc S.is_place];refine qL rfl rfl ?_;simp[KG.Z,fh,ixD,atI,ixN,op2,e]
theorem nS{k:Nat}(S:fD p){u:D}{ys:List (D×Bool)}{xs:List D}(hx:xs=ys.map (·.1))(hz:xs.length<=100)(hf:∀y∈ys,qa p (k+3) "is_place" [u,y.1]=.ok (.bl y.2))(hb:ys.all (·.2)=false\/qa p (k+3) "rises" [.tup xs]=.ok (.bl false)):qa p (k+4) "is_some" [u,.tup xs]=.ok (.bl false):=by
 rw[qc S.is_some];refine qL (τ:=[some u,some (.tup xs)]) rfl rfl ?_;have hc:evE ⟨qa p (k+3),p.glb,p.sub,p.cat⟩ (.comp (.seq (.var 1)) [none,none,some 0] (.nm 1) .yes (.call "is_place" (.cons (.var 2) (.cons (.var 1) .nil)))) [some u,some (.tup xs)]=.ok (.lst (ys.map λx=>.bl x.2)):=by
  refine eP (f:=λ(x:D×Bool)=>x.1) (c:=[some u]) (λ(x:D×Bool)=>.bl x.2) (by rw[<-hx];exact ke rfl) (by rw[hx]at hz;simp at hz;simp[SZ];lia) rfl λx hx=>?_
  have e:=hf x hx;simp[KG.Z,e]
 have h3:=lI ys (·.2);show qf _ (.cons (.ite _ _ _) (.cons (.ret (.and (.bi .all (.cons _ .nil)) _)) .nil)) _=_;refine zB (σ:=[some u,some (.tup xs)]) (by simp[KG.Z]) ?_;rw[qf,zC,qp,qm,zt,hc];simp only[R.bind_ok,zt,h3];rcases hb with hb|hb
 ·rw[hb];rfl
 ·cases q:ys.all (·.2)with
  |false=>rfl
  |true=>simp[KG.Z,hb]
end
end KG
namespace K92
open PySem PySem.Spec PyProof.Rows L2 EV
noncomputable def top(i:Nat):Stmt:=PySem.Challenge.pw_holdplaces_k92_places_read.main.body.getD i (.Pass ⟨0,0,0,0⟩)
abbrev jF:Fn:=KG.jF
abbrev zG:Fn:=KG.zG
abbrev fO:Fn:=KG.fO
abbrev iw:Fn:=KG.iw
abbrev eW:Fn:=KG.eW
abbrev zX:Fn:=KG.zX
abbrev gn:Fn:=KG.gn
abbrev fh:Fn:=KG.fh
abbrev fK:Fn:=KG.fK
noncomputable def fE:Fn:=⟨2,3,false,(.cons (.exp (.call "need_web" (.cons (.var 0) .nil))) (.cons (.ite (.not (.val (.isi (.var 1) (.ty "str")))) (.cons (.raise "NoText" (.cons (.con (.str "a text is due")) .nil)) .nil) .nil) (.cons (.ite (.cmp .eq (.var 1) (.glb "NONE")) (.cons (.ret (.tup .nil)) .nil) .nil) (.cons (.set (.nm 2) (.call "numbers_in" (.cons (.var 1) (.cons (.con (.str ",")) .nil)))) (.cons (.ite (.not (.val (.call "is_some" (.cons (.var 0) (.cons (.var 2) .nil))))) (.cons (.raise "NoText" (.cons (.con (.str "the text of some is due")) .nil)) .nil) .nil) (.cons (.ret (.var 2)) .nil))))))⟩
noncomputable def kh:Fn:=⟨2,2,false,(.cons (.ret (.bi .tuple (.cons (.comp (.seq (.spl (.var 0) (.var 1))) [none,none] (.nm 1) .yes (.call "number_in" (.cons (.var 1) .nil))) .nil))) .nil)⟩
noncomputable def gw:Fn:=⟨1,1,false,(.cons (.ret (.ite (.and (.val (.call "is_number" (.cons (.var 0) .nil))) (.cmp .le (.bi .len (.cons (.var 0) .nil)) (.glb "MOST_FIGURES"))) (.bi .int (.cons (.var 0) .nil)) (.con .non))) .nil)⟩
noncomputable def jY:Fn:=⟨1,1,false,(.cons (.ite (.or (.cmp .eq (.var 0) (.con (.str ""))) (.not (.val (.bi .all (.cons (.comp (.seq (.var 0)) [none,none] (.nm 1) .yes (.cmp .isin (.var 1) (.glb "FIGURES"))) .nil))))) (.cons (.ret (.con (.bl false))) .nil) .nil) (.cons (.ret (.or (.cmp .eq (.var 0) (.con (.str "0"))) (.cmp .ne (.ix (.var 0) (.con (.int 0))) (.con (.str "0"))))) .nil))⟩
noncomputable def pV:Fn:=⟨1,2,false,(.cons (.set (.nm 1) (.lst (.cons (.isi (.var 0) (.ex "NoWeb")) (.cons (.isi (.var 0) (.ex "NoPlaces")) (.cons (.isi (.var 0) (.ex "NoPlace")) (.cons (.isi (.var 0) (.ex "NoNumber")) .nil)))))) (.cons (.set (.nm 1) (.op .add (.var 1) (.lst (.cons (.isi (.var 0) (.ex "NotUntied")) (.cons (.isi (.var 0) (.ex "NoShares")) (.cons (.isi (.var 0) (.ex "NotTree")) (.cons (.isi (.var 0) (.ex "NotTold")) .nil))))))) (.cons (.set (.nm 1) (.op .add (.var 1) (.lst (.cons (.isi (.var 0) (.ex "NoCrowds")) (.cons (.isi (.var 0) (.ex "NoText")) (.cons (.isi (.var 0) (.ex "NoLine")) (.cons (.isi (.var 0) (.ex "NoDeed")) .nil))))))) (.cons (.set (.nm 1) (.op .add (.var 1) (.lst (.cons (.isi (.var 0) (.ex "NotAll")) (.cons (.isi (.var 0) (.ex "TooGreat")) .nil))))) (.cons (.ite (.or (.not (.val (.isi (.var 0) (.ty "ValueError")))) (.cmp .ne (.mth false (.var 1)) (.con (.int 1)))) (.cons (.ret (.neg (.con (.int 1)))) .nil) .nil) (.cons (.ret (.mth true (.var 1))) .nil))))))⟩
noncomputable def j9:Fn:=⟨1,1,false,(.cons (.ite (.or (.cmp .eq (.var 0) (.con (.str ""))) (.or (.cmp .ne (.stp (.var 0) (.con (.str "0123456789"))) (.con (.str ""))) (.and (.cmp .eq (.ix (.var 0) (.con (.int 0))) (.con (.str "0"))) (.cmp .gt (.bi .len (.cons (.var 0) .nil)) (.con (.int 1)))))) (.cons (.ret (.con .non)) .nil) .nil) (.cons (.ret (.bi .int (.cons (.var 0) .nil))) .nil))⟩
abbrev gG:Fn:=KG.gG
abbrev zE:Fn:=KG.zE
abbrev gL:Fn:=KG.gL
abbrev zW:Fn:=KG.zW
noncomputable def jW:Fn:=⟨1,1,false,(.cons (.ite (.cmp .eq (.var 0) (.tup .nil)) (.cons (.ret (.con (.str "none"))) .nil) .nil) (.cons (.ret (.joi "," (.comp (.seq (.var 0)) [none,none] (.nm 1) .yes (.stri (.var 1))))) .nil))⟩
noncomputable def kO:Fn:=⟨2,7,false,(.cons (.set (.nm 2) (.op .mod (.call "_law_stir" (.cons (.var 1) (.cons (.con (.int 1)) .nil))) (.op .add (.bi .len (.cons (.var 0) .nil)) (.con (.int 1))))) (.cons (.set (.nm 3) (.ix (.con (.str "01789- ,\n+x.")) (.op .mod (.call "_law_stir" (.cons (.var 1) (.cons (.con (.int 2)) .nil))) (.con (.int 12))))) (.cons (.set (.nm 4) (.op .mod (.call "_law_stir" (.cons (.var 1) (.cons (.con (.int 3)) .nil))) (.con (.int 8)))) (.cons (.set (.nm 5) (.spl (.var 0) (.con (.str " ")))) (.cons (.set (.nm 6) (.op .mod (.call "_law_stir" (.cons (.var 1) (.cons (.con (.int 4)) .nil))) (.bi .len (.cons (.var 5) .nil)))) (.cons (.ite (.cmp .eq (.var 4) (.con (.int 0))) (.cons (.ret (.op .add (.op .add (.sl (.var 0) .none (.some (.var 2))) (.var 3)) (.sl (.var 0) (.some (.var 2)) .none))) .nil) .nil) (.cons (.ite (.cmp .eq (.var 4) (.con (.int 1))) (.cons (.ret (.op .add (.sl (.var 0) .none (.some (.var 2))) (.sl (.var 0) (.some (.op .add (.var 2) (.con (.int 1)))) .none))) .nil) .nil) (.cons (.ite (.cmp .eq (.var 4) (.con (.int 2))) (.cons (.ret (.op .add (.op .add (.sl (.var 0) .none (.some (.var 2))) (.var 3)) (.sl (.var 0) (.some (.op .add (.var 2) (.con (.int 1)))) .none))) .nil) .nil) (.cons (.ite (.cmp .eq (.var 4) (.con (.int 3))) (.cons (.ret (.joi " " (.op .add (.sl (.var 5) .none (.some (.var 6))) (.sl (.var 5) (.some (.op .add (.var 6) (.con (.int 1)))) .none)))) .nil) .nil) (.cons (.ite (.cmp .eq (.var 4) (.con (.int 4))) (.cons (.ret (.joi " " (.op .add (.op .add (.sl (.var 5) .none (.some (.var 6))) (.sl (.var 5) (.some (.var 6)) (.some (.op .add (.var 6) (.con (.int 1)))))) (.sl (.var 5) (.some (.var 6)) .none)))) .nil) .nil) (.cons (.ite (.cmp .eq (.var 4) (.con (.int 5))) (.cons (.ret (.joi " " (.op .add (.sl (.var 5) .none (.some (.con (.int 1)))) (.rvt (.var 5))))) .nil) .nil) (.cons (.ite (.cmp .eq (.var 4) (.con (.int 6))) (.cons (.ret (.joi " " (.op .add (.op .add (.sl (.var 5) .none (.some (.var 6))) (.lst (.cons (.rev (.ix (.var 5) (.var 6))) .nil))) (.sl (.var 5) (.some (.op .add (.var 6) (.con (.int 1)))) .none)))) .nil) .nil) (.cons (.ret (.ix (.lst (.cons (.con (.str "")) (.cons (.con (.str " ")) (.cons (.con (.str "9")) (.cons (.con (.str "0")) (.cons (.con (.str "-")) (.cons (.sadd (.var 0) (.con (.str " "))) (.cons (.op .add (.con (.str " ")) (.var 0)) (.cons (.con (.str "01")) .nil))))))))) (.op .mod (.var 1) (.con (.int 8))))) .nil)))))))))))))⟩
abbrev zU:Fn:=KG.zU
abbrev gU:Fn:=KG.gU
noncomputable def pX:Fn:=⟨2,3,false,(.cons (.try (.cons (.ret (.call "read_some" (.cons (.var 0) (.cons (.var 1) .nil)))) .nil) "PlaceError" (some 2) (.cons (.ret (.tup (.cons (.con (.str "no")) (.cons (.call "_law_kinds" (.cons (.var 2) .nil)) .nil)))) .nil)) .nil)⟩
noncomputable def kJ:Fn:=⟨2,3,false,(.cons (.ite (.cmp .eq (.var 1) (.con (.str "none"))) (.cons (.ret (.tup .nil)) .nil) .nil) (.cons (.set (.nm 2) (.comp (.seq (.spl (.var 1) (.con (.str ",")))) [none,none] (.nm 1) .yes (.call "_law_number_in" (.cons (.var 1) .nil)))) (.cons (.ite (.or (.cmp .isin (.con .non) (.var 2)) (.or (.cmp .ne (.var 2) (.sset false (.var 2))) (.cmp .ge (.ix (.var 2) (.neg (.con (.int 1)))) (.var 0)))) (.cons (.ret (.tup (.cons (.con (.str "no")) (.cons (.con (.int 9)) .nil)))) .nil) .nil) (.cons (.ret (.bi .tuple (.cons (.var 2) .nil))) .nil))))⟩
noncomputable def iD:Fn:=⟨1,8,false,(.cons (.for (.nm 1) (.seq (.op .add (.sl (.var 0) .none (.some (.con (.int 8)))) (.lst (.cons (.con (.int 0)) (.cons (.con (.int 3)) .nil))))) (.cons (.set (.nm 2) (.op .add (.con (.int 1)) (.op .mod (.op .fdiv (.var 1) (.con (.int 64))) (.con (.int 8))))) (.cons (.set (.nm 3) (.call "_law_web_by" (.cons (.var 2) (.cons (.op .fdiv (.var 1) (.con (.int 512))) .nil)))) (.cons (.set (.nm 4) (.lst (.cons (.con (.str "")) (.cons (.con (.str "none")) (.cons (.con (.str " none")) (.cons (.con (.str "None")) (.cons (.con (.str "0")) (.cons (.con (.str "00")) (.cons (.con (.str "0,")) (.cons (.con (.str ",0")) (.cons (.con (.str "0,0")) (.cons (.con (.str "1,0")) (.cons (.con (.str "0, 1")) (.cons (.con (.str "-1")) (.cons (.con (.str "0 1")) (.cons (.con (.str "8")) (.cons (.con (.str "0,1,2")) .nil))))))))))))))))) (.cons (.for (.nm 5) (.seq (.lst (.cons (.call "_law_some_by" (.cons (.var 2) (.cons (.call "_law_stir" (.cons (.var 1) (.cons (.con (.int 1)) .nil))) .nil))) (.cons (.tup .nil) (.cons (.rtup (.rng (.var 2))) .nil))))) (.cons (.app 4 (.call "_law_some_text" (.cons (.var 5) .nil))) (.cons (.set (.nm 4) (.op .add (.own 4) (.comp (.rng (.con (.int 8))) [none,none,some 1,some 5] (.nm 1) .yes (.call "_law_bent" (.cons (.call "_law_some_text" (.cons (.var 3) .nil)) (.cons (.op .add (.var 2) (.op .mul (.con (.int 7919)) (.var 1))) .nil)))))) (.cons (.app 4 (.rev (.call "_law_some_text" (.cons (.var 5) .nil)))) .nil)))) (.cons (.for (.nm 6) (.seq (.own 4)) (.cons (.ite (.not (.val (.call "_law_same" (.cons (.call "_law_told" (.cons (.var 3) (.cons (.var 6) .nil))) (.cons (.call "_law_due" (.cons (.var 2) (.cons (.var 6) .nil))) .nil))))) (.cons (.ret (.con (.bl false))) .nil) .nil) .nil)) (.cons (.for (.nm 7) (.seq (.lst (.cons (.con .non) (.cons (.con (.int 3)) (.cons (.tup (.cons (.con (.int 0)) .nil)) (.cons (.lst (.cons (.con (.str "0")) .nil)) (.cons (.con (.bl true)) (.cons .dic (.cons (.tup .nil) .nil))))))))) (.cons (.ite (.cmp .ne (.call "_law_told" (.cons (.var 3) (.cons (.var 7) .nil))) (.tup (.cons (.con (.str "no")) (.cons (.con (.int 9)) .nil)))) (.cons (.ret (.con (.bl false))) .nil) .nil) .nil)) (.cons (.ite (.cmp .ne (.call "_law_told" (.cons (.call "_law_no_web" (.cons (.var 3) (.cons (.call "_law_stir" (.cons (.var 1) (.cons (.con (.int 2)) .nil))) .nil))) (.cons (.ix (.lst (.cons (.con .non) (.cons (.con (.str "0")) (.cons (.con (.str "x")) .nil)))) (.op .mod (.var 1) (.con (.int 3)))) .nil))) (.tup (.cons (.con (.str "no")) (.cons (.con (.int 0)) .nil)))) (.cons (.ret (.con (.bl false))) .nil) .nil) .nil)))))))) (.cons (.ret (.con (.bl true))) .nil))⟩
abbrev AQ:Ent:=⟨"is_whole",top 17,[],false,jF⟩
abbrev Dp:Ent:=⟨"is_between",top 18,[],false,zG⟩
abbrev ua:Ent:=⟨"is_pair",top 19,[],false,fO⟩
abbrev uL:Ent:=⟨"rises",top 20,[],false,iw⟩
abbrev y6:Ent:=⟨"is_web",top 23,[],false,eW⟩
abbrev xK:Ent:=⟨"is_tie",top 24,[],false,zX⟩
abbrev Aa:Ent:=⟨"need_web",top 25,[],false,gn⟩
abbrev sr:Ent:=⟨"is_place",top 26,[],false,fh⟩
abbrev uD:Ent:=⟨"is_some",top 28,[],false,fK⟩
abbrev DG:Ent:=⟨"read_some",top 33,[],false,fE⟩
abbrev ye:Ent:=⟨"numbers_in",top 34,[],false,kh⟩
abbrev wC:Ent:=⟨"number_in",top 35,[],false,gw⟩
abbrev um:Ent:=⟨"is_number",top 36,[],false,jY⟩
abbrev rB:Ent:=⟨"_law_kinds",top 38,[],false,pV⟩
abbrev AH:Ent:=⟨"_law_number_in",top 39,[],false,j9⟩
abbrev wj:Ent:=⟨"_law_pairs",top 40,[],false,gG⟩
abbrev Dc:Ent:=⟨"_law_stir",top 41,[],false,zE⟩
abbrev AY:Ent:=⟨"_law_web_by",top 42,[ah "_law_ties"],false,gL⟩
abbrev sL:Ent:=⟨"_law_some_by",top 43,[],false,zW⟩
abbrev vJ:Ent:=⟨"_law_some_text",top 44,[],false,jW⟩
abbrev uA:Ent:=⟨"_law_bent",top 45,[],false,kO⟩
abbrev Av:Ent:=⟨"_law_same",top 46,[],false,zU⟩
abbrev uR:Ent:=⟨"_law_no_web",top 47,[],false,gU⟩
abbrev Cv:Ent:=⟨"_law_told",top 48,[],false,pX⟩
abbrev xR:Ent:=⟨"_law_due",top 49,[],false,kJ⟩
abbrev fV:Ent:=⟨"law",top 50,[ah "_law_texts"],false,iD⟩
abbrev tab:List Ent:=[AQ,Dp,ua,uL,y6,xK,Aa,sr,uD,DG,ye,wC,um,rB,AH,wj,Dc,AY,sL,vJ,uA,Av,uR,Cv,xR,fV]
abbrev oth:List (Str×GK):=[(ah "PlaceError",GK.exk),(ah "NoWeb",GK.exc),(ah "NoPlaces",GK.exk),(ah "NoPlace",GK.exk),(ah "NoNumber",GK.exk),(ah "NotAll",GK.exk),(ah "NotUntied",GK.exk),(ah "NoShares",GK.exk),(ah "NotTree",GK.exk),(ah "NotTold",GK.exk),(ah "NoCrowds",GK.exk),(ah "NoText",GK.exc),(ah "NoLine",GK.exk),(ah "NoDeed",GK.exk),(ah "TooGreat",GK.exk),(ah "MOST",GK.val),(ah "FIGURES",GK.val),(ah "MOST_FIGURES",GK.val),(ah "NONE",GK.val),(ah "len",GK.bi .len),(ah "tuple",GK.ty "tuple" (some .tuple)),(ah "list",GK.ty "list" (some .list)),(ah "int",GK.ty "int" (some .int)),(ah "bool",GK.ty "bool" (some .bool)),(ah "str",GK.ty "str" none),(ah "set",GK.set),(ah "sorted",GK.bi .sorted),(ah "all",GK.bi .all),(ah "range",GK.rng),(ah "enumerate",GK.enum),(ah "zip",GK.zip),(ah "isinstance",GK.isi),(ah "ValueError",GK.ty "ValueError" none)]
abbrev vals:List (Str×D):=[(ah "MOST",(.int 8)),(ah "FIGURES",(.str "0123456789")),(ah "MOST_FIGURES",(.int 31)),(ah "NONE",(.str "none"))]
abbrev G:List (Str×GK):=tab.map (λe=>(e.x,GK.fn e.fr))++oth
abbrev cq:List (Str×Str):=[(ah "NoText",ah "PlaceError"),(ah "NoWeb",ah "PlaceError")]
abbrev us:List Ent:=[rB]
abbrev subs:List ((Str×Cl)×Bool):=[((ah "NoText",.ty "ValueError"),true),((ah "NoText",.ex (ah "NoWeb")),false),((ah "NoText",.ex (ah "NoPlaces")),false),((ah "NoText",.ex (ah "NoPlace")),false),((ah "NoText",.ex (ah "NoNumber")),false),((ah "NoText",.ex (ah "NotUntied")),false),((ah "NoText",.ex (ah "NoShares")),false),((ah "NoText",.ex (ah "NotTree")),false),((ah "NoText",.ex (ah "NotTold")),false),((ah "NoText",.ex (ah "NoCrowds")),false),((ah "NoText",.ex (ah "NoText")),true),((ah "NoText",.ex (ah "NoLine")),false),((ah "NoText",.ex (ah "NoDeed")),false),((ah "NoText",.ex (ah "NotAll")),false),((ah "NoText",.ex (ah "TooGreat")),false),((ah "NoWeb",.ty "ValueError"),true),((ah "NoWeb",.ex (ah "NoWeb")),true),((ah "NoWeb",.ex (ah "NoPlaces")),false),((ah "NoWeb",.ex (ah "NoPlace")),false),((ah "NoWeb",.ex (ah "NoNumber")),false),((ah "NoWeb",.ex (ah "NotUntied")),false),((ah "NoWeb",.ex (ah "NoShares")),false),((ah "NoWeb",.ex (ah "NotTree")),false),((ah "NoWeb",.ex (ah "NotTold")),false),((ah "NoWeb",.ex (ah "NoCrowds")),false),((ah "NoWeb",.ex (ah "NoText")),false),((ah "NoWeb",.ex (ah "NoLine")),false),((ah "NoWeb",.ex (ah "NoDeed")),false),((ah "NoWeb",.ex (ah "NotAll")),false),((ah "NoWeb",.ex (ah "TooGreat")),false)]
abbrev p:Pr:=prT tab vals cq subs
theorem gW:p.fns "read_some" = some fE:=by kernel_rfl
theorem m6:p.fns "_law_kinds" = some pV:=by kernel_rfl
theorem wx:p.fns "_law_some_text" = some jW:=by kernel_rfl
theorem lY:p.fns "_law_told" = some pX:=by kernel_rfl
theorem rR:p.fns "_law_due" = some kJ:=by kernel_rfl
theorem uG:p.fns "law" = some iD:=by kernel_rfl
theorem kH:p.glb "NONE" = some (.str "none"):=by kernel_rfl
end K92
namespace KT
open EV KG
open PySem (Str PyData.strOk)
open L2 (atI ixN ltP zq zx zJ qe zw pickL)
noncomputable def jY:Fn:=⟨1,1,false,(.cons (.ite (.or (.cmp .eq (.var 0) (.con (.str ""))) (.not (.val (.bi .all (.cons (.comp (.seq (.var 0)) [none,none] (.nm 1) .yes (.cmp .isin (.var 1) (.glb "FIGURES"))) .nil))))) (.cons (.ret (.con (.bl false))) .nil) .nil) (.cons (.ret (.or (.cmp .eq (.var 0) (.con (.str "0"))) (.cmp .ne (.ix (.var 0) (.con (.int 0))) (.con (.str "0"))))) .nil))⟩
noncomputable def gw:Fn:=⟨1,1,false,(.cons (.ret (.ite (.and (.val (.call "is_number" (.cons (.var 0) .nil))) (.cmp .le (.bi .len (.cons (.var 0) .nil)) (.glb "MOST_FIGURES"))) (.bi .int (.cons (.var 0) .nil)) (.con .non))) .nil)⟩
noncomputable def kh:Fn:=⟨2,2,false,(.cons (.ret (.bi .tuple (.cons (.comp (.seq (.spl (.var 0) (.var 1))) [none,none] (.nm 1) .yes (.call "number_in" (.cons (.var 1) .nil))) .nil))) .nil)⟩
noncomputable def j9:Fn:=⟨1,1,false,(.cons (.ite (.or (.cmp .eq (.var 0) (.con (.str ""))) (.or (.cmp .ne (.stp (.var 0) (.con (.str "0123456789"))) (.con (.str ""))) (.and (.cmp .eq (.ix (.var 0) (.con (.int 0))) (.con (.str "0"))) (.cmp .gt (.bi .len (.cons (.var 0) .nil)) (.con (.int 1)))))) (.cons (.ret (.con .non)) .nil) .nil) (.cons (.ret (.bi .int (.cons (.var 0) .nil))) .nil))⟩
noncomputable def kO:Fn:=⟨2,7,false,(.cons (.set (.nm 2) (.op .mod (.call "_law_stir" (.cons (.var 1) (.cons (.con (.int 1)) .nil))) (.op .add (.bi .len (.cons (.var 0) .nil)) (.con (.int 1))))) (.cons (.set (.nm 3) (.ix (.con (.str "01789- ,\n+x.")) (.op .mod (.call "_law_stir" (.cons (.var 1) (.cons (.con (.int 2)) .nil))) (.con (.int 12))))) (.cons (.set (.nm 4) (.op .mod (.call "_law_stir" (.cons (.var 1) (.cons (.con (.int 3)) .nil))) (.con (.int 8)))) (.cons (.set (.nm 5) (.spl (.var 0) (.con (.str " ")))) (.cons (.set (.nm 6) (.op .mod (.call "_law_stir" (.cons (.var 1) (.cons (.con (.int 4)) .nil))) (.bi .len (.cons (.var 5) .nil)))) (.cons (.ite (.cmp .eq (.var 4) (.con (.int 0))) (.cons (.ret (.op .add (.op .add (.sl (.var 0) .none (.some (.var 2))) (.var 3)) (.sl (.var 0) (.some (.var 2)) .none))) .nil) .nil) (.cons (.ite (.cmp .eq (.var 4) (.con (.int 1))) (.cons (.ret (.op .add (.sl (.var 0) .none (.some (.var 2))) (.sl (.var 0) (.some (.op .add (.var 2) (.con (.int 1)))) .none))) .nil) .nil) (.cons (.ite (.cmp .eq (.var 4) (.con (.int 2))) (.cons (.ret (.op .add (.op .add (.sl (.var 0) .none (.some (.var 2))) (.var 3)) (.sl (.var 0) (.some (.op .add (.var 2) (.con (.int 1)))) .none))) .nil) .nil) (.cons (.ite (.cmp .eq (.var 4) (.con (.int 3))) (.cons (.ret (.joi " " (.op .add (.sl (.var 5) .none (.some (.var 6))) (.sl (.var 5) (.some (.op .add (.var 6) (.con (.int 1)))) .none)))) .nil) .nil) (.cons (.ite (.cmp .eq (.var 4) (.con (.int 4))) (.cons (.ret (.joi " " (.op .add (.op .add (.sl (.var 5) .none (.some (.var 6))) (.sl (.var 5) (.some (.var 6)) (.some (.op .add (.var 6) (.con (.int 1)))))) (.sl (.var 5) (.some (.var 6)) .none)))) .nil) .nil) (.cons (.ite (.cmp .eq (.var 4) (.con (.int 5))) (.cons (.ret (.joi " " (.op .add (.sl (.var 5) .none (.some (.con (.int 1)))) (.rvt (.var 5))))) .nil) .nil) (.cons (.ite (.cmp .eq (.var 4) (.con (.int 6))) (.cons (.ret (.joi " " (.op .add (.op .add (.sl (.var 5) .none (.some (.var 6))) (.lst (.cons (.rev (.ix (.var 5) (.var 6))) .nil))) (.sl (.var 5) (.some (.op .add (.var 6) (.con (.int 1)))) .none)))) .nil) .nil) (.cons (.ret (.ix (.lst (.cons (.con (.str "")) (.cons (.con (.str " ")) (.cons (.con (.str "9")) (.cons (.con (.str "0")) (.cons (.con (.str "-")) (.cons (.sadd (.var 0) (.con (.str " "))) (.cons (.op .add (.con (.str " ")) (.var 0)) (.cons (.con (.str "01")) .nil))))))))) (.op .mod (.var 1) (.con (.int 8))))) .nil)))))))))))))⟩
structure TxB(p:Pr):Prop where
 is_number:p.fns "is_number" = some jY
 number_in:p.fns "number_in" = some gw
 numbers_in:p.fns "numbers_in" = some kh
 _law_number_in:p.fns "_law_number_in" = some j9
 _law_bent:p.fns "_law_bent" = some kO
 FIGURES:p.glb "FIGURES" = some (.str "0123456789")
 MOST_FIGURES:p.glb "MOST_FIGURES" = some (.int 31)
theorem jg{x:Str}(h:PyData.strOk x=true):(D.str x).asks=true:=by simp[D.asks,D.plain,D.deep,h]
theorem jc{x y:Str}:x=y↔x.cps.toList=y.cps.toList:=⟨λh=>by rw[h],λh=>PySem.Str.ext' (Array.toList_inj.mp h)⟩
theorem eq_str{x y:Str}(h:PyData.strOk x=true)(h':PyData.strOk y=true):qh .eq (.str x) (.str y)=.ok (decide (x.cps.toList=y.cps.toList)):=by
 rw[qh,jg h,jg h']
 ·simp only[Bool.and_self,if_true,D.eqv]
  congr 1
  rw[Bool.eq_iff_iff,decide_eq_true_eq,<-jc];exact beq_iff_eq
 all_goals (intros;rintro⟨⟩)
theorem ne_str{x y:Str}(h:PyData.strOk x=true)(h':PyData.strOk y=true):qh .ne (.str x) (.str y)=.ok (!decide (x.cps.toList=y.cps.toList)):=by
 rw[qh,jg h,jg h']
 ·simp only[Bool.and_self,if_true,D.eqv]
  congr 2
  rw[Bool.eq_iff_iff,decide_eq_true_eq,<-jc];exact beq_iff_eq
 all_goals (intros;rintro⟨⟩)
theorem ok0:PyData.strOk (ah "")=true:=by decide +kernel
theorem ok1:PyData.strOk (ah "0")=true:=by decide +kernel
theorem l0:(ah "").cps.toList=[]:=by decide +kernel
theorem l1:(ah "0").cps.toList=[48]:=by decide +kernel
theorem ku{c:Nat}(h:c<0x110000):PyData.strOk ⟨#[c]⟩=true:=by rw[dE];intro d hd;simp at hd;lia
noncomputable def oD:Option Int->D
 |none=>.non
 |some i=>.int i
noncomputable def nmP(x:Str):Option Int:=if x.length<=31 then nm x else none
theorem ix0{x:Str}{c:Nat}{r:List Nat}(h:x.cps.toList=c::r)(hl:x.length<=SZ):ixD (.str x) (.int 0)=.ok (.str ⟨#[c]⟩):=by
 simp only[ixD];have:atI (c::r) (0:Int)=some c:=by simp[atI,ixN]
 rw[if_pos hl,h,this]
theorem len_str{x:Str}(hl:x.length<=SZ):b1 .len [.str x]=.ok (.int x.length):=by
 show (if x.length<=SZ then R.ok (D.int x.length)else R.no)=_;rw[if_pos hl]
theorem int_str{x:Str}{n:Int}(hl:x.length<=640)(h:PySem.intText? x=some n):b1 .int [.str x]=.ok (.int n):=by
 show (if x.length<=640 then zO (PySem.intText? x) λn=>R.ok (D.int n)else R.no)=_;rw[if_pos hl,h]
 rfl
theorem jX{w:W}{a b:E}{τ:Env}{x y:Str}(ha:evE w a τ=.ok (.str x))(hb:evE w b τ=.ok (.str y))(hy:y.length=1)(hx:x.length<=10000):evE w (.spl a b) τ=.ok (.lst ((qe x y).map D.str)):=by
 have hs:=jJ x y hy;have e:gX x (.str y)=.ok (.lst ((qe x y).map D.str)):=by
  simp only[gX,sR];rw[if_pos];have a1:y.length≠0:=by lia
  have a2:x.length<=SZ:=by simp[SZ];lia
  have a3:(qe x y).length<=SZ:=by simp[SZ];lia
  rw[decide_eq_true a1,decide_eq_true a2,decide_eq_true a3];rfl
 rw[evE.eq_41,ha];simp only[R.bind_ok,sR];rw[hb];simp only[R.bind_ok];exact e
theorem Aq{w:W}{a b:E}{τ:Env}{x y:Str}(ha:evE w a τ=.ok (.str x))(hb:evE w b τ=.ok (.str y))(hx:x.length<=10000):evE w (.stp a b) τ=.ok (.str (zJ x y)):=by
 have hl:(zJ x y).length<=x.length:=by
  unfold zJ;split
  ·exact az _
  ·simp[PySem.stripped,PySem.Builtin.Str.strSub,Str.length];lia
 rw[evE.eq_39,ha];simp only[R.bind_ok,sR];rw[hb];simp only[R.bind_ok,jM,sR];have a3:(zJ x y).length<=SZ:=by simp[SZ];lia
 rw[if_pos (by rw[decide_eq_true a3])]
theorem tH{x y:Str}(h:PyData.strOk x=true):PyData.strOk (zJ x y)=true:=by
 refine iQ (λc hc=>?_) h;unfold zJ at hc;split at hc
 ·exact hc
 ·simp only[PySem.stripped]at hc;rw[PySem.StrLaws.strSub_toList]at hc;exact List.mem_of_mem_drop (List.mem_of_mem_take hc)
theorem ja{α:Type}(f:α->Bool):∀l:List α,bools? (l.map λc=>D.bl (f c))=some (l.map f)
 | []=>rfl
 |c::l=>by rw[a7,bools?,ja f l];rfl
theorem wL{α:Type}(f:α->Bool)(l:List α):b1 .all [.lst (l.map λc=>D.bl (f c))]=.ok (.bl (l.all f)):=by
 show zO (bools? _) _=_;rw[ja];show R.ok (D.bl ((l.map f).all id))=_;rw[List.all_map];rfl
section
variable{p:Pr}(B:TxB p)
include B
theorem is_number{k:Nat}{x:Str}(h:Tx 10000 x):qa p (k+1) "is_number" [.str x]=.ok (.bl (nm x).isSome):=by
 have hl:=h.len;have e1:=eq_str h.ok ok0;have e2:=eq_str h.ok ok1;rw[l0]at e1;rw[l1]at e2;have hc:evE ⟨qa p k,p.glb,p.sub,p.cat⟩ (.comp (.seq (.var 0)) [none,none] (.nm 1) .yes (.cmp .isin (.var 1) (.glb "FIGURES"))) [some (.str x)]=.ok (.lst (x.cps.toList.map λc=>.bl (dg c))):=by
  refine eP (f:=λ(c:Nat)=>D.str ⟨#[c]⟩) (c:=[]) (λc=>.bl (dg c)) (by rw[evI,evE.eq_1];rfl) (by have:=len_list x;simp[SZ];simp[Str.length]at hl;lia) rfl λc hc=>?_
  have e:dF (.str ⟨#[c]⟩) (.str "0123456789")=.ok (dg c):=by
   simp only[dF];rw[PySem.StrLaws.found_one]
   congr 1
   rw[Bool.eq_iff_iff,decide_eq_true_eq];exact ny c
  have e':qh .isin (.str ⟨#[c]⟩) (.str "0123456789")=.ok (dg c):=e;simp[KG.Z,B.FIGURES,e']
 have ha:=wL dg x.cps.toList
 suffices H:∃d,qa p (k+1) "is_number" [.str x]=.ok d/\d=.bl (nm x).isSome by obtain⟨d,e,rfl⟩:=H;exact e
 refine kz (τ:=[some (.str x)]) B.is_number rfl rfl ?_;have ht:∀v:Bool,qh .eq (.str x) (.str (ah ""))=.ok v->evT (wAt p k) (.or (.cmp .eq (.var 0) (.con (.str ""))) (.not (.val (.bi .all (.cons (.comp (.seq (.var 0)) [none,none] (.nm 1) .yes (.cmp .isin (.var 1) (.glb "FIGURES"))) .nil))))) [some (.str x)]=.ok (v || !x.cps.toList.all dg):=by
  intro v hv;have e5:evT (wAt p k) (.cmp .eq (.var 0) (.con (.str ""))) [some (.str x)]=.ok v:=hv;rw[evT.eq_6,e5];cases v with
  |true=>rfl
  |false=>
   rw[R.bind_ok,evT.eq_7,evT.eq_2,evE.eq_22,zt,hc];simp only[R.bind_ok,zt,ha,truth]
   rfl
 cases hx:x.cps.toList with
 |nil=>
  rw[hx]at e1;have hn:nm x=none:=by unfold nm;rw[if_neg (by rw[hx];simp)]
  rw[hn];exact eC (K:=λ_=>False) (fg (ht _ e1) (λ_=>eh rfl rfl) (λz=>by simp at z)) λ_ z=>z.elim
 |cons c r=>
  have e3:=ix0 hx (by simp only[SZ];lia);have hcc:c<0x110000:=(dE x).mp h.ok c (by rw[hx];simp);have e4:=ne_str (ku hcc) ok1;rw[l1]at e4;have e4':qh .ne (.str ⟨#[c]⟩) (.str (ah "0"))=.ok (!decide (c=48)):=by rw[e4];simp
  rw[hx]at e1 e2;have e1':qh .eq (.str x) (.str (ah ""))=.ok false:=by rw[e1];simp
  by_cases q:x.cps.toList.all dg=true
  ·have hn:nm x=if c=48/\r≠[]then none else some ((PySem.NumText.digitsVal x.cps.toList:Nat):Int):=by
    unfold nm;rw[hx]at q ⊢;by_cases z:c=48/\r≠[]
    ·rw[if_pos z,if_neg];rintro⟨_,_,z'⟩;have:0<r.length:=List.length_pos_iff.mpr z.2;exact z' ⟨by rw[z.1];rfl,by simpa using this⟩
    ·rw[if_neg z,if_pos];refine⟨by simp,q,?_⟩;rintro⟨a,b⟩;simp at a b;exact z ⟨a,List.length_pos_iff.mp b⟩
   have hr:(decide (c::r=[48]) || !decide (c=48))=(nm x).isSome:=by
    rw[hn];by_cases z:c=48
    ·by_cases z':r=[]<;>simp[z,z']
    ·simp[z]
   rw[<-hr];refine eC (K:=λσ=>σ=[some (.str x)]) (fg (ht _ e1') (λz=>by rw[q]at z;cases z) (λ_=>fz rfl)) ?_;rintro σ rfl;refine eh (d:=.bl (decide (c::r=[48]) || !decide (c=48))) ?_ rfl;have e5:evE (wAt p k) (.cmp .eq (.var 0) (.con (.str "0"))) [some (.str x)]=.ok (.bl (decide (c::r=[48]))):=by
    rw[evE.eq_12];show ((qh .eq (.str x) (.str (ah "0"))).bind _)=_;rw[e2];rfl
   have e6:evE (wAt p k) (.cmp .ne (.ix (.var 0) (.con (.int 0))) (.con (.str "0"))) [some (.str x)]=.ok (.bl (!decide (c=48))):=by
    rw[evE.eq_12,evE.eq_18,evE.eq_1,evE.eq_3,evE.eq_3];simp only[bP,List.getElem?_cons_zero,R.bind_ok,e3,e4']
   rw[evE.eq_11,e5];cases z:decide (c::r=[48])with
   |true=>rfl
   |false=>rw[R.bind_ok];dsimp only;rw[e6];rfl
  ·have q':x.cps.toList.all dg=false:=by simpa using q
   have hn:nm x=none:=by unfold nm;rw[if_neg (λz=>q z.2.1)]
   rw[hn];exact eC (K:=λ_=>False) (fg (ht _ e1') (λ_=>eh rfl rfl) (λz=>by rw[q']at z;cases z)) λ_ z=>z.elim
theorem number_in{k:Nat}{x:Str}(h:Tx 10000 x):qa p (k+2) "number_in" [.str x]=.ok (oD (nmP x)):=by
 have hl:=h.len;have e1:=is_number B (k:=k) h;have e2:=len_str (x:=x) (by simp only[SZ];lia);rw[qc B.number_in];refine qL (τ:=[some (.str x)]) rfl rfl ?_;have e3:qh .le (.int x.length) (.int 31)=.ok (decide (x.length<=31)):=by
  show R.ok (decide ((x.length:Int)<=31))=_
  congr 1
  rw[Bool.eq_iff_iff,decide_eq_true_eq,decide_eq_true_eq];lia
 cases hn:nm x with
 |none=>
  rw[hn]at e1;have:nmP x=none:=by unfold nmP;rw[hn];split<;>rfl
  rw[this];simp[KG.Z,gw,e1,evE.eq_15,oD]
 |some i=>
  rw[hn]at e1;by_cases q:x.length<=31
  ·have:nmP x=some i:=by unfold nmP;rw[if_pos q,hn]
   rw[this];rw[decide_eq_true q]at e3;have e4:b1 .int [.str x]=.ok (.int i):=int_str (by lia) (by
    unfold nm at hn;split at hn
    ·rename_i z;cases hn;exact ng z.2.1 z.1 (by lia)
    ·cases hn)
   generalize (x.length:Int)=N at *;simp[KG.Z,gw,e1,e2,e3,e4,evE.eq_15,oD,B.MOST_FIGURES]
  ·have:nmP x=none:=by unfold nmP;rw[if_neg q]
   rw[this];rw[decide_eq_false q]at e3;generalize (x.length:Int)=N at *;simp[KG.Z,gw,e1,e2,e3,evE.eq_15,oD,B.MOST_FIGURES]
theorem numbers_in{k:Nat}{x y:Str}(h:Tx 10000 x)(hy:y.length=1):qa p (k+3) "numbers_in" [.str x,.str y]=.ok (.tup ((qe x y).map λv=>oD (nmP v))):=by
 have hl:=h.len;have hs:=jJ x y hy;rw[qc B.numbers_in];refine qL (τ:=[some (.str x),some (.str y)]) rfl rfl ?_;have hc:evE ⟨qa p (k+2),p.glb,p.sub,p.cat⟩ (.comp (.seq (.spl (.var 0) (.var 1))) [none,none] (.nm 1) .yes (.call "number_in" (.cons (.var 1) .nil))) [some (.str x),some (.str y)]=.ok (.lst ((qe x y).map λv=>oD (nmP v))):=by
  refine eP (f:=D.str) (c:=[]) (λv=>oD (nmP v)) (by rw[evI,jX rfl rfl hy hl];rfl) (by simp only[SZ];lia) rfl λv hv=>?_
  have e:=number_in B (k:=k) (lr h hv hy);simp[KG.Z,e]
 show qf _ (.cons (.ret (.bi .tuple (.cons _ .nil))) .nil) _=_;rw[qf,evS.eq_5,evE.eq_22,zt,hc]
 rfl
theorem wd{k:Nat}{x:Str}(h:Tx 640 x):qa p (k+1) "_law_number_in" [.str x]=.ok (oD (nm x)):=by
 have hl:=h.len;have e1:=eq_str h.ok ok0;rw[l0]at e1
 suffices H:∃d,qa p (k+1) "_law_number_in" [.str x]=.ok d/\d=oD (nm x)by obtain⟨d,e,rfl⟩:=H;exact e
 refine kz (τ:=[some (.str x)]) B._law_number_in rfl rfl ?_;have t1:evT (wAt p k) (.cmp .eq (.var 0) (.con (.str ""))) [some (.str x)]=.ok (decide (x.cps.toList=[])):=e1;have t2:evT (wAt p k) (.cmp .ne (.stp (.var 0) (.con (.str "0123456789"))) (.con (.str ""))) [some (.str x)]=.ok (!x.cps.toList.all dg):=by
  rw[evT.eq_3,Aq (x:=x) (y:="0123456789") rfl rfl (by lia)];show qh .ne (.str (zJ x "0123456789")) (.str (ah ""))=_;rw[ne_str (tH h.ok) ok0]
  congr 2
  rw[Bool.eq_iff_iff,decide_eq_true_eq,<-jc];exact BG x
 cases hx:x.cps.toList with
 |nil=>
  rw[hx]at t1;have hn:nm x=none:=by unfold nm;rw[if_neg (by rw[hx];simp)]
  rw[hn];refine eC (K:=λ_=>False) (fg (v:=true) (by rw[evT.eq_6,t1];rfl) (λ_=>eh rfl rfl) (λz=>by simp at z)) λ_ z=>z.elim
 |cons c r=>
  rw[hx]at t1;have t1':evT (wAt p k) (.cmp .eq (.var 0) (.con (.str ""))) [some (.str x)]=.ok false:=by rw[t1];simp
  have e3:=ix0 hx (by simp only[SZ];lia);have hcc:c<0x110000:=(dE x).mp h.ok c (by rw[hx];simp);have e4:=eq_str (ku hcc) ok1;rw[l1]at e4;have t3:evT (wAt p k) (.cmp .eq (.ix (.var 0) (.con (.int 0))) (.con (.str "0"))) [some (.str x)]=.ok (decide (c=48)):=by
   rw[evT.eq_3,evE.eq_18];show (((ixD (.str x) (.int 0)).bind λx=>_))=_;rw[e3];show ((qh .eq (.str ⟨#[c]⟩) (.str (ah "0"))))=_;rw[e4];simp
  have e2:=len_str (x:=x) (by simp only[SZ];lia);have t4:evT (wAt p k) (.cmp .gt (.bi .len (.cons (.var 0) .nil)) (.con (.int 1))) [some (.str x)]=.ok (decide (r≠[])):=by
   rw[evT.eq_3,evE.eq_22];show ((b1 .len [.str x]).bind λx=>_)=_;rw[e2];show R.ok (decide ((1:Int)<(x.length:Int)))=_
   congr 1
   rw[Bool.eq_iff_iff,decide_eq_true_eq,decide_eq_true_eq,len_list,hx];cases r<;>simp<;>lia
  by_cases q:x.cps.toList.all dg=true
  ·rw[q]at t2;by_cases z:c=48/\r≠[]
   ·have hn:nm x=none:=by
     unfold nm;rw[if_neg];rintro⟨_,_,z'⟩;have:0<r.length:=List.length_pos_iff.mpr z.2;rw[hx]at z';exact z' ⟨by rw[z.1];rfl,by simpa using this⟩
    rw[hn];refine eC (K:=λ_=>False) (fg (v:=true) ?_ (λ_=>eh rfl rfl) (λz=>by simp at z)) λ_ z=>z.elim
    rw[decide_eq_true z.1]at t3;rw[decide_eq_true z.2]at t4;rw[evT.eq_6,t1',R.bind_ok,if_neg (by decide),evT.eq_6,t2,R.bind_ok,if_neg (by decide),evT.eq_5,t3,R.bind_ok,if_pos rfl,t4]
   ·have hn:nm x=some ((PySem.NumText.digitsVal x.cps.toList:Nat):Int):=by
     unfold nm;rw[if_pos];refine⟨by rw[hx];simp,q,?_⟩;rw[hx];rintro⟨a,b⟩;simp at a b;exact z ⟨a,List.length_pos_iff.mp b⟩
    rw[hn];refine eC (K:=λσ=>σ=[some (.str x)]) (fg (v:=false) ?_ (λz=>by cases z) (λ_=>fz rfl)) ?_
    ·rw[evT.eq_6,t1',R.bind_ok,if_neg (by decide),evT.eq_6,t2,R.bind_ok,if_neg (by decide),evT.eq_5,t3,R.bind_ok];by_cases z':c=48
     ·rw[decide_eq_true z',if_pos rfl,t4,decide_eq_false λq=>z ⟨z',q⟩]
     ·rw[decide_eq_false z'];rfl
    ·rintro σ rfl;refine eh (d:=.int ((PySem.NumText.digitsVal x.cps.toList:Nat):Int)) ?_ rfl;rw[evE.eq_22];exact int_str hl (ng q (by rw[hx];simp) hl)
  ·have q':x.cps.toList.all dg=false:=by simpa using q
   have hn:nm x=none:=by unfold nm;rw[if_neg (λz=>q z.2.1)]
   rw[hn];rw[q']at t2;refine eC (K:=λ_=>False) (fg (v:=true) ?_ (λ_=>eh rfl rfl) (λz=>by cases z)) λ_ z=>z.elim
   rw[evT.eq_6,t1',R.bind_ok,if_neg (by decide),evT.eq_6,t2];rfl
end
noncomputable def tot(l:List Str):Nat:=(l.map (·.length)).sum+l.length
theorem zT(a b:List Str):tot (a++b)=tot a+tot b:=by simp[tot];lia
theorem gB(a:Str)(b:List Str):tot (a::b)=a.length+1+tot b:=by simp[tot];lia
theorem kE:tot []=0:=rfl
theorem kI(x y:Str)(hy:y.length=1):tot (qe x y)=x.length+1:=jJ x y hy
theorem pZ:∀a:List Str,tot a.reverse=tot a
 | []=>rfl
 |x::a=>by rw[List.reverse_cons,zT,pZ a,gB,gB,kE];lia
theorem strs_map:∀ys:List Str,strs? (ys.map D.str)=some ys
 | []=>rfl
 |y::r=>by
  show (strs? (r.map D.str)).map (y :: ·)=_;rw[strs_map r];rfl
theorem hU{sep:Str}(hs:sep.length<=16){ys:List Str}(hz:tot ys<=100000):dS sep (.lst (ys.map D.str))=.ok (.str (zw sep ys)):=by
 simp only[dS,cV];rw[strs_map];simp only[zO];rw[if_pos (by simp only[aH,decide_eq_true_eq];exact⟨hs,hz⟩)]
theorem s1:(ah " ").length=1:=by decide +kernel
theorem o1:PyData.strOk (ah " ")=true:=by decide +kernel
theorem rm(ws:List Str){i:Nat}(h:i<=ws.length):cutD (ws.map D.str) none (some (i:Int))=(ws.take i).map D.str:=by
 have e1:HT.sIx ws.length ws.length (some (i:Int))=i:=by rw[HT.i8];lia
 simp only[cutD,aV,e1];simp[HT.sIx]
theorem pE(ws:List Str){i:Nat}(h:i<=ws.length):cutD (ws.map D.str) (some (i:Int)) none=(ws.drop i).map D.str:=by
 have e1:HT.sIx ws.length 0 (some (i:Int))=i:=by rw[HT.i8];lia
 simp only[cutD,aV,e1];rw[HT.BZ,<-List.map_drop,<-List.map_take,List.take_of_length_le (by simp)]
theorem yT(ws:List Str){i:Nat}(h:i<ws.length):cutD (ws.map D.str) (some (i:Int)) (some ((i:Int)+1))=[ws[i]].map D.str:=by
 have e1:HT.sIx ws.length 0 (some (i:Int))=i:=by rw[HT.i8];lia
 have e2:HT.sIx ws.length ws.length (some ((i:Int)+1))=i+1:=by rw[show ((i:Int)+1)=((i+1:Nat):Int)from rfl,HT.i8];lia
 simp only[cutD,aV,e1,e2,Nat.add_sub_cancel_left,<-List.map_drop,<-List.map_take];rw[List.drop_eq_getElem_cons h]
 rfl
theorem xa{i:Int}(h:0<=i/\i<12):∃z,ixD (.str "01789- ,\n+x.") (.int i)=.ok (.str z)/\Tx 1 z:=by
 obtain⟨j,rfl⟩:∃j:Nat,i=j:=⟨i.toNat,by lia⟩
 have h':j<12:=by lia
 have e:(ah "01789- ,\n+x.").cps.toList=[48,49,55,56,57,45,32,44,10,43,120,46]:=by decide +kernel
 have l:(ah "01789- ,\n+x.").length<=SZ:=by decide +kernel
 have a:atI (ah "01789- ,\n+x.").cps.toList (j:Int)=some ([48,49,55,56,57,45,32,44,10,43,120,46][j]'h'):=by
  rw[e];have:((j:Int)<12):=by lia
  simp[atI,ixN,this,h']
 refine⟨⟨#[[48,49,55,56,57,45,32,44,10,43,120,46][j]'h']⟩,?_,by simp[Str.length],ku ?_⟩
 ·simp only[ixD];rw[if_pos l,a]
 ·have:∀c∈[48,49,55,56,57,45,32,44,10,43,120,46],c<0x110000:=by decide
  exact this _ (cN _)
theorem jZ{n:Nat}{x:Str}(h:Tx n x)(hn:n<=10000)(lo hi:Option Int):slD (.str x) lo hi=.ok (.str (zq x lo hi)):=by
 have:=(rO h lo hi).len;simp only[slD];rw[if_pos (by simp[SZ];lia)]
theorem add_str{x y:Str}(h:x.length+y.length<=100000):op2 .add (.str x) (.str y)=.ok (.str (x++y)):=by
 rw[op2,if_pos ⟨rfl,by simp[SZ];lia⟩]
theorem fk{a b:List Str}(h:a.length+b.length<=100000):op2 .add (.lst (a.map D.str)) (.lst (b.map D.str))=.ok (.lst ((a++b).map D.str)):=by
 rw[op2,if_pos ⟨rfl,by simp[SZ];lia⟩,List.map_append]
theorem u7{x y:Str}(h:x.length+y.length<=100000):gH (.str x) (.str y)=.ok (.str (x++y)):=by
 simp only[gH,sR];rw[if_pos (by simp[SZ];lia)]
theorem gp(l:List Str):l.length<=tot l:=by unfold tot;lia
theorem take_drop(l:List Str)(i:Nat):tot (l.take i)+tot (l.drop i)=tot l:=by rw[<-zT,dM]
theorem tK(l:List Str){i:Nat}(h:i<l.length):tot (l.take i)+(l[i].length+1+tot (l.drop (i+1)))=tot l:=by
 rw[<-gB,<-List.drop_eq_getElem_cons h];exact take_drop l i
theorem fZ(a b:Int)(h:0<b):op2 .mod (.int a) (.int b)=.ok (.int (a%b)):=by
 simp only[op2,opI];rw[if_pos h]
theorem kQ(a b:Int):op2 .add (.int a) (.int b)=.ok (.int (a+b)):=rfl
theorem fH{w:W}{τ:Env}{V j:Int}{e:E}{r:Ss}{J:Env->Prop}{Q:D->Prop}{d:D}(hV:τ[4]? = some (some (.int V)))(he:evE w e τ=.ok d)(hq:Q d)(hr:Ends J Q (qf w r τ)):Ends J Q (qf w (.cons (.ite (.cmp .eq (.var 4) (.con (.int j))) (.cons (.ret e) .nil) .nil) r) τ):=by
 have hT:evT w (.cmp .eq (.var 4) (.con (.int j))) τ=.ok (decide (V=j)):=by
  rw[evT.eq_3,evE.eq_1,evE.eq_3,bP,hV];exact KG.eq_int V j
 refine eC (K:=λσ=>σ=τ) (fg hT (λ_=>eh he hq) (λ_=>fz rfl)) ?_;rintro σ rfl;exact hr
theorem l8{y:Str}(h:Tx 2 y){n:Nat}:Tx (2 * n+2) y:=h.mono (by lia)
theorem vW{p:Pr}(B:TxB p)(hS:p.fns "_law_stir" = some KG.zE){k n:Nat}(hn:n<=1000){x:Str}(h:Tx n x)(c:Int):∃y,qa p (k+2) "_law_bent" [.str x,.int c]=.ok (.str y)/\Tx (2 * n+2) y:=by
 have hl:=h.len
 suffices H:∃d,qa p (k+2) "_law_bent" [.str x,.int c]=.ok d/\∃y,d=.str y/\Tx (2 * n+2) y by obtain⟨d,e,y,rfl,q⟩:=H;exact⟨y,e,q⟩
 refine kz (k:=k+1) (τ:=[some (.str x),some (.int c),none,none,none,none,none]) B._law_bent rfl rfl ?_;have st1:=eO hS (k:=k) c 1;have st2:=eO hS (k:=k) c 2;have st3:=eO hS (k:=k) c 3;have st4:=eO hS (k:=k) c 4;have e1:=len_str (x:=x) (by simp only[SZ];lia);have m1:=fZ (st c 1) ((x.length:Int)+1) (by lia);refine cW (σ:=[some (.str x),some (.int c),some (.int (st c 1%((x.length:Int)+1))),none,none,none,none]) (by
  have a:=kQ (x.length:Int) 1;generalize (x.length:Int)+1=N at *;generalize (x.length:Int)=M at *;generalize st c 1=S1 at *;generalize S1%N=R1 at *;simp[KG.Z,st1,e1,a,m1]) ?_
 generalize st c 1%((x.length:Int)+1)=A at *;clear m1 e1 st1;obtain⟨z,hz,tz⟩:=xa (i:=st c 2%12) (by lia);have m2:=fZ (st c 2) 12 (by lia);refine cW (σ:=[some (.str x),some (.int c),some (.int A),some (.str z),none,none,none]) (by
  generalize st c 2=S1 at *;generalize S1%12=R1 at *;simp[KG.Z,st2,m2,hz]) ?_
 clear m2 st2 hz;have m3:=fZ (st c 3) 8 (by lia);refine cW (σ:=[some (.str x),some (.int c),some (.int A),some (.str z),some (.int (st c 3%8)),none,none]) (by
  generalize st c 3=S1 at *;generalize S1%8=R1 at *;simp[KG.Z,st3,m3]) ?_
 clear m3 st3;generalize st c 3%8=V at *;have hws:=kI x " " s1;have hwo:∀v∈qe x " ",PyData.strOk v=true:=λv hv=>(lr h hv s1).ok
 have hwn:=iM x " ";refine cW (σ:=[some (.str x),some (.int c),some (.int A),some (.str z),some (.int V),some (.lst ((qe x " ").map D.str)),none]) (by
  rw[evS.eq_1,jX (x:=x) (y:=" ") rfl rfl s1 (by lia)];rfl) ?_
 generalize qe x " " = ws at *;have hp:=List.length_pos_iff.mpr hwn;have hwl:=gp ws;have m4:=fZ (st c 4) (ws.length:Int) (by lia);obtain⟨i,hi,hil⟩:∃i:Nat,st c 4%(ws.length:Int)=i/\i<ws.length:=by
  have a:=Int.emod_nonneg (st c 4) (b:=(ws.length:Int)) (by lia);have b:=Int.emod_lt_of_pos (st c 4) (b:=(ws.length:Int)) (by lia);exact⟨(st c 4%(ws.length:Int)).toNat,by lia,by lia⟩
 rw[hi]at m4;have e1:b1 .len [.lst (ws.map D.str)]=.ok (.int (ws.length:Int)):=by
  show R.ok (D.int ((ws.map D.str).length:Nat))=_;rw[aV]
 refine cW (σ:=[some (.str x),some (.int c),some (.int A),some (.str z),some (.int V),some (.lst (ws.map D.str)),some (.int i)]) (by
  generalize D.lst (ws.map D.str)=L at *;generalize st c 4=S1 at *;generalize (ws.length:Int)=N at *;generalize (i:Int)=I at *;simp[KG.Z,st4,e1,m4]) ?_
 clear m4 st4 e1 hi;have q1:=rm ws (i:=i) (by lia);have q2:=pE ws (i:=i) (by lia);have q3:=pE ws (i:=i+1) (by lia);have q4:=yT ws hil;have hi1:((i+1:Nat):Int)=(i:Int)+1:=rfl;rw[hi1]at q3;have g1:slD (.lst (ws.map D.str)) none (some (i:Int))=.ok (.lst ((ws.take i).map D.str)):=by rw[slD,q1]
 have g2:slD (.lst (ws.map D.str)) (some (i:Int)) none=.ok (.lst ((ws.drop i).map D.str)):=by rw[slD,q2]
 have g3:slD (.lst (ws.map D.str)) (some ((i:Int)+1)) none=.ok (.lst ((ws.drop (i+1)).map D.str)):=by rw[slD,q3]
 have g4:slD (.lst (ws.map D.str)) (some (i:Int)) (some ((i:Int)+1))=.ok (.lst ([ws[i]].map D.str)):=by rw[slD,q4]
 have hT:=take_drop ws i;have hA:=tK ws hil;have ok1:∀v∈ws.take i,PyData.strOk v=true:=λv hv=>hwo v (List.mem_of_mem_take hv)
 have ok2:∀v∈ws.drop i,PyData.strOk v=true:=λv hv=>hwo v (List.mem_of_mem_drop hv)
 have ok3:∀v∈ws.drop (i+1),PyData.strOk v=true:=λv hv=>hwo v (List.mem_of_mem_drop hv)
 have ok4:PyData.strOk ws[i]=true:=hwo _ (cN _);have ko:=gp (ws.take i);have jN:=gp (ws.drop i);have nA:=gp (ws.drop (i+1));have ai:=kQ (i:Int) 1;have aA:=kQ A 1;have gs:=jZ h (by lia);have ts:=λlo hi=>rO h lo hi
 have sl1:=λlo hi=>(ts lo hi).len
 have zl:=tz.len;have a0:op2 .add (.str (zq x none (some A))) (.str z)=.ok (.str (zq x none (some A)++z)):=add_str (by have:=sl1 none (some A);lia);have t0:=gj (ts none (some A)) tz;have a1:op2 .add (.str (zq x none (some A)++z)) (.str (zq x (some A) none))=.ok (.str (zq x none (some A)++z++zq x (some A) none)):=add_str (by have:=sl1 (some A) none;have:=t0.len;lia);have a2:op2 .add (.str (zq x none (some A))) (.str (zq x (some (A+1)) none))=.ok (.str (zq x none (some A)++zq x (some (A+1)) none)):=add_str (by have:=sl1 none (some A);have:=sl1 (some (A+1)) none;lia);have a3:op2 .add (.str (zq x none (some A)++z)) (.str (zq x (some (A+1)) none))=.ok (.str (zq x none (some A)++z++zq x (some (A+1)) none)):=add_str (by have:=sl1 (some (A+1)) none;have:=t0.len;lia);refine fH (V:=V) rfl (d:=.str (zq x none (some A)++z++zq x (some A) none)) (by simp[KG.Z,gs,a0,a1]) ⟨_,rfl,(gj t0 (ts _ _)).mono (by lia)⟩ ?_;refine fH (V:=V) rfl (d:=.str (zq x none (some A)++zq x (some (A+1)) none)) (by simp[KG.Z,gs,aA,a2]) ⟨_,rfl,(gj (ts _ _) (ts _ _)).mono (by lia)⟩ ?_;refine fH (V:=V) rfl (d:=.str (zq x none (some A)++z++zq x (some (A+1)) none)) (by simp[KG.Z,gs,aA,a0,a3]) ⟨_,rfl,(gj t0 (ts _ _)).mono (by lia)⟩ ?_;clear a0 a1 a2 a3;have b1:op2 .add (.lst ((ws.take i).map D.str)) (.lst ((ws.drop (i+1)).map D.str))=.ok (.lst ((ws.take i++ws.drop (i+1)).map D.str)):=fk (by lia);have j1:dS " " (.lst ((ws.take i++ws.drop (i+1)).map D.str))=.ok (.str (zw " " (ws.take i++ws.drop (i+1)))):=hU (by rw[s1];lia) (by rw[zT];lia);have x1:Tx (2 * n+2) (zw " " (ws.take i++ws.drop (i+1))):=iq s1 o1 (λv hv=>(List.mem_append.mp hv).elim (ok1 v) (ok3 v)) (by show tot _<=_;rw[zT];lia);refine fH (V:=V) rfl (d:=.str (zw " " (ws.take i++ws.drop (i+1)))) (by
  generalize zw " " (ws.take i++ws.drop (i+1))=J at *;generalize D.lst ((ws.take i++ws.drop (i+1)).map D.str)=L3 at *;generalize D.lst ((ws.take i).map D.str)=L1 at *;generalize D.lst ((ws.drop (i+1)).map D.str)=L2 at *;generalize D.lst (ws.map D.str)=L at *;simp[KG.Z,g1,g3,ai,b1,j1,evE.eq_37]) ⟨_,rfl,x1⟩ ?_
 clear b1 j1 x1;have b1:op2 .add (.lst ((ws.take i).map D.str)) (.lst ([ws[i]].map D.str))=.ok (.lst ((ws.take i++[ws[i]]).map D.str)):=fk (by simp;lia);have b2:op2 .add (.lst ((ws.take i++[ws[i]]).map D.str)) (.lst ((ws.drop i).map D.str))=.ok (.lst (((ws.take i++[ws[i]])++ws.drop i).map D.str)):=fk (by simp at *;lia);have hb:tot ((ws.take i++[ws[i]])++ws.drop i)<=2 * n+3:=by rw[zT,zT,gB,kE];lia
 have j1:dS " " (.lst (((ws.take i++[ws[i]])++ws.drop i).map D.str))=.ok (.str (zw " " ((ws.take i++[ws[i]])++ws.drop i))):=hU (by rw[s1];lia) (by lia);have x1:Tx (2 * n+2) (zw " " ((ws.take i++[ws[i]])++ws.drop i)):=iq s1 o1 (λv hv=>by
  rcases List.mem_append.mp hv with hv|hv
  ·rcases List.mem_append.mp hv with hv|hv
   ·exact ok1 v hv
   ·simp at hv;rw[hv];exact ok4
  ·exact ok2 v hv) (by show tot _<=_;lia)
 refine fH (V:=V) rfl (d:=.str (zw " " ((ws.take i++[ws[i]])++ws.drop i))) (by
  generalize zw " " ((ws.take i++[ws[i]])++ws.drop i)=J at *;generalize D.lst (((ws.take i++[ws[i]])++ws.drop i).map D.str)=L5 at *;generalize D.lst ((ws.take i++[ws[i]]).map D.str)=L3 at *;generalize D.lst ((ws.take i).map D.str)=L1 at *;generalize D.lst ([ws[i]].map D.str)=L6 at *;generalize D.lst ((ws.drop i).map D.str)=L2 at *;generalize D.lst (ws.map D.str)=L at *;simp[KG.Z,g1,g2,g4,ai,b1,b2,j1,evE.eq_37]) ⟨_,rfl,x1⟩ ?_
 clear b1 b2 hb j1 x1;have g5:slD (.lst (ws.map D.str)) none (some 1)=.ok (.lst ((ws.take 1).map D.str)):=by rw[slD,show (1:Int)=((1:Nat):Int)from rfl,rm ws (i:=1) (by lia)]
 have r5:gK (.lst (ws.map D.str))=.ok (.lst ((ws.drop 1).reverse.map D.str)):=by
  simp only[gK,cV];rw[kY,<-List.map_drop,<-List.map_reverse]
 have hT1:=take_drop ws 1;have b1:op2 .add (.lst ((ws.take 1).map D.str)) (.lst ((ws.drop 1).reverse.map D.str))=.ok (.lst ((ws.take 1++(ws.drop 1).reverse).map D.str)):=fk (by simp;lia);have hb:tot (ws.take 1++(ws.drop 1).reverse)<=2 * n+3:=by rw[zT,pZ];lia
 have j1:dS " " (.lst ((ws.take 1++(ws.drop 1).reverse).map D.str))=.ok (.str (zw " " (ws.take 1++(ws.drop 1).reverse))):=hU (by rw[s1];lia) (by lia);have x1:Tx (2 * n+2) (zw " " (ws.take 1++(ws.drop 1).reverse)):=iq s1 o1 (λv hv=>by
  rcases List.mem_append.mp hv with hv|hv
  ·exact hwo v (List.mem_of_mem_take hv)
  ·exact hwo v (List.mem_of_mem_drop (List.mem_reverse.mp hv))) (by show tot _<=_;lia)
 refine fH (V:=V) rfl (d:=.str (zw " " (ws.take 1++(ws.drop 1).reverse))) (by
  generalize zw " " (ws.take 1++(ws.drop 1).reverse)=J at *;generalize D.lst ((ws.take 1++(ws.drop 1).reverse).map D.str)=L3 at *;generalize D.lst ((ws.take 1).map D.str)=L1 at *;generalize D.lst ((ws.drop 1).reverse.map D.str)=L2 at *;generalize D.lst (ws.map D.str)=L at *;simp[KG.Z,g5,r5,b1,j1,evE.eq_37,evE.eq_40]) ⟨_,rfl,x1⟩ ?_
 clear b1 hb j1 x1 r5 g5 hT1;have hrl:=pK ws[i];have i6:ixD (.lst (ws.map D.str)) (.int i)=.ok (.str ws[i]):=by
  simp only[ixD];rw[fB (xs:=ws.map D.str) (i:=i) (by simpa using hil)];simp
 have r6:∀w:W,∀a:E,∀τ:Env,evE w a τ=.ok (.str ws[i])->evE w (.rev a) τ=.ok (.str (zx ws[i])):=λw a τ ha=>by
  rw[evE.eq_35,ha];simp only[R.bind_ok];rw[if_pos (by simp[SZ];lia)]
 have b1:op2 .add (.lst ((ws.take i).map D.str)) (.lst ([zx ws[i]].map D.str))=.ok (.lst ((ws.take i++[zx ws[i]]).map D.str)):=fk (by simp;lia);have b2:op2 .add (.lst ((ws.take i++[zx ws[i]]).map D.str)) (.lst ((ws.drop (i+1)).map D.str))=.ok (.lst (((ws.take i++[zx ws[i]])++ws.drop (i+1)).map D.str)):=fk (by simp at *;lia);have hb:tot ((ws.take i++[zx ws[i]])++ws.drop (i+1))<=2 * n+3:=by rw[zT,zT,gB,kE];lia
 have j1:dS " " (.lst (((ws.take i++[zx ws[i]])++ws.drop (i+1)).map D.str))=.ok (.str (zw " " ((ws.take i++[zx ws[i]])++ws.drop (i+1)))):=hU (by rw[s1];lia) (by lia);have x1:Tx (2 * n+2) (zw " " ((ws.take i++[zx ws[i]])++ws.drop (i+1))):=iq s1 o1 (λv hv=>by
  rcases List.mem_append.mp hv with hv|hv
  ·rcases List.mem_append.mp hv with hv|hv
   ·exact ok1 v hv
   ·simp at hv;rw[hv];exact(oz ⟨az _,ok4⟩).ok
  ·exact ok3 v hv) (by show tot _<=_;lia)
 refine fH (V:=V) rfl (d:=.str (zw " " ((ws.take i++[zx ws[i]])++ws.drop (i+1)))) (by
  have r6:=r6 (wAt p (k+1)) (.ix (.var 5) (.var 6)) [some (.str x),some (.int c),some (.int A),some (.str z),some (.int V),some (.lst (ws.map D.str)),some (.int i)] (by rw[evE.eq_18];exact i6);have l6:(D.lst ([zx ws[i]].map D.str))=.lst [.str (zx ws[i])]:=rfl;rw[l6]at b1;generalize zw " " ((ws.take i++[zx ws[i]])++ws.drop (i+1))=J at *;generalize D.lst (((ws.take i++[zx ws[i]])++ws.drop (i+1)).map D.str)=L5 at *;generalize D.lst ((ws.take i++[zx ws[i]]).map D.str)=L3 at *;generalize D.lst ((ws.take i).map D.str)=L1 at *;generalize zx ws[i]=RV at *;generalize D.lst ((ws.drop (i+1)).map D.str)=L2 at *;generalize D.lst (ws.map D.str)=L at *;simp[KG.Z,g1,g3,ai,r6,b1,b2,j1,evE.eq_37]) ⟨_,rfl,x1⟩ ?_
 clear b1 b2 hb j1 x1 r6 i6 hrl g1 g2 g3 g4;have sx:gH (.str x) (.str " ")=.ok (.str (x ++ " ")):=u7 (by rw[s1];lia);have xs:op2 .add (.str " ") (.str x)=.ok (.str ((" " : Str)++x)):=add_str (by rw[s1];lia);have m8:=fZ c 8 (by lia);obtain⟨d,hd,y,rfl,ty⟩:=pick (P:=λd=>∃y,d=D.str y/\Tx (2 * n+2) y) (l:=[D.str "",.str " ",.str "9",.str "0",.str "-",.str (x ++ " "),.str ((" " : Str)++x),.str "01"]) (by
  intro d hd;simp only[aG,bh,or_false]at hd;rcases hd with rfl|rfl|rfl|rfl|rfl|rfl|rfl|rfl
  ·exact⟨_,rfl,l8 ⟨by decide +kernel,by decide +kernel⟩⟩
  ·exact⟨_,rfl,l8 ⟨by decide +kernel,by decide +kernel⟩⟩
  ·exact⟨_,rfl,l8 ⟨by decide +kernel,by decide +kernel⟩⟩
  ·exact⟨_,rfl,l8 ⟨by decide +kernel,by decide +kernel⟩⟩
  ·exact⟨_,rfl,l8 ⟨by decide +kernel,by decide +kernel⟩⟩
  ·exact⟨_,rfl,(gj h ⟨az _,o1⟩).mono (by rw[s1];lia)⟩
  ·exact⟨_,rfl,(gj ⟨az _,o1⟩ h).mono (by rw[s1];lia)⟩
  ·exact⟨_,rfl,l8 ⟨by decide +kernel,by decide +kernel⟩⟩) (c%8) (by simp;lia)
 refine eh (d:=.str y) (by
  generalize x++(" " : Str)=X1 at *;generalize (" " : Str)++x=X2 at *;generalize c%8=C8 at *;simp[KG.Z,sx,xs,m8,hd,evE.eq_42]) ⟨y,rfl,ty⟩
end KT
namespace K92
open EV KG KT
open PySem (Str PyData.strOk)
open L2 (atI ixN ltP zq zx zJ qe zw pickL eS)
theorem TB:TxB p:=⟨by kernel_rfl,by kernel_rfl,by kernel_rfl,by kernel_rfl,by kernel_rfl,by kernel_rfl,by kernel_rfl⟩
theorem B:Web p:=⟨by kernel_rfl,by kernel_rfl,by kernel_rfl,by kernel_rfl,by kernel_rfl,by kernel_rfl,by kernel_rfl,by kernel_rfl⟩
theorem S:fD p:=⟨by kernel_rfl,by kernel_rfl⟩
theorem LW:Lw p:=⟨by kernel_rfl,by kernel_rfl,by kernel_rfl,by kernel_rfl⟩
theorem hSm:p.fns "_law_same" = some KG.zU:=by kernel_rfl
theorem hNW:p.fns "_law_no_web" = some KG.gU:=by kernel_rfl
theorem c1':(ah ",").length=1:=by decide +kernel
theorem o2':PyData.strOk (ah ",")=true:=by decide +kernel
theorem o3:PyData.strOk (ah "none")=true:=by decide +kernel
theorem nB(xs:List Int):(xs=sortI (uq xs))↔xs.Pairwise (· < ·):=by
 constructor
 ·intro e;rw[e];exact w9 (i9 xs)
 ·intro h;exact mS (oR (h.imp λz=>by lia) λ_=>.rfl) (h.imp λz=>by lia)
theorem Bx{xs:List Int}(h:∀(i:Nat) (q:i+1<xs.length),xs[i]<xs[i+1]):xs.Pairwise (· < ·):=by
 rw[List.pairwise_iff_getElem];intro i j hi hj hij;obtain⟨d,rfl⟩:∃d,j=i+1+d:=⟨j-i-1,by lia⟩
 clear hij
 induction d with
 |zero=>exact h i hj
 |succ d ih=>exact Int.lt_trans (ih (by lia)) (h (i+1+d) hj)
theorem uC(xs:List Int):ints? (xs.map D.int)=some xs:=by
 induction xs with
 |nil=>rfl
 |cons a r ih=>rw[a7,ints?,ih];rfl
theorem yI(xs:List Int)(hz:xs.length<64):fQ false (.lst (xs.map D.int))=.ok (.lst ((sortI (uq xs)).map D.int)):=by
 simp only[fQ,seq?,zO];rw[if_pos (by simpa using hz),uC]
 rfl
theorem Cy(xs ys:List Int):qh .ne (.lst (xs.map D.int)) (.lst (ys.map D.int))=.ok (!decide (xs=ys)):=by
 have a:∀l:List Int,(D.lst (l.map D.int)).asks=true:=λl=>by simp[D.asks,D.plain,D.deep,jP,lz]
 rw[qh,a,a];simp only[Bool.and_self,if_true,D.eqv,lL]
theorem few{m:Int}:∀{s:List Int}{a:Int},s.Pairwise (· < ·)->(∀i∈s,a<=i/\i<m)->s.length<=(m-a).toNat
 | [],_,_,_=>by simp
 |x::s,a,h,ho=>by
  rw[List.pairwise_cons]at h;have:=ho x aK;have:=few (a:=x+1) h.2 λi hi=>⟨by have:=h.1 i hi;lia,(ho i (aJ _ hi)).2⟩
  rw[bU];lia
structure SIn(x:Str)(m:Int)(s:List Int):Prop where
 w:(qe x ",").map nm=s.map some
 lt:s.Pairwise (· < ·)
 hi:∀i∈s,i<m
theorem map_some{α:Type}:∀{a b:List α},a.map some=b.map some->a=b
 | [],[],_=>rfl
 | [],_::_,h=>by cases h
 |_::_,[],h=>by cases h
 |x::a,y::b,h=>by
  simp only[a7,List.cons.injEq,bJ]at h;rw[h.1,map_some h.2]
theorem SIn.one{x:Str}{m:Int}{s t:List Int}(h:SIn x m s)(h':SIn x m t):s=t:=map_some (h.w.symm.trans h'.w)
theorem SIn.pos{x:Str}{m:Int}{s:List Int}(h:SIn x m s){i:Int}(hi:i∈s):0<=i/\i<m:=by
 refine⟨?_,h.hi i hi⟩;have:some i∈(qe x ",").map nm:=by rw[h.w];exact List.mem_map_of_mem hi
 obtain⟨v,_,e⟩:=aQ.mp this;exact nW e
theorem SIn.gs{x:Str}{m:Int}{s:List Int}(hm:m<=8)(h:SIn x m s):GS m s:=by
 refine⟨h.lt,λi hi=>h.pos hi,?_⟩;have:=few (a:=0) h.lt λi hi=>h.pos hi
 lia
theorem Ai{x:Str}{i:Int}(h:nmP x=some i):nm x=some i:=by
 unfold nmP at h;split at h
 ·exact h
 ·cases h
theorem rW{x:Str}{i:Int}(h:nm x=some i)(hi:i<10):nmP x=some i:=by
 unfold nmP;rw[if_pos,h];by_cases q:x.length<=31
 ·exact q
 ·have:=CD h (by lia);lia
theorem lq{α β:Type}(f:α->Option β):∀l:List α,(∃s:List β,l.map f=s.map some)\/∃v∈l,f v=none
 | []=>.inl ⟨[],rfl⟩
 |a::l=>by
  cases h:f a with
  |none=>exact .inr ⟨a,aK,h⟩
  |some b=>
   rcases lq f l with ⟨s,e⟩|⟨v,hv,e⟩
   ·exact .inl ⟨b::s,by rw[a7,h,e];rfl⟩
   ·exact .inr ⟨v,aJ _ hv,e⟩
theorem wa{k:Nat}{x:Str}(h:Tx 40 x){m:Int}(hm:1<=m/\m<=8)(t:D):(∃s,SIn x m s/\(qe x ",").map (λv=>oD (nmP v))=s.map D.int/\qa p (k+4) "is_some" [.tup [.int m,t],.tup ((qe x ",").map λv=>oD (nmP v))]=.ok (.bl true))\/((¬ ∃s,SIn x m s)/\qa p (k+4) "is_some" [.tup [.int m,t],.tup ((qe x ",").map λv=>oD (nmP v))]=.ok (.bl false)):=by
 have hl:=h.len;have hws:=kI x "," c1';have hlen:=gp (qe x ",");rcases lq nmP (qe x ",")with ⟨s,e⟩|⟨v,hv,e⟩
 ·have e':(qe x ",").map nm=s.map some:=by
   rw[<-e];refine List.map_congr_left λv hv=>?_
   have:nmP v∈s.map some:=by rw[<-e];exact List.mem_map_of_mem hv
   obtain⟨i,_,q⟩:=aQ.mp this;rw[<-q,Ai q.symm]
  have hd:(qe x ",").map (λv=>oD (nmP v))=s.map D.int:=by
   have:(qe x ",").map (λv=>oD (nmP v))=((qe x ",").map nmP).map oD:=by rw[bM];rfl
   rw[this,e,bM];rfl
  have hsl:s.length=(qe x ",").length:=by
   have:=congrArg List.length e;simpa using this.symm
  have pos:∀i∈s,0<=i:=λi hi=>by
   have:some i∈(qe x ",").map nm:=by rw[e'];exact List.mem_map_of_mem hi
   obtain⟨v,_,e⟩:=aQ.mp this;exact nW e
  by_cases q:(∀i∈s,i<m)/\s.Pairwise (· < ·)
  ·have W:SIn x m s:=⟨e',q.2,q.1⟩
   exact .inl ⟨s,W,hd,by rw[hd];exact is_some B S (W.gs hm.2)⟩
  ·refine .inr ⟨?_,?_⟩
   ·rintro⟨s',W⟩;have:s'=s:=map_some (W.w.symm.trans e');subst this;exact q ⟨W.hi,W.lt⟩
   ·refine nS B S (ys:=s.map λi=>(.int i,decide (0<=i/\i<=m-1))) (by rw[hd,bM];rfl) (by rw[hd];simp;lia) (λy hy=>?_) ?_
    ·obtain⟨i,_,rfl⟩:=aQ.mp hy;exact lP B S i m t
    ·by_cases q1:∀i∈s,i<m
     ·right;have:=ot B (k:=k+2) (s.map D.int) (by simp;lia) (λi=>decide (s.getD i 0<s.getD (i+1) 0)) λi q=>by
       have q1:i+1<s.length:=by simpa using q
       rw[du,du,lt_int,List.getD_eq_getElem?_getD,List.getD_eq_getElem?_getD,List.getElem?_eq_getElem (by lia),List.getElem?_eq_getElem q1]
       rfl
      rw[hd,this]
      congr 2
      rw[Bool.eq_false_iff];intro z;rw[b7]at z;refine q ⟨q1,Bx λi hi=>?_⟩;have:=z i (List.mem_range.mpr (by simp;lia));rw[List.getD_eq_getElem?_getD,List.getD_eq_getElem?_getD,List.getElem?_eq_getElem (by lia),List.getElem?_eq_getElem hi]at this
      simpa using this
     ·left;rw[List.all_map,List.all_eq_false];have ⟨i,hi,z⟩:∃i∈s,¬ i<m:=by
       false_or_by_contra
       rename_i z
       exact q1 λi hi=>by
        false_or_by_contra
        rename_i y
        exact z ⟨i,hi,y⟩
      refine⟨i,hi,?_⟩;simp only[Function.comp,decide_eq_true_eq];lia
 ·refine .inr ⟨?_,?_⟩
  ·rintro⟨s,W⟩;have:nm v∈s.map some:=by rw[<-W.w];exact List.mem_map_of_mem hv
   obtain⟨i,hi,q⟩:=aQ.mp this;have:=W.pos hi;rw[rW q.symm (by lia)]at e;cases e
  ·refine nS B S (ys:=(qe x ",").map λv=>(oD (nmP v),match nmP v with|some i=>decide (0<=i/\i<=m-1)|none=>false)) (by rw[bM];rfl) (by simp;lia) (λy hy=>?_) (.inl ?_)
   ·obtain⟨u,_,rfl⟩:=aQ.mp hy;cases z:nmP u with
    |none=>exact yF B S rfl m t
    |some i=>exact lP B S i m t
   ·rw[List.all_map,List.all_eq_false];exact⟨v,hv,by simp only[Function.comp,e];decide⟩
theorem iO{w:W}{f:Fn}{ds:List D}{c:Str}{τ:Env}(hl:ds.length=f.ps)(hτ:ds.map some++bF (f.N-f.ps) none=τ)(h:qf w f.body τ=.ex c):cf w f ds=.ex c:=by
 rw[cf,if_pos hl,hτ,h]
theorem vI{k:Nat}{d:D}(h:qa p (k+3) "is_web" [d]=.ok (.bl false)):qa p (k+4) "need_web" [d]=.ex "NoWeb":=by
 rw[qc B.need_web];refine iO (τ:=[some d]) rfl rfl ?_;simp[KG.Z,KG.gn,h]
theorem BL{k:Nat}{d x:D}(h:qa p (k+3) "is_web" [d]=.ok (.bl false)):qa p (k+5) "read_some" [d,x]=.ex "NoWeb":=by
 have e:=vI h;rw[qc gW];refine iO (τ:=[some d,some x,none]) rfl rfl ?_;simp[KG.Z,fE,e]
theorem DA{k:Nat}{m:Int}{ts:List (Int×Int)}(g:GW m ts){d:D}(h:∀w:W,zL w d (.ty "str")=.ok (.bl false)):qa p (k+5) "read_some" [wb m ts,d]=.ex "NoText":=by
 have e1:=need_web B (k:=k) g;rw[qc gW];refine iO (τ:=[some (wb m ts),some d,none]) rfl rfl ?_;generalize wb m ts=U at *;simp[KG.Z,fE,e1,h]
theorem mY{x:Str}(h:Tx 40 x):qh .eq (.str x) (.str "none")=.ok (decide (x = "none")):=by
 rw[eq_str h.ok o3]
 congr 1
 rw[Bool.eq_iff_iff,decide_eq_true_eq,decide_eq_true_eq,<-jc]
theorem tN{k:Nat}{m:Int}{ts:List (Int×Int)}(g:GW m ts){x:Str}(h:Tx 40 x):(x = "none"/\qa p (k+5) "read_some" [wb m ts,.str x]=.ok (tu []))\/(x≠"none"/\((∃s,SIn x m s/\qa p (k+5) "read_some" [wb m ts,.str x]=.ok (tu s))\/((¬ ∃s,SIn x m s)/\qa p (k+5) "read_some" [wb m ts,.str x]=.ex "NoText"))):=by
 have hl:=h.len;have e1:=need_web B (k:=k) g;have e0:=mY h;have isx:∀w:W,zL w (.str x) (.ty "str")=.ok (.bl true):=λ_=>rfl
 have n1:=numbers_in TB (k:=k+1) (x:=x) (y:=",") (h.mono (by lia)) c1';by_cases q:x = "none"
 ·rw[decide_eq_true q]at e0;refine .inl ⟨q,?_⟩;rw[qc gW];refine qL (τ:=[some (wb m ts),some (.str x),none]) rfl rfl ?_;generalize wb m ts=U at *;simp[KG.Z,fE,e1,isx,e0,kH]
 ·rw[decide_eq_false q]at e0;refine .inr ⟨q,?_⟩;have v:=wa (k:=k) h (m:=m) ⟨g.lo,g.hi⟩ (.tup (ts.map prD));have v':(∃s,SIn x m s/\(qe x ",").map (λv=>oD (nmP v))=s.map D.int/\qa p (k+4) "is_some" [wb m ts,.tup ((qe x ",").map λv=>oD (nmP v))]=.ok (.bl true))\/((¬ ∃s,SIn x m s)/\qa p (k+4) "is_some" [wb m ts,.tup ((qe x ",").map λv=>oD (nmP v))]=.ok (.bl false)):=v;clear v;have n1:qa p (k+4) "numbers_in" [.str x,.str ","]=.ok (.tup ((qe x ",").map λv=>oD (nmP v))):=n1;rcases v' with ⟨s,W,hd,v⟩|⟨W,v⟩
  ·refine .inl ⟨s,W,?_⟩;rw[show tu s=.tup ((qe x ",").map λv=>oD (nmP v))from by rw[hd]];rw[qc gW];refine qL (τ:=[some (wb m ts),some (.str x),none]) rfl rfl ?_;generalize wb m ts=U at *;generalize D.tup ((qe x ",").map λv=>oD (nmP v))=V at *;simp[KG.Z,fE,e1,isx,e0,kH,n1,v]
  ·refine .inr ⟨W,?_⟩;rw[qc gW];refine iO (τ:=[some (wb m ts),some (.str x),none]) rfl rfl ?_;generalize wb m ts=U at *;generalize D.tup ((qe x ",").map λv=>oD (nmP v))=V at *;simp[KG.Z,fE,e1,isx,e0,kH,n1,v]
abbrev NO(i:Int):D:=.tup [.str "no",.int i]
theorem Dw(o:Option Int):(oD o).asks=true:=by cases o<;>rfl
theorem BJ{w:W}{τ:Env}{l:List (Option Int)}(h:τ[2]? = some (some (.lst (l.map oD)))):evT w (.cmp .isin (.con .non) (.var 2)) τ=.ok (l.any (·.isNone)):=by
 rw[dH,qW,qZ,bP,h];show (if (D.non.asks&&(l.map oD).all D.asks)=true then R.ok (inD .non (l.map oD))else .no)=_;have ha:(l.map oD).all D.asks=true:=by rw[List.all_map,b7];intro o _;exact Dw o
 rw[ha,if_pos (show (D.non.asks&&true)=true from rfl)]
 congr 1
 clear h ha
 induction l with
 |nil=>rfl
 |cons o r ih=>
  rw[List.any_cons,<-ih,a7];cases o<;>simp[inD,oD,D.eqv]
abbrev T1:T:=.cmp .isin (.con .non) (.var 2)
abbrev T2:T:=.cmp .ne (.var 2) (.sset false (.var 2))
abbrev T3:T:=.cmp .ge (.ix (.var 2) (.neg (.con (.int 1)))) (.var 0)
theorem sQ{s:List Int}(hp:s.Pairwise (· < ·))(hn:s≠[])(m:Int):(∀i∈s,i<m)↔s.getLast hn<m:=by
 constructor
 ·intro h;exact h _ (List.getLast_mem hn)
 ·intro h i hi
  induction s with
  |nil=>cases hi
  |cons a r ih=>
   rw[List.pairwise_cons]at hp;cases r with
   |nil=>rw[List.mem_singleton.mp hi];simpa using h
   |cons b r=>
    rw[List.getLast_cons (by simp)]at h;rcases aG.mp hi with rfl|hi
    ·have:=hp.1 _ (List.getLast_mem (l:=b::r) (by simp));lia
    ·exact ih hp.2 (by simp) h hi
theorem As{k:Nat}{x:Str}(h:Tx 40 x)(m:Int):(x = "none"/\qa p (k+2) "_law_due" [.int m,.str x]=.ok (tu []))\/(x≠"none"/\((∃s,SIn x m s/\qa p (k+2) "_law_due" [.int m,.str x]=.ok (tu s))\/((¬ ∃s,SIn x m s)/\qa p (k+2) "_law_due" [.int m,.str x]=.ok (NO 9)))):=by
 have hl:=h.len;have hws:=kI x "," c1';have hlen:=gp (qe x ",");have hne:=iM x ",";have e0:=mY h;by_cases q:x = "none"
 ·rw[decide_eq_true q]at e0;refine .inl ⟨q,?_⟩;rw[qc rR];refine qL (τ:=[some (.int m),some (.str x),none]) rfl rfl ?_;simp[KG.Z,kJ,e0]
 ·rw[decide_eq_false q]at e0;refine .inr ⟨q,?_⟩;have hc:evE (wAt p (k+1)) (.comp (.seq (.spl (.var 1) (.con (.str ",")))) [none,none] (.nm 1) .yes (.call "_law_number_in" (.cons (.var 1) .nil))) [some (.int m),some (.str x),none]=.ok (.lst ((qe x ",").map λv=>oD (nm v))):=by
   refine eP (f:=D.str) (c:=[]) (λv=>oD (nm v)) (by rw[evI,jX (x:=x) (y:=",") rfl rfl c1' (by lia)];rfl) (by simp only[SZ];lia) rfl λv hv=>?_
   have e:=wd TB (k:=k) ((lr h hv c1').mono (show 40<=640 by lia));simp[KG.Z,e]
  have key:∀(b:Bool) (r:D),evT (wAt p (k+1)) (.or T1 (.or T2 T3)) [some (.int m),some (.str x),some (.lst ((qe x ",").map λv=>oD (nm v)))]=.ok b->r=(if b then NO 9 else .tup ((qe x ",").map λv=>oD (nm v)))->qa p (k+2) "_law_due" [.int m,.str x]=.ok r:=by
   intro b r hb hr;rw[qc rR];refine qL (τ:=[some (.int m),some (.str x),none]) rfl rfl ?_;refine zB (σ:=[some (.int m),some (.str x),none]) (by simp[KG.Z,e0]) ?_;refine zB (σ:=[some (.int m),some (.str x),some (.lst ((qe x ",").map λv=>oD (nm v)))]) (by rw[cg];rw[hc];rfl) ?_;subst hr;cases b with
   |true=>
    rw[qf,zS,hb];rfl
   |false=>
    refine zB (σ:=[some (.int m),some (.str x),some (.lst ((qe x ",").map λv=>oD (nm v)))]) (by rw[zS,hb];rfl) ?_;have b0:b1 .tuple [.lst ((qe x ",").map λv=>oD (nm v))]=.ok (.tup ((qe x ",").map λv=>oD (nm v))):=rfl;generalize D.lst ((qe x ",").map λv=>oD (nm v))=L at *;generalize D.tup ((qe x ",").map λv=>oD (nm v))=U at *;simp[KG.Z,b0]
  have t1:evT (wAt p (k+1)) T1 [some (.int m),some (.str x),some (.lst ((qe x ",").map λv=>oD (nm v)))]=.ok (((qe x ",").map nm).any (·.isNone)):=BJ (l:=(qe x ",").map nm) (by rw[bM];rfl);rcases lq nm (qe x ",")with ⟨s,e⟩|⟨v,hv,e⟩
  ·have hd:(qe x ",").map (λv=>oD (nm v))=s.map D.int:=by
    have:(qe x ",").map (λv=>oD (nm v))=((qe x ",").map nm).map oD:=by rw[bM];rfl
    rw[this,e,bM];rfl
   have hsl:s.length=(qe x ",").length:=by
    have:=congrArg List.length e;simpa using this.symm
   have hsn:s≠[]:=by
    intro z;rw[z]at hsl;exact hne (List.length_eq_zero_iff.mp hsl.symm)
   have ha:((qe x ",").map nm).any (·.isNone)=false:=by
    rw[e,List.any_map,List.any_eq_false];intro i _;simp
   rw[ha]at t1;rw[hd]at key t1;have t2:evT (wAt p (k+1)) T2 [some (.int m),some (.str x),some (.lst (s.map D.int))]=.ok (!decide (s=sortI (uq s))):=by
    rw[dH,qW,qE,qW];show (((fQ false (.lst (s.map D.int))).bind λy=>_))=_;rw[yI s (by lia)];exact Cy s _
   have t3:evT (wAt p (k+1)) T3 [some (.int m),some (.str x),some (.lst (s.map D.int))]=.ok (decide (m<=s.getLast hsn)):=by
    have i1:ixD (.lst (s.map D.int)) (.int (-1))=.ok (.int (s.getLast hsn)):=by
     have hp:0<s.length:=List.length_pos_iff.mpr hsn;have a:atI (s.map D.int) (-1)=some (.int (s.getLast hsn)):=by
      rw[atI,ixN,if_neg (by simp),if_pos (by simp;lia)];have:((-1:Int)+((s.map D.int).length:Nat)).toNat=s.length-1:=by simp;lia
      rw[this,List.getLast_eq_getElem];simp[show s.length-1<s.length by lia]
     simp only[ixD,a]
    rw[dH,qo,qW];show (((ixD (.lst (s.map D.int)) (.int (-1))).bind λy=>_))=_;rw[i1];rfl
   by_cases r:s.Pairwise (· < ·)
   ·rw[decide_eq_true ((nB s).mpr r)]at t2;have lle:=sQ r hsn m;have tt:evT (wAt p (k+1)) (.or T1 (.or T2 T3)) [some (.int m),some (.str x),some (.lst (s.map D.int))]=.ok (decide (m<=s.getLast hsn)):=by
     rw[cY,t1,R.bind_ok,if_neg (by decide),cY,t2,R.bind_ok,if_neg (by decide),t3]
    by_cases z:∀i∈s,i<m
    ·rw[decide_eq_false (by have:=lle.mp z;lia)]at tt;exact .inl ⟨s,⟨e,r,z⟩,key _ _ tt rfl⟩
    ·rw[decide_eq_true (by rw[lle]at z;lia)]at tt;refine .inr ⟨?_,key _ _ tt rfl⟩;rintro⟨s',W⟩;have:s'=s:=map_some (W.w.symm.trans e);subst this;exact z W.hi
   ·rw[decide_eq_false (λz=>r ((nB s).mp z))]at t2;have tt:evT (wAt p (k+1)) (.or T1 (.or T2 T3)) [some (.int m),some (.str x),some (.lst (s.map D.int))]=.ok true:=by
     rw[cY,t1,R.bind_ok,if_neg (by decide),cY,t2];rfl
    refine .inr ⟨?_,key _ _ tt rfl⟩;rintro⟨s',W⟩;have:s'=s:=map_some (W.w.symm.trans e);subst this;exact r W.lt
  ·have ha:((qe x ",").map nm).any (·.isNone)=true:=by
    rw[List.any_map,List.any_eq_true];exact⟨v,hv,by simp[e]⟩
   rw[ha]at t1;refine .inr ⟨?_,key true _ (by rw[cY,t1];rfl) rfl⟩;rintro⟨s,W⟩;have:nm v∈s.map some:=by rw[<-W.w];exact List.mem_map_of_mem hv
   obtain⟨i,hi,q⟩:=aQ.mp this;rw[<-q]at e;cases e
theorem kt:∀k:Nat,qa p (k+1) "_law_kinds" [.exn "NoText"]=.ok (.int 9):=λk=>by rw[qc m6];kernel_rfl
theorem kw:∀k:Nat,qa p (k+1) "_law_kinds" [.exn "NoWeb"]=.ok (.int 0):=λk=>by rw[qc m6];kernel_rfl
theorem ct:p.cat "NoText" "PlaceError" = true:=by kernel_rfl
theorem cw:p.cat "NoWeb" "PlaceError" = true:=by kernel_rfl
abbrev RS:E:=.call "read_some" (.cons (.var 0) (.cons (.var 1) .nil))
theorem lX{k:Nat}{a b d:D}(h:qa p k "read_some" [a,b]=.ok d):qa p (k+1) "_law_told" [a,b]=.ok d:=by
 rw[qc lY];refine qL (τ:=[some a,some b,none]) rfl rfl ?_;have e:qf (wAt p k) (.cons (.ret RS) .nil) [some a,some b,none]=.rt d:=by
  rw[qf,zC,ql];show (match R.out (qa p k "read_some" [a,b]) .rt with | .nx σ=>_|o=>o)=_;rw[h];rfl
 show qf (wAt p k) (.cons (.try (.cons (.ret RS) .nil) "PlaceError" (some 2) _) _) _=_;rw[qf,zP,e]
theorem ki{k:Nat}{a b:D}{X:Str}{r:Int}(hk:qa p k "_law_kinds" [.exn X]=.ok (.int r))(hc:p.cat X "PlaceError" = true)(h:qa p k "read_some" [a,b]=.ex X):qa p (k+1) "_law_told" [a,b]=.ok (NO r):=by
 rw[qc lY];refine qL (τ:=[some a,some b,none]) rfl rfl ?_;have e:qf (wAt p k) (.cons (.ret RS) .nil) [some a,some b,none]=.ex X:=by
  rw[qf,zC,ql];show (match R.out (qa p k "read_some" [a,b]) .rt with | .nx σ=>_|o=>o)=_;rw[h];rfl
 show qf (wAt p k) (.cons (.try (.cons (.ret RS) .nil) "PlaceError" (some 2) (.cons (.ret (.tup (.cons (.con (.str "no")) (.cons (.call "_law_kinds" (.cons (.var 2) .nil)) .nil)))) .nil)) .nil) _=_;rw[qf,zP,e];have hc':(wAt p k).cat X "PlaceError" = true:=hc;dsimp only;rw[if_pos hc'];have e2:evE (wAt p k) (.tup (.cons (.con (.str "no")) (.cons (.call "_law_kinds" (.cons (.var 2) .nil)) .nil))) (cz [some a,some b,none] (some 2) X)=.ok (NO r):=by
  have q:evE (wAt p k) (.call "_law_kinds" (.cons (.var 2) .nil)) (cz [some a,some b,none] (some 2) X)=.ok (.int r):=by
   have q:zt (wAt p k) (.cons (.var 2) .nil) (cz [some a,some b,none] (some 2) X)=.ok [.exn X]:=rfl;rw[ql,q];exact hk
  rw[qq];simp only[zt,qZ,q,R.bind_ok]
 have e3:qf (wAt p k) (.cons (.ret (.tup (.cons (.con (.str "no")) (.cons (.call "_law_kinds" (.cons (.var 2) .nil)) .nil)))) .nil) (cz [some a,some b,none] (some 2) X)=.rt (NO r):=by
  rw[qf,zC,e2];rfl
 rw[e3];rfl
theorem rk:PyData.strOk (ah "no")=true:=by decide +kernel
theorem BR{k:Nat}:qa p (k+2) "_law_same" [NO 9,NO 9]=.ok (.bl true):=by
 have s1:qa p (k+1) "_law_same" [.str "no",.str "no"]=.ok (.bl true):=by
  have h:PyData.strOk (ah "no")=true:=rk;have z:qh .is (.str "no") .non=.ok false:=rfl;have i1:∀w:W,zL w (.str "no") (.ty "bool")=.ok (.bl false):=λ_=>rfl
  have i2:∀w:W,zL w (.str "no") (.ty "int")=.ok (.bl false):=λ_=>rfl
  have i3:∀w:W,zL w (.str "no") (.ty "str")=.ok (.bl true):=λ_=>rfl
  have e:=eq_str h h;rw[decide_eq_true rfl]at e;rw[qc hSm];refine qL rfl rfl ?_;simp[KG.Z,KG.zU,z,i1,i2,i3,e]
 have s2:=same_int hSm (k:=k) 9;rw[qc hSm];have z:qh .is (NO 9) .non=.ok false:=rfl;have i1:∀w:W,zL w (NO 9) (.ty "bool")=.ok (.bl false):=λ_=>rfl
 have i2:∀w:W,zL w (NO 9) (.ty "int")=.ok (.bl false):=λ_=>rfl
 have i3:∀w:W,zL w (NO 9) (.ty "str")=.ok (.bl false):=λ_=>rfl
 have i4:∀w:W,zL w (NO 9) (.ty "list")=.ok (.bl false):=λ_=>rfl
 have i5:∀w:W,zL w (NO 9) (.ty "tuple")=.ok (.bl true):=λ_=>rfl
 have b1':qh .ne (.bl false) (.bl false)=.ok false:=rfl;have b2':qh .ne (.bl true) (.bl true)=.ok false:=rfl;have bl:b1 .len [NO 9]=.ok (.int 2):=rfl;have nl:qh .ne (.int 2) (.int 2)=.ok false:=rfl;refine qL (τ:=[some (NO 9),some (NO 9),none,none]) rfl rfl ?_;have zi:evI ⟨qa p (k+1),p.glb,p.sub,p.cat⟩ (.zip (.var 0) (.var 1)) [some (NO 9),some (NO 9),none,none]=.ok [.tup [.str "no",.str "no"],.tup [.int 9,.int 9]]:=rfl;show qf _ (.cons _ (.cons _ (.cons _ (.cons _ (.cons _ (.cons _ (.cons (.for _ _ _) (.cons _ .nil)))))))) _=_;refine zB (σ:=[some (NO 9),some (NO 9),none,none]) (by generalize NO 9=U at *;simp[KG.Z,z]) ?_;refine zB (σ:=[some (NO 9),some (NO 9),none,none]) (by generalize NO 9=U at *;simp[KG.Z,i1]) ?_;refine zB (σ:=[some (NO 9),some (NO 9),none,none]) (by generalize NO 9=U at *;simp[KG.Z,i2]) ?_;refine zB (σ:=[some (NO 9),some (NO 9),none,none]) (by generalize NO 9=U at *;simp[KG.Z,i3]) ?_;refine zB (σ:=[some (NO 9),some (NO 9),none,none]) (by generalize NO 9=U at *;simp[KG.Z,i4,i5,b1',b2']) ?_;refine zB (σ:=[some (NO 9),some (NO 9),none,none]) (by generalize NO 9=U at *;simp[KG.Z,bl,nl]) ?_;refine pF (ds:=[.tup [.str "no",.str "no"],.tup [.int 9,.int 9]]) (λr σ=>∃v u:Option D,σ=[some (NO 9),some (NO 9),v,u]/\(∀d∈r,d=.tup [.str "no",.str "no"]\/d=.tup [.int 9,.int 9])) zi ⟨none,none,rfl,by simp⟩ ?_ ?_
 ·rintro x t σ ⟨v,u,rfl,ht⟩;have hx:=ht x aK;rcases hx with rfl|rfl
  ·exact⟨[some (NO 9),some (NO 9),some (.str "no"),some (.str "no")],[some (NO 9),some (NO 9),some (.str "no"),some (.str "no")],rfl,by generalize NO 9=U at *;simp[KG.Z,s1],_,_,rfl,λd hd=>ht d (aJ _ hd)⟩
  ·exact⟨[some (NO 9),some (NO 9),some (.int 9),some (.int 9)],[some (NO 9),some (NO 9),some (.int 9),some (.int 9)],rfl,by generalize NO 9=U at *;simp[KG.Z,s2],_,_,rfl,λd hd=>ht d (aJ _ hd)⟩
 ·rintro σ ⟨v,u,rfl,ht⟩;generalize NO 9=U at *;simp[KG.Z]
theorem CC(i:Int):(NO i).asks=true:=by simp[D.asks,D.plain,D.deep,plainAll,eI,rk]
theorem oE(i:Int):qh .ne (NO i) (NO i)=.ok false:=by
 rw[qh,CC]
 ·simp[D.eqv,eqvAll]
 all_goals (intros;rintro⟨⟩)
theorem right{k:Nat}{m:Int}{ts:List (Int×Int)}(g:GW m ts){x:Str}(h:Tx 40 x):∃d,qa p (k+6) "_law_told" [wb m ts,.str x]=.ok d/\qa p (k+6) "_law_due" [.int m,.str x]=.ok d/\qa p (k+6) "_law_same" [d,d]=.ok (.bl true):=by
 have v:=As (k:=k+4) h m;rcases tN (k:=k) g h with ⟨q,r⟩|⟨q,⟨s,W,r⟩|⟨W,r⟩⟩
 ·rcases v with ⟨_,v⟩|⟨q',_⟩
  ·exact⟨_,lX r,v,same_ints hSm []⟩
  ·exact absurd q q'
 ·rcases v with ⟨q',_⟩|⟨_,⟨s',W',v⟩|⟨W',v⟩⟩
  ·exact absurd q' q
  ·rw[W'.one W]at v;exact⟨_,lX r,v,same_ints hSm s⟩
  ·exact absurd ⟨s,W⟩ W'
 ·rcases v with ⟨q',_⟩|⟨_,⟨s',W',v⟩|⟨W',v⟩⟩
  ·exact absurd q' q
  ·exact absurd ⟨s',W'⟩ W
  ·exact⟨_,ki (kt _) ct r,v,BR⟩
theorem wU:∀i:Fin 9,(dj (i.val:Int)).length=1/\PyData.strOk (dj (i.val:Int))=true:=by decide +kernel
theorem num{i:Int}(h:0<=i/\i<=8):(dj i).length=1/\PyData.strOk (dj i)=true:=by
 obtain⟨n,rfl⟩:∃n:Nat,i=n:=⟨i.toNat,by lia⟩
 exact wU ⟨n,by lia⟩
noncomputable def fj(s:List Int):List Str:=s.map λi=>dj i
noncomputable def dh(s:List Int):Str:=if s=[]then "none" else zw "," (fj s)
theorem kj{m:Int}(h2:m<=8):∀{s:List Int},(∀i∈s,0<=i/\i<m)->tot (fj s)=2 * s.length
 | [],_=>rfl
 |i::s,h=>by
  have a:=(num (i:=i) (by have:=h i aK;lia)).1;have b:=kj h2 (s:=s) λj hj=>h j (aJ _ hj)
  show tot (dj i::fj s)=_;rw[gB,a,b,bU];lia
theorem wm{m:Int}(h2:m<=8){s:List Int}(g:GS m s):Tx 15 (dh s):=by
 have hl:=g.len;rw[dh];split
 ·exact⟨by decide +kernel,o3⟩
 ·have:=kj h2 g.ok;refine iq c1' o2' (λx hx=>?_) ?_
  ·obtain⟨i,hi,rfl⟩:=aQ.mp hx;have:=g.ok i hi;exact(num (i:=i) (by lia)).2
  ·show tot (fj s)<=_;lia
theorem BI{i:Int}(h:0<=i/\i<=8):iz (.int i)=.ok (.str (dj i)):=by
 simp only[iz,iR];rw[if_pos (by simp[qY];lia)]
theorem BF{k:Nat}{m:Int}(h2:m<=8){s:List Int}(g:GS m s):qa p (k+1) "_law_some_text" [tu s]=.ok (.str (dh s)):=by
 rw[qc wx];refine qL (τ:=[some (tu s)]) rfl rfl ?_;have e1:qh .eq (tu s) (.tup [])=.ok (decide (s=[])):=v_ s [];have hc:evE (wAt p k) (.comp (.seq (.var 0)) [none,none] (.nm 1) .yes (.stri (.var 1))) [some (tu s)]=.ok (.lst (s.map λi=>D.str (dj i))):=by
  refine eP (f:=D.int) (c:=[]) (λi=>D.str (dj i)) (ke rfl) (by have:=g.len;simp[SZ];lia) rfl λi hi=>?_
  have:=g.ok i hi;rw[qC];exact BI (i:=i) (by lia)
 have hj:dS "," (.lst ((fj s).map D.str))=.ok (.str (zw "," (fj s))):=hU (by rw[c1'];lia) (by rw[kj h2 g.ok];have:=g.len;lia);rw[fj,bM]at hj;have hr:evE (wAt p k) (.joi "," (.comp (.seq (.var 0)) [none,none] (.nm 1) .yes (.stri (.var 1)))) [some (tu s)]=.ok (.str (zw "," (fj s))):=by
  rw[qt,hc];exact hj
 by_cases q:s=[]
 ·rw[decide_eq_true q]at e1;rw[dh,if_pos q];generalize tu s=U at *;simp[KG.Z,jW,e1]
 ·rw[decide_eq_false q]at e1;rw[dh,if_neg q];refine zB (σ:=[some (tu s)]) (by
   generalize tu s=U at *;simp[KG.Z,e1]) ?_
  show qf (wAt p k) (.cons (.ret (.joi _ _)) .nil) _=_;rw[qf,zC,hr];rfl
structure Hyp(F:Str->List D->R D):Prop where
 hr:∀m ts x,GW m ts->Tx 40 x->∃d,F "_law_told" [wb m ts,.str x]=.ok d/\F "_law_due" [.int m,.str x]=.ok d/\F "_law_same" [d,d]=.ok (.bl true)
 hto:∀m ts d,GW m ts->(∀w:W,zL w d (.ty "str")=.ok (.bl false))->F "_law_told" [wb m ts,d]=.ok (NO 9)
 hwb:∀m c:Int,1<=m->m<=8->∃ts,GW m ts/\F "_law_web_by" [.int m,.int c]=.ok (wb m ts)
 hst:∀c j:Int,F "_law_stir" [.int c,.int j]=.ok (.int (st c j))
 hsb:∀m c:Int,1<=m->m<=8->∃s,GS m s/\F "_law_some_by" [.int m,.int c]=.ok (tu s)
 hs1:∀m s,m<=8->GS m s->F "_law_some_text" [tu s]=.ok (.str (dh s))
 hbt:∀(x:Str) (c:Int),Tx 15 x->∃y,F "_law_bent" [.str x,.int c]=.ok (.str y)/\Tx 40 y
 hnw:∀m ts n,GW m ts->∃d,F "_law_no_web" [wb m ts,.int n]=.ok d/\∀x,F "_law_told" [d,x]=.ok (NO 0)
abbrev LS(a:D)(b c d e f g h:Option D):Env:=[some a,b,c,d,e,f,g,h]
noncomputable def ji:List Str:=["","none"," none","None","0","00","0,",",0","0,0","1,0","0, 1","-1","0 1","8","0,1,2"]
theorem rA:∀x∈ji,x.length<=40/\PyData.strOk x=true:=by decide +kernel
noncomputable def thg:List D:=[.non,.int 3,.tup [.int 0],.lst [.str "0"],.bl true,.dic,.tup []]
theorem CK:∀d∈thg,∀w:W,zL w d (.ty "str")=.ok (.bl false):=by
 intro d hd w;simp only[thg,aG,bh,or_false]at hd;rcases hd with rfl|rfl|rfl|rfl|rfl|rfl|rfl<;>rfl
noncomputable def ez:List Int:=[0,1,2,3,4,5,6,7]
theorem Ad{w:W}(ns:List Int)(hn:ns.length<=63)(H:Hyp w.call):Ends (λ_=>False) (λd=>d=.bl true) (qf w iD.body (LS (.lst (ns.map D.int)) none none none none none none none)):=by
 obtain⟨cs,hcs,hcl⟩:=A2 ns none (some 8);generalize hLL:D.lst (ns.map D.int)=LL at *;have hcut:slD LL none (some 8)=.ok (.lst (cs.map D.int)):=by rw[<-hLL,slD,hcs]
 refine jC (ds:=(cs++[0,3]).map D.int) (λr σ=>∃(ms:List Int) (v1 v2 v3 v4 v5 v6 v7:Option D),r=ms.map D.int/\σ=LS LL v1 v2 v3 v4 v5 v6 v7) ?_ ⟨_,none,none,none,none,none,none,none,rfl,rfl⟩ ?_ ?_
 ·have e:op2 .add (.lst (cs.map D.int)) (.lst [.int 0,.int 3])=.ok (.lst ((cs++[0,3]).map D.int)):=by
   rw[op2,if_pos ⟨rfl,by simp[SZ];lia⟩];simp
  dsimp only[LS];simp[KG.Z,hcut,e,seq?]
 ·rintro y t σ ⟨ms,v1,v2,v3,v4,v5,v6,v7,e,rfl⟩;obtain⟨c,ms,rfl,rfl,rfl⟩:=fx e;refine⟨LS LL (some (.int c)) v2 v3 v4 v5 v6 v7,rfl,?_⟩;have m1:1<=1+c/64%8:=by lia
  have m2:1+c/64%8<=8:=by lia
  refine cW (σ:=LS LL (some (.int c)) (some (.int (1+c/64%8))) v3 v4 v5 v6 v7) rfl ?_;generalize 1+c/64%8=m at *;obtain⟨ts,g,hw⟩:=H.hwb m (c/512) m1 m2;obtain⟨s,gs,hs⟩:=H.hsb m (st c 1) m1 m2;obtain⟨nw,hn1,hn2⟩:=H.hnw m ts (st c 2) g;have hst1:=H.hst c 1;have hst2:=H.hst c 2;refine cW (σ:=LS LL (some (.int c)) (some (.int m)) (some (wb m ts)) v4 v5 v6 v7) (by
   dsimp only[LS];have o:op2 .fdiv (.int c) (.int 512)=.ok (.int (c/512)):=rfl;generalize c/512=C at *;generalize wb m ts=U at *;simp[KG.Z,o,hw]) ?_
  refine cW (σ:=LS LL (some (.int c)) (some (.int m)) (some (wb m ts)) (some (.lst (ji.map D.str))) v5 v6 v7) rfl ?_;have hm:qY m=true:=by simp[qY];lia
  have hr:=λx (hx:Tx 40 x)=>H.hr m ts x g hx
  have hto:=λd hd=>H.hto m ts d g hd
  refine jC (ds:=[s,[],rng m].map tu) (λr σ=>∃(L:List (List Int)) (T:List Str) (v5:Option D),r=L.map tu/\(∀s∈L,GS m s)/\(∀x∈T,Tx 40 x)/\T.length+10 * L.length<=45/\σ=LS LL (some (.int c)) (some (.int m)) (some (wb m ts)) (some (.lst (T.map D.str))) v5 v6 v7) ?_ ⟨_,ji,v5,rfl,?_,λx hx=>⟨(rA x hx).1,(rA x hx).2⟩,(by show (15:Nat)+10 * 3<=45;decide),rfl⟩ ?_ ?_
  ·have hrg:D.tup (zA 0 m.toNat)=tu (rng m):=by rw[fm]
   show _=R.ok [tu s,.tup [],tu (rng m)];rw[<-hrg];dsimp only[LS];generalize wb m ts=U at *;generalize tu s=V at *;generalize st c 1=T1 at *;generalize D.lst (ji.map D.str)=TX at *;simp[KG.Z,hst1,hs,hm,seq?]
  ·intro x hx;simp only[aG,bh,or_false]at hx;rcases hx with rfl|rfl|rfl
   ·exact gs
   ·exact GS.none
   ·exact GS.all m1 m2
  ·rintro y t σ ⟨L,T,v5,e,hL,hT,hz,rfl⟩;obtain⟨x,L,rfl,rfl,rfl⟩:=fx e;have gx:=hL x aK;have a2:=H.hs1 m x m2 gx;have tx:=wm m2 gx;obtain⟨F,hF⟩:∃F:Int->Str,∀c,w.call "_law_bent" [.str (dh x),.int c]=.ok (.str (F c))/\Tx 40 (F c):=⟨λc=>(H.hbt (dh x) c tx).choose,λc=>(H.hbt (dh x) c tx).choose_spec⟩
   have tr:=oz (tx.mono (show 15<=40 by lia));have hrv:∀(a:E) (τ:Env),evE w a τ=.ok (.str (dh x))->evE w (.rev a) τ=.ok (.str (zx (dh x))):=λa τ ha=>by
    rw[qy,ha];simp only[R.bind_ok];rw[if_pos (by have:=pK (dh x);have:=tx.len;simp[SZ];lia)]
   generalize hZ:dh x=Z at *;rw[bU]at hz;refine⟨LS LL (some (.int c)) (some (.int m)) (some (wb m ts)) (some (.lst (T.map D.str))) (some (tu x)) v6 v7,rfl,?_⟩;have sz1:(T.map D.str).length<SZ:=by simp[SZ];lia
   refine cW (σ:=LS LL (some (.int c)) (some (.int m)) (some (wb m ts)) (some (.lst ((T++[Z]).map D.str))) (some (tu x)) v6 v7) (by
    rw[List.map_append];dsimp only[LS];generalize wb m ts=U at *;generalize tu x=V at *;generalize T.map D.str=TM at *;simp[KG.Z,a2,sz1]) ?_
   have hc:evE w (.comp (.rng (.con (.int 8))) [none,none,some 1,some 5] (.nm 1) .yes (.call "_law_bent" (.cons (.call "_law_some_text" (.cons (.var 3) .nil)) (.cons (.op .add (.var 2) (.op .mul (.con (.int 7919)) (.var 1))) .nil)))) (LS LL (some (.int c)) (some (.int m)) (some (wb m ts)) (some (.lst ((T++[Z]).map D.str))) (some (tu x)) v6 v7)=.ok (.lst ((ez.map λj=>F (c+7919 * j)).map D.str)):=by
    rw[bM];refine eP (f:=D.int) (c:=[some (.int c),some (tu x)]) (λj=>D.str (F (c+7919 * j))) rfl (by decide) rfl λj hj=>?_
    have ea:op2 .mul (.int 7919) (.int j)=.ok (.int (7919 * j)):=by
     show opI .mul 7919 j=_;rw[opI,if_pos (by rw[show small 7919=true from by decide];rfl)]
    have eb:op2 .add (.int c) (.int (7919 * j))=.ok (.int (c+7919 * j)):=rfl;have ec:=(hF (c+7919 * j)).1;generalize c+7919 * j=CJ at *;generalize 7919 * j=J at *;generalize tu x=V at *;simp[KG.Z,ea,eb,a2,ec]
   have hadd:op2 .add (.lst ((T++[Z]).map D.str)) (.lst ((ez.map λj=>F (c+7919 * j)).map D.str))=.ok (.lst ((T++[Z]++ez.map λj=>F (c+7919 * j)).map D.str)):=fk (by simp[ez];lia);refine cW (σ:=LS LL (some (.int c)) (some (.int m)) (some (wb m ts)) (some (.lst ((T++[Z]++ez.map λj=>F (c+7919 * j)).map D.str))) (some (tu x)) v6 v7) (by
    rw[cg,zd,hc,zb];have hg:bP (LS LL (some (.int c)) (some (.int m)) (some (wb m ts)) (some (.lst ((T++[Z]).map D.str))) (some (tu x)) v6 v7) 4=.ok (.lst ((T++[Z]).map D.str)):=rfl;rw[hg];simp only[R.bind_ok];rw[hadd];rfl) ?_
   have hT2:∀x∈T++[Z]++ez.map λj=>F (c+7919 * j),Tx 40 x:=by
    intro x hx;rcases List.mem_append.mp hx with hx|hx
    ·rcases List.mem_append.mp hx with hx|hx
     ·exact hT x hx
     ·rw[List.mem_singleton.mp hx];exact tx.mono (by lia)
    ·obtain⟨j,_,rfl⟩:=aQ.mp hx;exact(hF _).2
   have hl2:(T++[Z]++ez.map λj=>F (c+7919 * j)).length=T.length+9:=by simp[ez]
   generalize T++[Z]++ez.map (λj=>F (c+7919 * j))=T2 at *;clear hc hadd;have hz':T2.length+1+10 * L.length<=45:=by lia
   have sz2:(T2.map D.str).length<SZ:=by simp[SZ];lia
   refine cW (σ:=LS LL (some (.int c)) (some (.int m)) (some (wb m ts)) (some (.lst ((T2++[zx Z]).map D.str))) (some (tu x)) v6 v7) (by
    have ha:evE w (.call "_law_some_text" (.cons (.var 5) .nil)) (LS LL (some (.int c)) (some (.int m)) (some (wb m ts)) (some (.lst (T2.map D.str))) (some (tu x)) v6 v7)=.ok (.str Z):=by
     dsimp only[LS];generalize wb m ts=U at *;generalize tu x=V at *;generalize T2.map D.str=TM at *;simp[KG.Z,a2]
    have hv:=hrv _ _ ha;rw[List.map_append];dsimp only[LS]at hv ⊢;generalize wb m ts=U at *;generalize tu x=V at *;generalize T2.map D.str=TM at *;simp[KG.Z,hv,sz2]) ?_
   refine fz ⟨L,T2++[zx Z],_,rfl,λz hz=>hL z (aJ _ hz),λz hz=>?_,by simp;lia,rfl⟩;rcases List.mem_append.mp hz with hz|hz
   ·exact hT2 z hz
   ·rw[List.mem_singleton.mp hz];exact tr
  ·rintro σ ⟨L,T,v5,e,hL,hT,hz,rfl⟩;clear hw hs gs;refine jC (ds:=T.map D.str) (λr σ=>∃(R:List Str) (v6:Option D),r=R.map D.str/\(∀x∈R,Tx 40 x)/\σ=LS LL (some (.int c)) (some (.int m)) (some (wb m ts)) (some (.lst (T.map D.str))) v5 v6 v7) rfl ⟨T,v6,rfl,hT,rfl⟩ ?_ ?_
   ·rintro y t σ ⟨R,v6,e,hR,rfl⟩;obtain⟨x,R,rfl,rfl,rfl⟩:=fx e;obtain⟨d,e1,e2,e3⟩:=hr x (hR x aK);refine⟨LS LL (some (.int c)) (some (.int m)) (some (wb m ts)) (some (.lst (T.map D.str))) v5 (some (.str x)) v7,rfl,?_⟩;refine cW (σ:=LS LL (some (.int c)) (some (.int m)) (some (wb m ts)) (some (.lst (T.map D.str))) v5 (some (.str x)) v7) ?_ (fz ⟨R,_,rfl,λz hz=>hR z (aJ _ hz),rfl⟩);dsimp only[LS];generalize wb m ts=U at *;generalize D.lst (T.map D.str)=TM at *;simp[KG.Z,e1,e2,e3]
   ·rintro σ ⟨R,v6,e,hR,rfl⟩;generalize hTM:D.lst (T.map D.str)=TM at *;refine jC (ds:=thg) (λr σ=>∃v7:Option D,(∀d∈r,d∈thg)/\σ=LS LL (some (.int c)) (some (.int m)) (some (wb m ts)) (some TM) v5 v6 v7) rfl ⟨v7,λ_ z=>z,rfl⟩ ?_ ?_
    ·rintro y t σ ⟨v7,ht,rfl⟩;have e1:=hto y (CK y (ht y aK));have n0:=oE 9;refine⟨LS LL (some (.int c)) (some (.int m)) (some (wb m ts)) (some TM) v5 v6 (some y),rfl,?_⟩;refine cW (σ:=LS LL (some (.int c)) (some (.int m)) (some (wb m ts)) (some TM) v5 v6 (some y)) ?_ (fz ⟨_,λd hd=>ht d (aJ _ hd),rfl⟩);dsimp only[LS];generalize wb m ts=U at *;simp[KG.Z,e1,n0]
    ·rintro σ ⟨v7,ht,rfl⟩;obtain⟨z,hz1⟩:∃z,ixD (.lst [.non,.str "0",.str "x"]) (.int (c%3))=.ok z:=by
      obtain⟨d,hd,_⟩:=pick (P:=λ_=>True) (l:=[D.non,.str "0",.str "x"]) (λ_ _=>trivial) (c%3) (by simp;lia);exact⟨d,hd⟩
     have m3:=fZ c 3 (by lia);have hz2:=hn2 z;have n0:=oE 0;refine cW (σ:=LS LL (some (.int c)) (some (.int m)) (some (wb m ts)) (some TM) v5 v6 v7) ?_ (fz ⟨ms,_,_,_,_,_,_,_,rfl,rfl⟩);dsimp only[LS];generalize wb m ts=U at *;generalize c%3=C3 at *;generalize st c 2=T2 at *;simp[KG.Z,hst2,hn1,m3,hz1,hz2,n0]
 ·rintro σ ⟨ms,v1,v2,v3,v4,v5,v6,v7,e,rfl⟩;exact eh rfl rfl
theorem tG{F:Str->List D->R D}(ns:List Int)(hn:ns.length<=63)(H:Hyp F):cf ⟨F,p.glb,p.sub,p.cat⟩ iD [.lst (ns.map D.int)]=.ok (.bl true):=by
 obtain⟨d,e,rfl⟩:=Br (w:=⟨F,p.glb,p.sub,p.cat⟩) (f:=iD) (ds:=[.lst (ns.map D.int)]) rfl rfl (Ad (w:=⟨F,p.glb,p.sub,p.cat⟩) ns hn H);exact e
noncomputable def depth:Nat:=8
theorem CV:∀ns:List Int,ns.length<=63->qa p depth "law" [.lst (ns.map D.int)]=.ok (.bl true):=by
 intro ns hn;rw[show depth=7+1 from rfl,qc uG];refine tG ns hn ⟨λm ts x g h=>right (k:=1) g h,λm ts d g h=>ki (kt _) ct (DA (k:=1) g h),λm c h1 h2=>sI LW (k:=5) m c h1 h2,λc j=>eO LW._law_stir (k:=6) c j,λm c h1 h2=>wD LW (k:=5) m c h1 h2,λm s h2 gs=>BF (k:=6) h2 gs,λx c h=>?_,λm ts n g=>?_⟩
 ·obtain⟨y,e,ty⟩:=vW TB LW._law_stir (k:=5) (n:=15) (by lia) h c;exact⟨y,e,ty.mono (by lia)⟩
 ·obtain⟨d,d1,d2⟩:=uJ B hNW (k:=6) g n;exact⟨d,d1,λx=>ki (kw _) cw (BL (k:=1) (d2 1))⟩
end K92
namespace K92
open PySem PySem.Spec PyProof.Rows L2 EV
theorem o6:∀e∈tab,cFn G (fC us oth) e.own e.fr e.st=some e.fn:=by
 intro e he;simp only[tab,aG,bh,or_false]at he;rcases he with rfl|rfl|rfl|rfl|rfl|rfl|rfl|rfl|rfl|rfl|rfl|rfl|rfl|rfl|rfl|rfl|rfl|rfl|rfl|rfl|rfl|rfl|rfl|rfl|rfl|rfl<;>kernel_rfl
theorem sH:∀e∈us,e∈tab:=by
 intro e he;simp only[us,aG,bh,or_false]at he;rcases he with rfl
 ·simp[tab]
theorem sT:∀e∈us,gz (eE oth) e.own e.fr e.st=some e.fn:=by
 intro e he;simp only[us,aG,bh,or_false]at he;rcases he with rfl<;>kernel_rfl
theorem nd:(tab.map (·.x)).Nodup:=by decide +kernel
section
variable{K:av}{h:Heap}{mg:Str->Option ae}{f0:Addr}(d0:WB.Dd K "is_whole" (top 17) f0){f1:Addr}(d1:WB.Dd K "is_between" (top 18) f1){f2:Addr}(d2:WB.Dd K "is_pair" (top 19) f2){f3:Addr}(d3:WB.Dd K "rises" (top 20) f3){f4:Addr}(d4:WB.Dd K "is_web" (top 23) f4){f5:Addr}(d5:WB.Dd K "is_tie" (top 24) f5){f6:Addr}(d6:WB.Dd K "need_web" (top 25) f6){f7:Addr}(d7:WB.Dd K "is_place" (top 26) f7){f8:Addr}(d8:WB.Dd K "is_some" (top 28) f8){f9:Addr}(d9:WB.Dd K "read_some" (top 33) f9){f10:Addr}(d10:WB.Dd K "numbers_in" (top 34) f10){f11:Addr}(d11:WB.Dd K "number_in" (top 35) f11){f12:Addr}(d12:WB.Dd K "is_number" (top 36) f12){f13:Addr}(d13:WB.Dd K "_law_kinds" (top 38) f13){f14:Addr}(d14:WB.Dd K "_law_number_in" (top 39) f14){f15:Addr}(d15:WB.Dd K "_law_pairs" (top 40) f15){f16:Addr}(d16:WB.Dd K "_law_stir" (top 41) f16){f17:Addr}(d17:WB.Dd K "_law_web_by" (top 42) f17){f18:Addr}(d18:WB.Dd K "_law_some_by" (top 43) f18){f19:Addr}(d19:WB.Dd K "_law_some_text" (top 44) f19){f20:Addr}(d20:WB.Dd K "_law_bent" (top 45) f20){f21:Addr}(d21:WB.Dd K "_law_same" (top 46) f21){f22:Addr}(d22:WB.Dd K "_law_no_web" (top 47) f22){f23:Addr}(d23:WB.Dd K "_law_told" (top 48) f23){f24:Addr}(d24:WB.Dd K "_law_due" (top 49) f24){f25:Addr}(d25:WB.Dd K "law" (top 50) f25)
include d0 d1 d2 d3 d4 d5 d6 d7 d8 d9 d10 d11 d12 d13 d14 d15 d16 d17 d18 d19 d20 d21 d22 d23 d24 d25
theorem Az:∀e∈tab,gM K G e:=by
 intro e he;simp only[tab,aG,bh,or_false]at he;rcases he with rfl|rfl|rfl|rfl|rfl|rfl|rfl|rfl|rfl|rfl|rfl|rfl|rfl|rfl|rfl|rfl|rfl|rfl|rfl|rfl|rfl|rfl|rfl|rfl|rfl|rfl<;>refine⟨⟨_,by assumption⟩,λ_ _ _ _ _ _ us hl=>?_⟩<;>first|(obtain⟨_,rfl⟩:=WB.ko hl;rfl)|(obtain⟨_,_,rfl⟩:=WB.jN hl;rfl)|(obtain⟨_,_,_,rfl⟩:=WB.nA hl;rfl)
omit d0 d1 d2 d3 d4 d5 d6 d7 d8 d9 d10 d11 d12 d13 d14 d15 d16 d17 d18 d19 d20 d21 d22 d23 d24 d25
theorem kT{x:Str}{k:GK}(h:oth.lookup x=some k):∃y∈oth,x=y.1/\k=y.2:=by
 generalize oth=l at h ⊢
 induction l with
 |nil=>cases h
 |cons a r ih=>
  rw[ba]at h;split at h
  ·rename_i q;cases h;exact⟨a,aK,eq_of_beq q,rfl⟩
  ·obtain⟨y,h1,h2⟩:=ih h;exact⟨y,aJ _ h1,h2⟩
theorem BE{K:av}{C0:Addr}(k0:aq K ao "PlaceError" = some (some (.ref C0))){C1:Addr}(k1:aq K ao "NoWeb" = some (some (.ref C1)))(x1:PySem.W.excIn K C1 gy "ValueError.__new__" = true){C2:Addr}(k2:aq K ao "NoPlaces" = some (some (.ref C2))){C3:Addr}(k3:aq K ao "NoPlace" = some (some (.ref C3))){C4:Addr}(k4:aq K ao "NoNumber" = some (some (.ref C4))){C5:Addr}(k5:aq K ao "NotAll" = some (some (.ref C5))){C6:Addr}(k6:aq K ao "NotUntied" = some (some (.ref C6))){C7:Addr}(k7:aq K ao "NoShares" = some (some (.ref C7))){C8:Addr}(k8:aq K ao "NotTree" = some (some (.ref C8))){C9:Addr}(k9:aq K ao "NotTold" = some (some (.ref C9))){C10:Addr}(k10:aq K ao "NoCrowds" = some (some (.ref C10))){C11:Addr}(k11:aq K ao "NoText" = some (some (.ref C11)))(x11:PySem.W.excIn K C11 gy "ValueError.__new__" = true){C12:Addr}(k12:aq K ao "NoLine" = some (some (.ref C12))){C13:Addr}(k13:aq K ao "NoDeed" = some (some (.ref C13))){C14:Addr}(k14:aq K ao "TooGreat" = some (some (.ref C14))){tk0:Tok}(u0:aq K ao "MOST" = some (some (.int 8 tk0))){tk1:Tok}(u1:aq K ao "FIGURES" = some (some (.str (ah "0123456789") tk1))){tk2:Tok}(u2:aq K ao "MOST_FIGURES" = some (some (.int 31 tk2))){tk3:Tok}(u3:aq K ao "NONE" = some (some (.str (ah "none") tk3)))(z0:aq K ao "len" = some none)(z1:aq K ao "tuple" = some none)(z2:aq K ao "list" = some none)(z3:aq K ao "int" = some none)(z4:aq K ao "bool" = some none)(z5:aq K ao "str" = some none)(z6:aq K ao "set" = some none)(z7:aq K ao "sorted" = some none)(z8:aq K ao "all" = some none)(z9:aq K ao "range" = some none)(z10:aq K ao "enumerate" = some none)(z11:aq K ao "zip" = some none)(z12:aq K ao "isinstance" = some none)(z13:aq K ao "ValueError" = some none):∀x k,oth.lookup x=some k->nG K vals x k:=by
 intro x k h;obtain⟨y,h1,rfl,rfl⟩:=kT h;simp only[oth,aG,bh,or_false]at h1;rcases h1 with rfl|rfl|rfl|rfl|rfl|rfl|rfl|rfl|rfl|rfl|rfl|rfl|rfl|rfl|rfl|rfl|rfl|rfl|rfl|rfl|rfl|rfl|rfl|rfl|rfl|rfl|rfl|rfl|rfl|rfl|rfl|rfl|rfl
 ·exact⟨_,k0⟩
 ·exact⟨_,k1,x1⟩
 ·exact⟨_,k2⟩
 ·exact⟨_,k3⟩
 ·exact⟨_,k4⟩
 ·exact⟨_,k5⟩
 ·exact⟨_,k6⟩
 ·exact⟨_,k7⟩
 ·exact⟨_,k8⟩
 ·exact⟨_,k9⟩
 ·exact⟨_,k10⟩
 ·exact⟨_,k11,x11⟩
 ·exact⟨_,k12⟩
 ·exact⟨_,k13⟩
 ·exact⟨_,k14⟩
 ·exact⟨_,.int 8,.int 8,u0,⟨_,rfl⟩,rfl,λg H _=>.int _⟩
 ·exact⟨_,.str (ah "0123456789"),.str (ah "0123456789"),u1,⟨_,rfl⟩,rfl,λg H _=>.str _⟩
 ·exact⟨_,.int 31,.int 31,u2,⟨_,rfl⟩,rfl,λg H _=>.int _⟩
 ·exact⟨_,.str (ah "none"),.str (ah "none"),u3,⟨_,rfl⟩,rfl,λg H _=>.str _⟩
 ·exact⟨z0,rfl,_,rfl⟩
 ·exact⟨z1,by decide +kernel,by simp,by simp[b1N,b1V]⟩
 ·exact⟨z2,by decide +kernel,by simp,by simp[b1N,b1V]⟩
 ·exact⟨z3,by decide +kernel,by simp,by simp[b1N,b1V]⟩
 ·exact⟨z4,by decide +kernel,by simp,by simp[b1N,b1V]⟩
 ·exact⟨z5,by decide +kernel,by simp,by simp⟩
 ·exact⟨z6,by decide +kernel⟩
 ·exact⟨z7,rfl,_,rfl⟩
 ·exact⟨z8,rfl,_,rfl⟩
 ·exact⟨z9,rfl⟩
 ·exact⟨z10,rfl⟩
 ·exact⟨z11,rfl⟩
 ·exact⟨z12,rfl⟩
 ·exact⟨z13,by decide +kernel,by simp,by simp⟩
theorem xn:∀x fr,oth.lookup x≠some (.fn fr):=by
 intro x fr h;obtain⟨y,h1,rfl,h2⟩:=kT h;simp only[oth,aG,bh,or_false]at h1;rcases h1 with rfl|rfl|rfl|rfl|rfl|rfl|rfl|rfl|rfl|rfl|rfl|rfl|rfl|rfl|rfl|rfl|rfl|rfl|rfl|rfl|rfl|rfl|rfl|rfl|rfl|rfl|rfl|rfl|rfl|rfl|rfl|rfl|rfl<;>cases h2
theorem DQ:∀x,(oth.lookup x=some .exc\/oth.lookup x=some .exk)->([ah "PlaceError",ah "NoWeb",ah "NoPlaces",ah "NoPlace",ah "NoNumber",ah "NotAll",ah "NotUntied",ah "NoShares",ah "NotTree",ah "NotTold",ah "NoCrowds",ah "NoText",ah "NoLine",ah "NoDeed",ah "TooGreat"]:List Str).contains x=true:=by
 intro x h;rcases h with h|h<;>obtain⟨y,h1,rfl,h2⟩:=kT h<;>simp only[oth,aG,bh,or_false]at h1<;>rcases h1 with rfl|rfl|rfl|rfl|rfl|rfl|rfl|rfl|rfl|rfl|rfl|rfl|rfl|rfl|rfl|rfl|rfl|rfl|rfl|rfl|rfl|rfl|rfl|rfl|rfl|rfl|rfl|rfl|rfl|rfl|rfl|rfl|rfl<;>first|(cases h2;done)|decide +kernel
theorem CO{K:av}{C0:Addr}(k0:aq K ao "PlaceError" = some (some (.ref C0))){C1:Addr}(k1:aq K ao "NoWeb" = some (some (.ref C1))){C2:Addr}(k2:aq K ao "NoPlaces" = some (some (.ref C2))){C3:Addr}(k3:aq K ao "NoPlace" = some (some (.ref C3))){C4:Addr}(k4:aq K ao "NoNumber" = some (some (.ref C4))){C5:Addr}(k5:aq K ao "NotAll" = some (some (.ref C5))){C6:Addr}(k6:aq K ao "NotUntied" = some (some (.ref C6))){C7:Addr}(k7:aq K ao "NoShares" = some (some (.ref C7))){C8:Addr}(k8:aq K ao "NotTree" = some (some (.ref C8))){C9:Addr}(k9:aq K ao "NotTold" = some (some (.ref C9))){C10:Addr}(k10:aq K ao "NoCrowds" = some (some (.ref C10))){C11:Addr}(k11:aq K ao "NoText" = some (some (.ref C11))){C12:Addr}(k12:aq K ao "NoLine" = some (some (.ref C12))){C13:Addr}(k13:aq K ao "NoDeed" = some (some (.ref C13))){C14:Addr}(k14:aq K ao "TooGreat" = some (some (.ref C14)))(w0:bG K (.ref C11) (.ref C0)=some true)(w1:bG K (.ref C1) (.ref C0)=some true):∀y∈cq,∃C D,aq K ao y.1=some (some (.ref C))/\aq K ao y.2=some (some (.ref D))/\bG K (.ref C) (.ref D)=some true:=by
 intro y h1;simp only[cq,aG,bh,or_false]at h1;rcases h1 with rfl|rfl
 ·exact⟨_,_,k11,k0,w0⟩
 ·exact⟨_,_,k1,k0,w1⟩
theorem Ab{K:av}{C0:Addr}(k0:aq K ao "PlaceError" = some (some (.ref C0))){C1:Addr}(k1:aq K ao "NoWeb" = some (some (.ref C1))){C2:Addr}(k2:aq K ao "NoPlaces" = some (some (.ref C2))){C3:Addr}(k3:aq K ao "NoPlace" = some (some (.ref C3))){C4:Addr}(k4:aq K ao "NoNumber" = some (some (.ref C4))){C5:Addr}(k5:aq K ao "NotAll" = some (some (.ref C5))){C6:Addr}(k6:aq K ao "NotUntied" = some (some (.ref C6))){C7:Addr}(k7:aq K ao "NoShares" = some (some (.ref C7))){C8:Addr}(k8:aq K ao "NotTree" = some (some (.ref C8))){C9:Addr}(k9:aq K ao "NotTold" = some (some (.ref C9))){C10:Addr}(k10:aq K ao "NoCrowds" = some (some (.ref C10))){C11:Addr}(k11:aq K ao "NoText" = some (some (.ref C11))){C12:Addr}(k12:aq K ao "NoLine" = some (some (.ref C12))){C13:Addr}(k13:aq K ao "NoDeed" = some (some (.ref C13))){C14:Addr}(k14:aq K ao "TooGreat" = some (some (.ref C14)))(y0:zQ K C11)(v0:aB K (.ref C11) (.type "ValueError")=some true)(y1:zQ K C1)(v1:aB K (.ref C1) (.type "ValueError")=some true)(t0:WB.Dk K "NoWeb" C1)(t1:WB.Dk K "NoPlaces" C2)(t2:WB.Dk K "NoPlace" C3)(t3:WB.Dk K "NoNumber" C4)(t4:WB.Dk K "NotUntied" C6)(t5:WB.Dk K "NoShares" C7)(t6:WB.Dk K "NotTree" C8)(t7:WB.Dk K "NotTold" C9)(t8:WB.Dk K "NoCrowds" C10)(t9:WB.Dk K "NoText" C11)(t10:WB.Dk K "NoLine" C12)(t11:WB.Dk K "NoDeed" C13)(t12:WB.Dk K "NotAll" C5)(t13:WB.Dk K "TooGreat" C14)(q0_0:aB K (.ref C11) (.ref C1)=some false)(n0_0:C11≠C1)(q0_1:aB K (.ref C11) (.ref C2)=some false)(n0_1:C11≠C2)(q0_2:aB K (.ref C11) (.ref C3)=some false)(n0_2:C11≠C3)(q0_3:aB K (.ref C11) (.ref C4)=some false)(n0_3:C11≠C4)(q0_4:aB K (.ref C11) (.ref C6)=some false)(n0_4:C11≠C6)(q0_5:aB K (.ref C11) (.ref C7)=some false)(n0_5:C11≠C7)(q0_6:aB K (.ref C11) (.ref C8)=some false)(n0_6:C11≠C8)(q0_7:aB K (.ref C11) (.ref C9)=some false)(n0_7:C11≠C9)(q0_8:aB K (.ref C11) (.ref C10)=some false)(n0_8:C11≠C10)(q0_10:aB K (.ref C11) (.ref C12)=some false)(n0_10:C11≠C12)(q0_11:aB K (.ref C11) (.ref C13)=some false)(n0_11:C11≠C13)(q0_12:aB K (.ref C11) (.ref C5)=some false)(n0_12:C11≠C5)(q0_13:aB K (.ref C11) (.ref C14)=some false)(n0_13:C11≠C14)(q1_1:aB K (.ref C1) (.ref C2)=some false)(n1_1:C1≠C2)(q1_2:aB K (.ref C1) (.ref C3)=some false)(n1_2:C1≠C3)(q1_3:aB K (.ref C1) (.ref C4)=some false)(n1_3:C1≠C4)(q1_4:aB K (.ref C1) (.ref C6)=some false)(n1_4:C1≠C6)(q1_5:aB K (.ref C1) (.ref C7)=some false)(n1_5:C1≠C7)(q1_6:aB K (.ref C1) (.ref C8)=some false)(n1_6:C1≠C8)(q1_7:aB K (.ref C1) (.ref C9)=some false)(n1_7:C1≠C9)(q1_8:aB K (.ref C1) (.ref C10)=some false)(n1_8:C1≠C10)(q1_9:aB K (.ref C1) (.ref C11)=some false)(n1_9:C1≠C11)(q1_10:aB K (.ref C1) (.ref C12)=some false)(n1_10:C1≠C12)(q1_11:aB K (.ref C1) (.ref C13)=some false)(n1_11:C1≠C13)(q1_12:aB K (.ref C1) (.ref C5)=some false)(n1_12:C1≠C5)(q1_13:aB K (.ref C1) (.ref C14)=some false)(n1_13:C1≠C14):∀y∈subs,rf K [ah "PlaceError",ah "NoWeb",ah "NoPlaces",ah "NoPlace",ah "NoNumber",ah "NotAll",ah "NotUntied",ah "NoShares",ah "NotTree",ah "NotTold",ah "NoCrowds",ah "NoText",ah "NoLine",ah "NoDeed",ah "TooGreat"] y:=by
 intro y h1;simp only[subs,aG,bh,or_false]at h1;rcases h1 with rfl|rfl|rfl|rfl|rfl|rfl|rfl|rfl|rfl|rfl|rfl|rfl|rfl|rfl|rfl|rfl|rfl|rfl|rfl|rfl|rfl|rfl|rfl|rfl|rfl|rfl|rfl|rfl|rfl|rfl
 ·exact⟨_,_,by decide +kernel,k11,y0,WB.pD v0,rfl,rfl⟩
 ·exact⟨_,_,by decide +kernel,k11,y0,t0.kit q0_0 n0_0,_,by decide +kernel,k1,rfl⟩
 ·exact⟨_,_,by decide +kernel,k11,y0,t1.kit q0_1 n0_1,_,by decide +kernel,k2,rfl⟩
 ·exact⟨_,_,by decide +kernel,k11,y0,t2.kit q0_2 n0_2,_,by decide +kernel,k3,rfl⟩
 ·exact⟨_,_,by decide +kernel,k11,y0,t3.kit q0_3 n0_3,_,by decide +kernel,k4,rfl⟩
 ·exact⟨_,_,by decide +kernel,k11,y0,t4.kit q0_4 n0_4,_,by decide +kernel,k6,rfl⟩
 ·exact⟨_,_,by decide +kernel,k11,y0,t5.kit q0_5 n0_5,_,by decide +kernel,k7,rfl⟩
 ·exact⟨_,_,by decide +kernel,k11,y0,t6.kit q0_6 n0_6,_,by decide +kernel,k8,rfl⟩
 ·exact⟨_,_,by decide +kernel,k11,y0,t7.kit q0_7 n0_7,_,by decide +kernel,k9,rfl⟩
 ·exact⟨_,_,by decide +kernel,k11,y0,t8.kit q0_8 n0_8,_,by decide +kernel,k10,rfl⟩
 ·exact⟨_,_,by decide +kernel,k11,y0,WB.pS,_,by decide +kernel,k11,rfl⟩
 ·exact⟨_,_,by decide +kernel,k11,y0,t10.kit q0_10 n0_10,_,by decide +kernel,k12,rfl⟩
 ·exact⟨_,_,by decide +kernel,k11,y0,t11.kit q0_11 n0_11,_,by decide +kernel,k13,rfl⟩
 ·exact⟨_,_,by decide +kernel,k11,y0,t12.kit q0_12 n0_12,_,by decide +kernel,k5,rfl⟩
 ·exact⟨_,_,by decide +kernel,k11,y0,t13.kit q0_13 n0_13,_,by decide +kernel,k14,rfl⟩
 ·exact⟨_,_,by decide +kernel,k1,y1,WB.pD v1,rfl,rfl⟩
 ·exact⟨_,_,by decide +kernel,k1,y1,WB.pS,_,by decide +kernel,k1,rfl⟩
 ·exact⟨_,_,by decide +kernel,k1,y1,t1.kit q1_1 n1_1,_,by decide +kernel,k2,rfl⟩
 ·exact⟨_,_,by decide +kernel,k1,y1,t2.kit q1_2 n1_2,_,by decide +kernel,k3,rfl⟩
 ·exact⟨_,_,by decide +kernel,k1,y1,t3.kit q1_3 n1_3,_,by decide +kernel,k4,rfl⟩
 ·exact⟨_,_,by decide +kernel,k1,y1,t4.kit q1_4 n1_4,_,by decide +kernel,k6,rfl⟩
 ·exact⟨_,_,by decide +kernel,k1,y1,t5.kit q1_5 n1_5,_,by decide +kernel,k7,rfl⟩
 ·exact⟨_,_,by decide +kernel,k1,y1,t6.kit q1_6 n1_6,_,by decide +kernel,k8,rfl⟩
 ·exact⟨_,_,by decide +kernel,k1,y1,t7.kit q1_7 n1_7,_,by decide +kernel,k9,rfl⟩
 ·exact⟨_,_,by decide +kernel,k1,y1,t8.kit q1_8 n1_8,_,by decide +kernel,k10,rfl⟩
 ·exact⟨_,_,by decide +kernel,k1,y1,t9.kit q1_9 n1_9,_,by decide +kernel,k11,rfl⟩
 ·exact⟨_,_,by decide +kernel,k1,y1,t10.kit q1_10 n1_10,_,by decide +kernel,k12,rfl⟩
 ·exact⟨_,_,by decide +kernel,k1,y1,t11.kit q1_11 n1_11,_,by decide +kernel,k13,rfl⟩
 ·exact⟨_,_,by decide +kernel,k1,y1,t12.kit q1_12 n1_12,_,by decide +kernel,k5,rfl⟩
 ·exact⟨_,_,by decide +kernel,k1,y1,t13.kit q1_13 n1_13,_,by decide +kernel,k14,rfl⟩
include d0 d1 d2 d3 d4 d5 d6 d7 d8 d9 d10 d11 d12 d13 d14 d15 d16 d17 d18 d19 d20 d21 d22 d23 d24 d25
theorem all_mk(X:K.In h)(N:h.Ns ao mg){C0:Addr}(k0:aq K ao "PlaceError" = some (some (.ref C0))){C1:Addr}(k1:aq K ao "NoWeb" = some (some (.ref C1)))(x1:PySem.W.excIn K C1 gy "ValueError.__new__" = true){C2:Addr}(k2:aq K ao "NoPlaces" = some (some (.ref C2))){C3:Addr}(k3:aq K ao "NoPlace" = some (some (.ref C3))){C4:Addr}(k4:aq K ao "NoNumber" = some (some (.ref C4))){C5:Addr}(k5:aq K ao "NotAll" = some (some (.ref C5))){C6:Addr}(k6:aq K ao "NotUntied" = some (some (.ref C6))){C7:Addr}(k7:aq K ao "NoShares" = some (some (.ref C7))){C8:Addr}(k8:aq K ao "NotTree" = some (some (.ref C8))){C9:Addr}(k9:aq K ao "NotTold" = some (some (.ref C9))){C10:Addr}(k10:aq K ao "NoCrowds" = some (some (.ref C10))){C11:Addr}(k11:aq K ao "NoText" = some (some (.ref C11)))(x11:PySem.W.excIn K C11 gy "ValueError.__new__" = true){C12:Addr}(k12:aq K ao "NoLine" = some (some (.ref C12))){C13:Addr}(k13:aq K ao "NoDeed" = some (some (.ref C13))){C14:Addr}(k14:aq K ao "TooGreat" = some (some (.ref C14))){tk0:Tok}(u0:aq K ao "MOST" = some (some (.int 8 tk0))){tk1:Tok}(u1:aq K ao "FIGURES" = some (some (.str (ah "0123456789") tk1))){tk2:Tok}(u2:aq K ao "MOST_FIGURES" = some (some (.int 31 tk2))){tk3:Tok}(u3:aq K ao "NONE" = some (some (.str (ah "none") tk3)))(z0:aq K ao "len" = some none)(z1:aq K ao "tuple" = some none)(z2:aq K ao "list" = some none)(z3:aq K ao "int" = some none)(z4:aq K ao "bool" = some none)(z5:aq K ao "str" = some none)(z6:aq K ao "set" = some none)(z7:aq K ao "sorted" = some none)(z8:aq K ao "all" = some none)(z9:aq K ao "range" = some none)(z10:aq K ao "enumerate" = some none)(z11:aq K ao "zip" = some none)(z12:aq K ao "isinstance" = some none)(z13:aq K ao "ValueError" = some none)(w0:bG K (.ref C11) (.ref C0)=some true)(w1:bG K (.ref C1) (.ref C0)=some true)(y0:zQ K C11)(v0:aB K (.ref C11) (.type "ValueError")=some true)(y1:zQ K C1)(v1:aB K (.ref C1) (.type "ValueError")=some true)(t0:WB.Dk K "NoWeb" C1)(t1:WB.Dk K "NoPlaces" C2)(t2:WB.Dk K "NoPlace" C3)(t3:WB.Dk K "NoNumber" C4)(t4:WB.Dk K "NotUntied" C6)(t5:WB.Dk K "NoShares" C7)(t6:WB.Dk K "NotTree" C8)(t7:WB.Dk K "NotTold" C9)(t8:WB.Dk K "NoCrowds" C10)(t9:WB.Dk K "NoText" C11)(t10:WB.Dk K "NoLine" C12)(t11:WB.Dk K "NoDeed" C13)(t12:WB.Dk K "NotAll" C5)(t13:WB.Dk K "TooGreat" C14)(q0_0:aB K (.ref C11) (.ref C1)=some false)(n0_0:C11≠C1)(q0_1:aB K (.ref C11) (.ref C2)=some false)(n0_1:C11≠C2)(q0_2:aB K (.ref C11) (.ref C3)=some false)(n0_2:C11≠C3)(q0_3:aB K (.ref C11) (.ref C4)=some false)(n0_3:C11≠C4)(q0_4:aB K (.ref C11) (.ref C6)=some false)(n0_4:C11≠C6)(q0_5:aB K (.ref C11) (.ref C7)=some false)(n0_5:C11≠C7)(q0_6:aB K (.ref C11) (.ref C8)=some false)(n0_6:C11≠C8)(q0_7:aB K (.ref C11) (.ref C9)=some false)(n0_7:C11≠C9)(q0_8:aB K (.ref C11) (.ref C10)=some false)(n0_8:C11≠C10)(q0_10:aB K (.ref C11) (.ref C12)=some false)(n0_10:C11≠C12)(q0_11:aB K (.ref C11) (.ref C13)=some false)(n0_11:C11≠C13)(q0_12:aB K (.ref C11) (.ref C5)=some false)(n0_12:C11≠C5)(q0_13:aB K (.ref C11) (.ref C14)=some false)(n0_13:C11≠C14)(q1_1:aB K (.ref C1) (.ref C2)=some false)(n1_1:C1≠C2)(q1_2:aB K (.ref C1) (.ref C3)=some false)(n1_2:C1≠C3)(q1_3:aB K (.ref C1) (.ref C4)=some false)(n1_3:C1≠C4)(q1_4:aB K (.ref C1) (.ref C6)=some false)(n1_4:C1≠C6)(q1_5:aB K (.ref C1) (.ref C7)=some false)(n1_5:C1≠C7)(q1_6:aB K (.ref C1) (.ref C8)=some false)(n1_6:C1≠C8)(q1_7:aB K (.ref C1) (.ref C9)=some false)(n1_7:C1≠C9)(q1_8:aB K (.ref C1) (.ref C10)=some false)(n1_8:C1≠C10)(q1_9:aB K (.ref C1) (.ref C11)=some false)(n1_9:C1≠C11)(q1_10:aB K (.ref C1) (.ref C12)=some false)(n1_10:C1≠C12)(q1_11:aB K (.ref C1) (.ref C13)=some false)(n1_11:C1≠C13)(q1_12:aB K (.ref C1) (.ref C5)=some false)(n1_12:C1≠C5)(q1_13:aB K (.ref C1) (.ref C14)=some false)(n1_13:C1≠C14):Ground p (gOf K (tab.map (·.x)) [ah "PlaceError",ah "NoWeb",ah "NoPlaces",ah "NoPlace",ah "NoNumber",ah "NotAll",ah "NotUntied",ah "NoShares",ah "NotTree",ah "NotTold",ah "NoCrowds",ah "NoText",ah "NoLine",ah "NoDeed",ah "TooGreat"]) G (fC us oth) (eE oth) mg/\gM K G fV:=
 have A:=Az d0 d1 d2 d3 d4 d5 d6 d7 d8 d9 d10 d11 d12 d13 d14 d15 d16 d17 d18 d19 d20 d21 d22 d23 d24 d25
 ⟨Ax X N rfl nd (BE k0 k1 x1 k2 k3 k4 k5 k6 k7 k8 k9 k10 k11 x11 k12 k13 k14 u0 u1 u2 u3 z0 z1 z2 z3 z4 z5 z6 z7 z8 z9 z10 z11 z12 z13) xn sH sT o6 A _ (CO k0 k1 k2 k3 k4 k5 k6 k7 k8 k9 k10 k11 k12 k13 k14 w0 w1) DQ (Ab k0 k1 k2 k3 k4 k5 k6 k7 k8 k9 k10 k11 k12 k13 k14 y0 v0 y1 v1 t0 t1 t2 t3 t4 t5 t6 t7 t8 t9 t10 t11 t12 t13 q0_0 n0_0 q0_1 n0_1 q0_2 n0_2 q0_3 n0_3 q0_4 n0_4 q0_5 n0_5 q0_6 n0_6 q0_7 n0_7 q0_8 n0_8 q0_10 n0_10 q0_11 n0_11 q0_12 n0_12 q0_13 n0_13 q1_1 n1_1 q1_2 n1_2 q1_3 n1_3 q1_4 n1_4 q1_5 n1_5 q1_6 n1_6 q1_7 n1_7 q1_8 n1_8 q1_9 n1_9 q1_10 n1_10 q1_11 n1_11 q1_12 n1_12 q1_13 n1_13),A fV (by simp[tab])⟩
end
theorem walk{l:PySem.W.OpenLaw}{q:ay}{loose:List Str}{XP:(Str->Option ae)->Heap->Prop}{YP:au->Heap->Prop}{d:DefRec}{K:Params->av}(hn:l.most=some 63)(hdf:d.params.defaults=[])(hd:d.name = "law")(hY:∀(w:au) (h:Heap),YP w h->(K w.params).In h)
  (hG:∀(w:au) (mg:Str->Option ae) (h:Heap),(K w.params).In h->h.Ns ao mg->Ground p (gOf (K w.params) (tab.map (·.x)) [ah "PlaceError",ah "NoWeb",ah "NoPlaces",ah "NoPlace",ah "NoNumber",ah "NotAll",ah "NotUntied",ah "NoShares",ah "NotTree",ah "NotTold",ah "NoCrowds",ah "NoText",ah "NoLine",ah "NoDeed",ah "TooGreat"]) G (fC us oth) (eE oth) mg/\gM (K w.params) G fV):PySem.W.WalkO q loose XP YP l.row.toRowW d [] (λf vs=>PySem.call f vs):=
 Du (e:=fV) (k:=depth) hn hdf hd ⟨rfl,by decide,by decide⟩ hY (by simp[tab]) nd rfl rfl (by kernel_rfl) hG (o6 fV (by simp[tab])) CV
end K92
end
open PySem PySem.W PyProof.Rows
namespace PySem.W.Fast
def tw10604168277064043810:Nat:=0
theorem te10604168277064043810:tw10604168277064043810=0:=rfl
def tw13277541484467211612:Nat:=0
theorem te13277541484467211612:tw13277541484467211612=0:=rfl
def tw16079512375208112891:Nat:=0
theorem te16079512375208112891:tw16079512375208112891=0:=rfl
def tw2800565321133800283:Nat:=0
theorem te2800565321133800283:tw2800565321133800283=0:=rfl
def tw8407522241220422308:Nat:=0
theorem te8407522241220422308:tw8407522241220422308=0:=rfl
def tw12883258836480894226:Nat:=0
theorem te12883258836480894226:tw12883258836480894226=0:=rfl
def tw14414192750792514281:Nat:=0
theorem te14414192750792514281:tw14414192750792514281=0:=rfl
def tw3172335494996208183:Nat:=0
theorem te3172335494996208183:tw3172335494996208183=0:=rfl
def tw2961502529501447704:Nat:=0
theorem te2961502529501447704:tw2961502529501447704=0:=rfl
def tw15222476790768593018:Nat:=0
theorem te15222476790768593018:tw15222476790768593018=0:=rfl
def tw18168054944582215206:Nat:=0
theorem te18168054944582215206:tw18168054944582215206=0:=rfl
def tw5638678954821373735:Nat:=0
theorem te5638678954821373735:tw5638678954821373735=0:=rfl
def tw2306917236780940075:Nat:=0
theorem te2306917236780940075:tw2306917236780940075=0:=rfl
def tw15737754033288753528:Nat:=0
theorem te15737754033288753528:tw15737754033288753528=0:=rfl
def tw10376394563720432273:Nat:=0
theorem te10376394563720432273:tw10376394563720432273=0:=rfl
def tw16350516118251210299:Nat:=0
theorem te16350516118251210299:tw16350516118251210299=0:=rfl
def tw3386571695820566156:Nat:=0
theorem te3386571695820566156:tw3386571695820566156=0:=rfl
def tw14554485231368857596:Nat:=0
theorem te14554485231368857596:tw14554485231368857596=0:=rfl
def tw11088425451363289322:Nat:=0
theorem te11088425451363289322:tw11088425451363289322=0:=rfl
def tw4898623726955864419:Nat:=0
theorem te4898623726955864419:tw4898623726955864419=0:=rfl
def tw14925320818493174360:Nat:=0
theorem te14925320818493174360:tw14925320818493174360=0:=rfl
def tw6577935848085839396:Nat:=0
theorem te6577935848085839396:tw6577935848085839396=0:=rfl
def tw16436562888239067010:Nat:=0
theorem te16436562888239067010:tw16436562888239067010=0:=rfl
def tw7738653335076387057:Nat:=0
theorem te7738653335076387057:tw7738653335076387057=0:=rfl
def tw16728113158151487057:Nat:=0
theorem te16728113158151487057:tw16728113158151487057=0:=rfl
def tw2399496126193834340:Nat:=0
theorem te2399496126193834340:tw2399496126193834340=0:=rfl
def tw779330204802960286:Nat:=0
theorem te779330204802960286:tw779330204802960286=0:=rfl
def tw5590564812572513122:Nat:=0
theorem te5590564812572513122:tw5590564812572513122=0:=rfl
def tw17125289341418074495:Nat:=0
theorem te17125289341418074495:tw17125289341418074495=0:=rfl
def tw16120358360707199658:Nat:=0
theorem te16120358360707199658:tw16120358360707199658=0:=rfl
def tw18175764920132657966:Nat:=0
theorem te18175764920132657966:tw18175764920132657966=0:=rfl
def tw1779923554850542825:Nat:=0
theorem te1779923554850542825:tw1779923554850542825=0:=rfl
def tw5190465236030022334:Nat:=0
theorem te5190465236030022334:tw5190465236030022334=0:=rfl
def tw14908817779574301761:Nat:=0
theorem te14908817779574301761:tw14908817779574301761=0:=rfl
def tw3603337870370360090:Nat:=0
theorem te3603337870370360090:tw3603337870370360090=0:=rfl
def tw11364738032596447332:Nat:=0
theorem te11364738032596447332:tw11364738032596447332=0:=rfl
def tw2538592154299695509:Nat:=0
theorem te2538592154299695509:tw2538592154299695509=0:=rfl
def tw10559617354456109770:Nat:=0
theorem te10559617354456109770:tw10559617354456109770=0:=rfl
def tw14922489598032387532:Nat:=0
theorem te14922489598032387532:tw14922489598032387532=0:=rfl
def tw7305811025058199580:Nat:=0
theorem te7305811025058199580:tw7305811025058199580=0:=rfl
def tw2622178016578988720:Nat:=0
theorem te2622178016578988720:tw2622178016578988720=0:=rfl
def tw3928423359507402793:Nat:=0
theorem te3928423359507402793:tw3928423359507402793=0:=rfl
def tw10932122378567592543:Nat:=0
theorem te10932122378567592543:tw10932122378567592543=0:=rfl
def tw14683838206504758746:Nat:=0
theorem te14683838206504758746:tw14683838206504758746=0:=rfl
def tw1181453675408485021:Nat:=0
theorem te1181453675408485021:tw1181453675408485021=0:=rfl
def tw8288912616737883816:Nat:=0
theorem te8288912616737883816:tw8288912616737883816=0:=rfl
def tw6571049167754983139:Nat:=0
theorem te6571049167754983139:tw6571049167754983139=0:=rfl
def tw12081903678984054087:Nat:=0
theorem te12081903678984054087:tw12081903678984054087=0:=rfl
def tw13544572003456884917:Nat:=0
theorem te13544572003456884917:tw13544572003456884917=0:=rfl
def tw4638637116060875172:Nat:=0
theorem te4638637116060875172:tw4638637116060875172=0:=rfl
def tw1273768582059393581:Nat:=0
theorem te1273768582059393581:tw1273768582059393581=0:=rfl
def tw7856184366934536490:Nat:=0
theorem te7856184366934536490:tw7856184366934536490=0:=rfl
def tw10995166773974498419:Nat:=0
theorem te10995166773974498419:tw10995166773974498419=0:=rfl
def tw16817263028099058584:Nat:=0
theorem te16817263028099058584:tw16817263028099058584=0:=rfl
def tw13956503472267649313:Nat:=0
theorem te13956503472267649313:tw13956503472267649313=0:=rfl
def tw5655705623770296489:Nat:=0
theorem te5655705623770296489:tw5655705623770296489=0:=rfl
def tw13700340948828290845:Nat:=0
theorem te13700340948828290845:tw13700340948828290845=0:=rfl
def tw7711974890653691724:Nat:=0
theorem te7711974890653691724:tw7711974890653691724=0:=rfl
def tw1576012690706711920:Nat:=0
theorem te1576012690706711920:tw1576012690706711920=0:=rfl
def tw3990228183443311032:Nat:=0
theorem te3990228183443311032:tw3990228183443311032=0:=rfl
def tw12221009577840579494:Nat:=0
theorem te12221009577840579494:tw12221009577840579494=0:=rfl
def tw5878685253833585719:Nat:=0
theorem te5878685253833585719:tw5878685253833585719=0:=rfl
def tw6095160295644106548:Nat:=0
theorem te6095160295644106548:tw6095160295644106548=0:=rfl
def tw1444150470628861632:Nat:=0
theorem te1444150470628861632:tw1444150470628861632=0:=rfl
def tw4933059499242144129:Nat:=0
theorem te4933059499242144129:tw4933059499242144129=0:=rfl
def tw15881424076682611335:Nat:=0
theorem te15881424076682611335:tw15881424076682611335=0:=rfl
def tw16668709900825925524:Nat:=0
theorem te16668709900825925524:tw16668709900825925524=0:=rfl
def tw7660478255481859479:Nat:=0
theorem te7660478255481859479:tw7660478255481859479=0:=rfl
def tw12608085008882404403:Nat:=0
theorem te12608085008882404403:tw12608085008882404403=0:=rfl
def tw10109067921845844298:Nat:=0
theorem te10109067921845844298:tw10109067921845844298=0:=rfl
def tw5759508948228193083:Nat:=0
theorem te5759508948228193083:tw5759508948228193083=0:=rfl
def tw1916096501606534963:Nat:=0
theorem te1916096501606534963:tw1916096501606534963=0:=rfl
def tw15031572662225167815:Nat:=0
theorem te15031572662225167815:tw15031572662225167815=0:=rfl
def tw7649065135809062439:Nat:=0
theorem te7649065135809062439:tw7649065135809062439=0:=rfl
def tw2317555751759367547:Nat:=0
theorem te2317555751759367547:tw2317555751759367547=0:=rfl
def tw7228778663559643469:Nat:=0
theorem te7228778663559643469:tw7228778663559643469=0:=rfl
def tw14845714314300727304:Nat:=0
theorem te14845714314300727304:tw14845714314300727304=0:=rfl
def tw13404720107089843308:Nat:=0
theorem te13404720107089843308:tw13404720107089843308=0:=rfl
def tw8664351351611405285:Nat:=0
theorem te8664351351611405285:tw8664351351611405285=0:=rfl
def tw1213923971461193373:Nat:=0
theorem te1213923971461193373:tw1213923971461193373=0:=rfl
def tw12466749536248418808:Nat:=0
theorem te12466749536248418808:tw12466749536248418808=0:=rfl
def tw10234990816974539551:Nat:=0
theorem te10234990816974539551:tw10234990816974539551=0:=rfl
def tw2903235060640930764:Nat:=0
theorem te2903235060640930764:tw2903235060640930764=0:=rfl
def tw10356662944272136061:Nat:=0
theorem te10356662944272136061:tw10356662944272136061=0:=rfl
def tw8124510975163766021:Nat:=0
theorem te8124510975163766021:tw8124510975163766021=0:=rfl
def tw11216285076481149839:Nat:=0
theorem te11216285076481149839:tw11216285076481149839=0:=rfl
def tw14987721201869422249:Nat:=0
theorem te14987721201869422249:tw14987721201869422249=0:=rfl
def tw6070087709624604988:Nat:=0
theorem te6070087709624604988:tw6070087709624604988=0:=rfl
def tw13746283145775381674:Nat:=0
theorem te13746283145775381674:tw13746283145775381674=0:=rfl
def tw3188429779873982713:Nat:=0
theorem te3188429779873982713:tw3188429779873982713=0:=rfl
def tw8629817013615001888:Nat:=0
theorem te8629817013615001888:tw8629817013615001888=0:=rfl
def tw18110018496092677914:Nat:=0
theorem te18110018496092677914:tw18110018496092677914=0:=rfl
def tw7820098370287475224:Nat:=0
theorem te7820098370287475224:tw7820098370287475224=0:=rfl
def tw10638202931327181085:Nat:=0
theorem te10638202931327181085:tw10638202931327181085=0:=rfl
def tw4326203341321321506:Nat:=0
theorem te4326203341321321506:tw4326203341321321506=0:=rfl
def tw4974141983032416869:Nat:=0
theorem te4974141983032416869:tw4974141983032416869=0:=rfl
def tw1401785014281915614:Nat:=0
theorem te1401785014281915614:tw1401785014281915614=0:=rfl
def tw13226217472274020324:Nat:=0
theorem te13226217472274020324:tw13226217472274020324=0:=rfl
def tw5301701159974339081:Nat:=0
theorem te5301701159974339081:tw5301701159974339081=0:=rfl
def tw9058218524084256290:Nat:=0
theorem te9058218524084256290:tw9058218524084256290=0:=rfl
def tw7158270603841948972:Nat:=0
theorem te7158270603841948972:tw7158270603841948972=0:=rfl
def tw8388974614969573996:Nat:=0
theorem te8388974614969573996:tw8388974614969573996=0:=rfl
def tw2438842737943891262:Nat:=0
theorem te2438842737943891262:tw2438842737943891262=0:=rfl
def tw9660832126177722398:Nat:=0
theorem te9660832126177722398:tw9660832126177722398=0:=rfl
def tw4975506494608589159:Nat:=0
theorem te4975506494608589159:tw4975506494608589159=0:=rfl
def tw18151229930620340411:Nat:=0
theorem te18151229930620340411:tw18151229930620340411=0:=rfl
def tw2194902900709101652:Nat:=0
theorem te2194902900709101652:tw2194902900709101652=0:=rfl
def tw16200186135831398124:Nat:=0
theorem te16200186135831398124:tw16200186135831398124=0:=rfl
def tw3513832590478830819:Nat:=0
theorem te3513832590478830819:tw3513832590478830819=0:=rfl
def tw15173142938052577385:Nat:=0
theorem te15173142938052577385:tw15173142938052577385=0:=rfl
def tw6249849473633131108:Nat:=0
theorem te6249849473633131108:tw6249849473633131108=0:=rfl
def tw16488877908468985894:Nat:=0
theorem te16488877908468985894:tw16488877908468985894=0:=rfl
def tw5156341582203265951:Nat:=0
theorem te5156341582203265951:tw5156341582203265951=0:=rfl
def tw17308247615833492130:Nat:=0
theorem te17308247615833492130:tw17308247615833492130=0:=rfl
def tw12077451616363197739:Nat:=0
theorem te12077451616363197739:tw12077451616363197739=0:=rfl
def tw8057187831041626687:Nat:=0
theorem te8057187831041626687:tw8057187831041626687=0:=rfl
def tw16431421468651930909:Nat:=0
theorem te16431421468651930909:tw16431421468651930909=0:=rfl
def tw3506364072957240875:Nat:=0
theorem te3506364072957240875:tw3506364072957240875=0:=rfl
def tw3173604067101502783:Nat:=0
theorem te3173604067101502783:tw3173604067101502783=0:=rfl
def tw2858455613118649129:Nat:=0
theorem te2858455613118649129:tw2858455613118649129=0:=rfl
def tw8085826647881100461:Nat:=0
theorem te8085826647881100461:tw8085826647881100461=0:=rfl
def tw17074995181800652740:Nat:=0
theorem te17074995181800652740:tw17074995181800652740=0:=rfl
def tw3748859178045232613:Nat:=0
theorem te3748859178045232613:tw3748859178045232613=0:=rfl
def tw13869878791730867902:Nat:=0
theorem te13869878791730867902:tw13869878791730867902=0:=rfl
def tw11968214736858445455:Nat:=0
theorem te11968214736858445455:tw11968214736858445455=0:=rfl
def tw14698857046863793091:Nat:=0
theorem te14698857046863793091:tw14698857046863793091=0:=rfl
def tw2147519692885543547:Nat:=0
theorem te2147519692885543547:tw2147519692885543547=0:=rfl
def tw17256433178645276895:Nat:=0
theorem te17256433178645276895:tw17256433178645276895=0:=rfl
def tw5345428977548334159:Nat:=0
theorem te5345428977548334159:tw5345428977548334159=0:=rfl
def tw4578403404845033026:Nat:=0
theorem te4578403404845033026:tw4578403404845033026=0:=rfl
def tw7341013499740699788:Nat:=0
theorem te7341013499740699788:tw7341013499740699788=0:=rfl
def tw6656493673578229657:Nat:=0
theorem te6656493673578229657:tw6656493673578229657=0:=rfl
def tw17235145570285045520:Nat:=0
theorem te17235145570285045520:tw17235145570285045520=0:=rfl
def tw4627877231915787227:Nat:=0
theorem te4627877231915787227:tw4627877231915787227=0:=rfl
def tw6198473136122934207:Nat:=0
theorem te6198473136122934207:tw6198473136122934207=0:=rfl
def tw7043650551875459326:Nat:=0
theorem te7043650551875459326:tw7043650551875459326=0:=rfl
def tw10661736618758222890:Nat:=0
theorem te10661736618758222890:tw10661736618758222890=0:=rfl
def tw13324448489135047118:Nat:=0
theorem te13324448489135047118:tw13324448489135047118=0:=rfl
def tw831012057274738755:Nat:=0
theorem te831012057274738755:tw831012057274738755=0:=rfl
def tw8851746129143090249:Nat:=0
theorem te8851746129143090249:tw8851746129143090249=0:=rfl
def tw4326017801790041041:Nat:=0
theorem te4326017801790041041:tw4326017801790041041=0:=rfl
def tw4250535082781938554:Nat:=0
theorem te4250535082781938554:tw4250535082781938554=0:=rfl
def tw7611473447498195978:Nat:=0
theorem te7611473447498195978:tw7611473447498195978=0:=rfl
def tw15378278015710385284:Nat:=0
theorem te15378278015710385284:tw15378278015710385284=0:=rfl
def tw5562894768669413747:Nat:=0
theorem te5562894768669413747:tw5562894768669413747=0:=rfl
def tw7761588418431734567:Nat:=0
theorem te7761588418431734567:tw7761588418431734567=0:=rfl
def tw1055454837276382688:Nat:=0
theorem te1055454837276382688:tw1055454837276382688=0:=rfl
def tw904421629720250302:Nat:=0
theorem te904421629720250302:tw904421629720250302=0:=rfl
def tw2831244114789937389:Nat:=0
theorem te2831244114789937389:tw2831244114789937389=0:=rfl
def tw7475433866111088360:Nat:=0
theorem te7475433866111088360:tw7475433866111088360=0:=rfl
def tw6151337507702676293:Nat:=0
theorem te6151337507702676293:tw6151337507702676293=0:=rfl
def tw14182238134794906986:Nat:=0
theorem te14182238134794906986:tw14182238134794906986=0:=rfl
def tw11969736839727392661:Nat:=0
theorem te11969736839727392661:tw11969736839727392661=0:=rfl
def tw5384701260602769585:Nat:=0
theorem te5384701260602769585:tw5384701260602769585=0:=rfl
def tw158372380118304638:Nat:=0
theorem te158372380118304638:tw158372380118304638=0:=rfl
def tw16821628218585036010:Nat:=0
theorem te16821628218585036010:tw16821628218585036010=0:=rfl
def tw2662370610705425558:Nat:=0
theorem te2662370610705425558:tw2662370610705425558=0:=rfl
def tw14579565958190984121:Nat:=0
theorem te14579565958190984121:tw14579565958190984121=0:=rfl
def tw2398717935578630793:Nat:=0
theorem te2398717935578630793:tw2398717935578630793=0:=rfl
def tw7819781778772497040:Nat:=0
theorem te7819781778772497040:tw7819781778772497040=0:=rfl
def tw3477948114231658479:Nat:=0
theorem te3477948114231658479:tw3477948114231658479=0:=rfl
def tw916024711665646545:Nat:=0
theorem te916024711665646545:tw916024711665646545=0:=rfl
def tw5060260746932612814:Nat:=0
theorem te5060260746932612814:tw5060260746932612814=0:=rfl
def tw3203430961351534211:Nat:=0
theorem te3203430961351534211:tw3203430961351534211=0:=rfl
def tw10358427112944156701:Nat:=0
theorem te10358427112944156701:tw10358427112944156701=0:=rfl
def tw950080811417690612:Nat:=0
theorem te950080811417690612:tw950080811417690612=0:=rfl
def tw3276358806898079243:Nat:=0
theorem te3276358806898079243:tw3276358806898079243=0:=rfl
def tw2812009503696554724:Nat:=0
theorem te2812009503696554724:tw2812009503696554724=0:=rfl
def tw4255991908076653548:Nat:=0
theorem te4255991908076653548:tw4255991908076653548=0:=rfl
def tw9239133599845661878:Nat:=0
theorem te9239133599845661878:tw9239133599845661878=0:=rfl
def tw7735910683320099219:Nat:=0
theorem te7735910683320099219:tw7735910683320099219=0:=rfl
def tw2061685206708085185:Nat:=0
theorem te2061685206708085185:tw2061685206708085185=0:=rfl
def tw3059480151028079898:Nat:=0
theorem te3059480151028079898:tw3059480151028079898=0:=rfl
def tw10238994463462458520:Nat:=0
theorem te10238994463462458520:tw10238994463462458520=0:=rfl
def tw18374448253285771123:Nat:=0
theorem te18374448253285771123:tw18374448253285771123=0:=rfl
def tw13523958596198807537:Nat:=0
theorem te13523958596198807537:tw13523958596198807537=0:=rfl
def tw5402473408737691579:Nat:=0
theorem te5402473408737691579:tw5402473408737691579=0:=rfl
def tw8529402370960893746:Nat:=0
theorem te8529402370960893746:tw8529402370960893746=0:=rfl
def tw3242921847565003994:Nat:=0
theorem te3242921847565003994:tw3242921847565003994=0:=rfl
def tw6614192950642833835:Nat:=0
theorem te6614192950642833835:tw6614192950642833835=0:=rfl
def tw3134478093998090254:Nat:=0
theorem te3134478093998090254:tw3134478093998090254=0:=rfl
def tw4755031961357396372:Nat:=0
theorem te4755031961357396372:tw4755031961357396372=0:=rfl
def tw7700269514373632170:Nat:=0
theorem te7700269514373632170:tw7700269514373632170=0:=rfl
def tw6147660990415406203:Nat:=0
theorem te6147660990415406203:tw6147660990415406203=0:=rfl
def tw8188887850074467173:Nat:=0
theorem te8188887850074467173:tw8188887850074467173=0:=rfl
def tw2944229465735436587:Nat:=0
theorem te2944229465735436587:tw2944229465735436587=0:=rfl
def tw1517121581604236708:Nat:=0
theorem te1517121581604236708:tw1517121581604236708=0:=rfl
def tw11635939335897925547:Nat:=0
theorem te11635939335897925547:tw11635939335897925547=0:=rfl
def tw11213419354257149603:Nat:=0
theorem te11213419354257149603:tw11213419354257149603=0:=rfl
def tw10993671551998915851:Nat:=0
theorem te10993671551998915851:tw10993671551998915851=0:=rfl
def tw6362092566847741859:Nat:=0
theorem te6362092566847741859:tw6362092566847741859=0:=rfl
def tw9977136867605941253:Nat:=0
theorem te9977136867605941253:tw9977136867605941253=0:=rfl
def tw13984254514758294276:Nat:=0
theorem te13984254514758294276:tw13984254514758294276=0:=rfl
def tw1213686399230020068:Nat:=0
theorem te1213686399230020068:tw1213686399230020068=0:=rfl
def tw5215495041581094415:Nat:=0
theorem te5215495041581094415:tw5215495041581094415=0:=rfl
def tw8229499634329335889:Nat:=0
theorem te8229499634329335889:tw8229499634329335889=0:=rfl
def tw889454397125298301:Nat:=0
theorem te889454397125298301:tw889454397125298301=0:=rfl
def tw11871735063570617634:Nat:=0
theorem te11871735063570617634:tw11871735063570617634=0:=rfl
def tw5752228867933418544:Nat:=0
theorem te5752228867933418544:tw5752228867933418544=0:=rfl
def tw5314684521857882115:Nat:=0
theorem te5314684521857882115:tw5314684521857882115=0:=rfl
def tw12658313321486843655:Nat:=0
theorem te12658313321486843655:tw12658313321486843655=0:=rfl
def tw4911922512716878738:Nat:=0
theorem te4911922512716878738:tw4911922512716878738=0:=rfl
def tw2574146911637838509:Nat:=0
theorem te2574146911637838509:tw2574146911637838509=0:=rfl
def tw17065037928456976466:Nat:=0
theorem te17065037928456976466:tw17065037928456976466=0:=rfl
def tw18153952090364130346:Nat:=0
theorem te18153952090364130346:tw18153952090364130346=0:=rfl
def tw8391932913819411619:Nat:=0
theorem te8391932913819411619:tw8391932913819411619=0:=rfl
def tw15906134016374765207:Nat:=0
theorem te15906134016374765207:tw15906134016374765207=0:=rfl
def tw16604227857587343370:Nat:=0
theorem te16604227857587343370:tw16604227857587343370=0:=rfl
def tw9715266723882842000:Nat:=0
theorem te9715266723882842000:tw9715266723882842000=0:=rfl
def tw17247669263516505403:Nat:=0
theorem te17247669263516505403:tw17247669263516505403=0:=rfl
def tw15114469399877787907:Nat:=0
theorem te15114469399877787907:tw15114469399877787907=0:=rfl
def tw7487544666531694914:Nat:=0
theorem te7487544666531694914:tw7487544666531694914=0:=rfl
end PySem.W.Fast
set_option maxRecDepth 100000 in
set_option maxHeartbeats 0 in
theorem PySem.Challenge.cw_holdplaces_k92_places_read_holds : PySem.Challenge.rw_holdplaces_k92_places_read.Holds := by
 w_on;o_law;k_head;(case hw=>w_witness2)
 k_fill
 refine K92.walk (l:=PySem.Challenge.rw_holdplaces_k92_places_read) rfl rfl rfl (λw h Y=>PySem.W.kIn_of Y) ?F
 case F=>
  intro w mg h KX N
  refine' K92.all_mk (WB.zy ?_ ?_ ?_ ?_) (WB.zy ?_ ?_ ?_ ?_) (WB.zy ?_ ?_ ?_ ?_) (WB.zy ?_ ?_ ?_ ?_) (WB.zy ?_ ?_ ?_ ?_) (WB.zy ?_ ?_ ?_ ?_) (WB.zy ?_ ?_ ?_ ?_) (WB.zy ?_ ?_ ?_ ?_) (WB.zy ?_ ?_ ?_ ?_) (WB.zy ?_ ?_ ?_ ?_) (WB.zy ?_ ?_ ?_ ?_) (WB.zy ?_ ?_ ?_ ?_) (WB.zy ?_ ?_ ?_ ?_) (WB.zy ?_ ?_ ?_ ?_) (WB.zy ?_ ?_ ?_ ?_) (WB.zy ?_ ?_ ?_ ?_) (WB.zy ?_ ?_ ?_ ?_) (WB.zy ?_ ?_ ?_ ?_) (WB.zy ?_ ?_ ?_ ?_) (WB.zy ?_ ?_ ?_ ?_) (WB.zy ?_ ?_ ?_ ?_) (WB.zy ?_ ?_ ?_ ?_) (WB.zy ?_ ?_ ?_ ?_) (WB.zy ?_ ?_ ?_ ?_) (WB.zy ?_ ?_ ?_ ?_) (WB.zy ?_ ?_ ?_ ?_) KX N ?_ ?_ ?_ ?_ ?_ ?_ ?_ ?_ ?_ ?_ ?_ ?_ ?_ ?_ ?_ ?_ ?_ ?_ ?_ ?_ ?_ ?_ ?_ ?_ ?_ ?_ ?_ ?_ ?_ ?_ ?_ ?_ ?_ ?_ ?_ (WB.n_ ?w0_1 ?w0_2 ?w0_3 ?w0_4) (WB.n_ ?w1_1 ?w1_2 ?w1_3 ?w1_4) (WB.nY ?s0_1 ?s0_2 ?s0_3 ?s0_4 ?s0_5 ?s0_6) ?v0 (WB.nY ?s1_1 ?s1_2 ?s1_3 ?s1_4 ?s1_5 ?s1_6) ?v1 (WB.cU ?t0_1 ?t0_2 ?t0_3) (WB.cU ?t1_1 ?t1_2 ?t1_3) (WB.cU ?t2_1 ?t2_2 ?t2_3) (WB.cU ?t3_1 ?t3_2 ?t3_3) (WB.cU ?t4_1 ?t4_2 ?t4_3) (WB.cU ?t5_1 ?t5_2 ?t5_3) (WB.cU ?t6_1 ?t6_2 ?t6_3) (WB.cU ?t7_1 ?t7_2 ?t7_3) (WB.cU ?t8_1 ?t8_2 ?t8_3) (WB.cU ?t9_1 ?t9_2 ?t9_3) (WB.cU ?t10_1 ?t10_2 ?t10_3) (WB.cU ?t11_1 ?t11_2 ?t11_3) (WB.cU ?t12_1 ?t12_2 ?t12_3) (WB.cU ?t13_1 ?t13_2 ?t13_3) ?q0_0 ?n0_0 ?q0_1 ?n0_1 ?q0_2 ?n0_2 ?q0_3 ?n0_3 ?q0_4 ?n0_4 ?q0_5 ?n0_5 ?q0_6 ?n0_6 ?q0_7 ?n0_7 ?q0_8 ?n0_8 ?q0_10 ?n0_10 ?q0_11 ?n0_11 ?q0_12 ?n0_12 ?q0_13 ?n0_13 ?q1_1 ?n1_1 ?q1_2 ?n1_2 ?q1_3 ?n1_3 ?q1_4 ?n1_4 ?q1_5 ?n1_5 ?q1_6 ?n1_6 ?q1_7 ?n1_7 ?q1_8 ?n1_8 ?q1_9 ?n1_9 ?q1_10 ?n1_10 ?q1_11 ?n1_11 ?q1_12 ?n1_12 ?q1_13 ?n1_13
  any_goals k_is
  any_goals k_exc
  any_goals decide
#print axioms PySem.Challenge.cw_holdplaces_k92_places_read_holds
