import PyProof.Rows.All
import Wide.All
import OpenK.AllK
import Wide.FinOn
import Lean
import PyProof.EqAt
import PyProof.EqKinds
import PyProof.TupleCall
import PyProof.Rows.Range3
import PyProof.Rows.FStr
import PyProof.ReprRoads
import KE.LcSums
import PyProof.SeqI3
import KE.KMinBuiltin
import PyProof.Rows.ListMulArg
import KE.KSortTup
import PyProof.ListRange
import PyProof.TupleOfSeq
import PySem.Challenge.RW_holdplaces_k22_papers_that_no_fewer_hold
set_option Elab.async false
set_option bootstrap.genMatcherCode false
set_option genSizeOf false
set_option compiler.extract_closed false
set_option maxHeartbeats 8000000
set_option maxRecDepth 100000
set_option linter.all false
noncomputable section
open PyProof.Rows renaming slot_tuple_getitem→eS,callWith_type1→fJ,pendingOf→aZ,wpS_bind→au,wpS_pure→av,IntsAre→bz,SortSt→aK,mirror→aW,seqObj→a7,arrOf→ah,Keyed→aq
open PySem.Builtin.SmallTypes renaming nextOf→cm
open PySem.Builtin.Slice renaming slicePlaces→dC,sliceAdjust→eT
open List renaming drop_eq_getElem_cons→fK,take_append_drop→b8,mem_append_right→cq,mem_cons_of_mem→aO,mem_cons_self→aQ,length_append→d_,size_toArray→aU,append_assoc→bu,flatMap_cons→cy,lookup_cons→bw,all_eq_true→bF,length_cons→bM,any_eq_true→b9,not_mem_nil→cY,getElem_mem→cZ,getElem_map→dE,filter_cons→dF,length_take→dH,length_map→bG,mem_filter→bN,append_nil→c_,replicate→bR,map_cons→aN,mem_cons→aP,mem_map→aY,map_map→cc,range→aS
open PySem.Builtin.Tuple renaming tupleExact→cD
open Option renaming bind_eq_some_iff→bD,map_eq_some_iff→bI,bind_eq_bind→bX
open PySem.Builtin renaming bitNot→bE,bitAnd→cw
open Array renaming length_toList→a_,toList_append→bf
open PySem renaming mem_of_lookup→cF,wpAny_truthy_bool→bP,wpAny_newObj_type→bZ,wpAny_call_entry→cH,wpAny_holding→b6,Comprehension→cJ,bootBuiltins→bT,mainGlobals→aC,wpAny_field→bp,sizeLine_eq→bJ,wpAny_bind→ag,wpAny_pure→aA,wpAny_mono→bK,compareOp→bh,cellsFrom→bt,sizeLine→aR,starEach→aV,NameKind→aX,binaryOp→bO,Program→aF,Shared→af,Around→aG,Value→ae,wpAny→ak,model→ao,World→aB,Scope→a9
open PySem.W renaming hideAll_get→dZ,mg_none_of→ed,kia_one→b4,kitOne→b_,exmOne→cz,keepIn→de,Frag→az,nsIn→aI,fnOf→cK
open Nat renaming lt_of_lt_of_le→bA,lt_succ_of_lt→dD,lt_irrefl→bS,ne_of_lt→bg,le_trans→br,le_refl→aH,zero_le→bU
open Bool renaming false_eq_true→bL,false_ne_true→cG,not_eq_true'→bY,and_eq_true→aL,or_eq_true→bQ
open Option.some renaming injEq→cx,inj→bB
open ForInStep renaming yield→dI
open PySem.Heap renaming size_push→cA,lt_size→aM
open PySem.NameKind renaming free→cb
open PySem.Str renaming ofString→aJ
open False renaming elim→bq
open PySem.Obj renaming mapSeq→bx
open PySem.Value renaming none→bV,ref→a8
open And renaming intro→aw
open Ne renaming symm→bH
set_option Elab.async false
namespace L2
open PySem PySem.Spec PyProof.Rows
abbrev Key:=Sum Int Str
noncomputable def pO:Key->ae->Bool
 | .inl k,v=>ae.isInt k v
 | .inr x,v=>ae.isStrOf x v
noncomputable def ye(w:aB):Key->Int
 | .inl k=>hashInt k
 | .inr x=>hashStr w x
theorem zL:∀{k:Key}{v:ae},pO k v=true->(∃i t,k=Sum.inl i/\v=ae.int i t)\/(∃x t,k=Sum.inr x/\v=ae.str x t)
 | .inl i,v,h=>by
  obtain⟨t,e⟩:=ae.isInt_shape (k:=i) (v:=v) h;exact .inl ⟨i,t,rfl,e⟩
 | .inr x,v,h=>by
  obtain⟨t,e⟩:=ae.isStrOf_shape (x:=x) (v:=v) h;exact .inr ⟨x,t,rfl,e⟩
theorem vY(a b:Int):decide ((Sum.inl a:Key)=Sum.inl b)=(a==b):=by
 by_cases e:a=b
 ·subst e;simp
 ·have h:¬ (Sum.inl a:Key)=Sum.inl b:=λq=>e (Sum.inl.inj q)
  rw[decide_eq_false h];exact(beq_eq_false_iff_ne.mpr e).symm
theorem De(a b:Str):decide ((Sum.inr a:Key)=Sum.inr b)=decide (a=b):=by
 by_cases e:a=b
 ·subst e;simp
 ·have h:¬ (Sum.inr a:Key)=Sum.inr b:=λq=>e (Sum.inr.inj q)
  rw[decide_eq_false h,decide_eq_false e]
theorem EY(a:Int)(b:Str):decide ((Sum.inl a:Key)=Sum.inr b)=false:=decide_eq_false (λq=>nomatch q)
theorem wq(a:Str)(b:Int):decide ((Sum.inr a:Key)=Sum.inl b)=false:=decide_eq_false (λq=>nomatch q)
noncomputable def kR(prog:aF)(w:aB):PySem.KeyKind prog w Key where
 is:=pO
 hash:=ye w
 inj:=λv a b ha hb=>by
  rcases zL ha with ⟨i,t,rfl,rfl⟩|⟨x,t,rfl,rfl⟩
  ·rcases zL hb with ⟨j,u,rfl,e⟩|⟨y,u,rfl,e⟩
   ·injection e with e1 _;rw[e1]
   ·exact nomatch e
  ·rcases zL hb with ⟨j,u,rfl,e⟩|⟨y,u,rfl,e⟩
   ·exact nomatch e
   ·injection e with e1 _;rw[e1]
 byValue:=λk v h=>by
  rcases zL h with ⟨i,t,rfl,rfl⟩|⟨x,t,rfl,rfl⟩<;>rfl
 pyHash:=λhv h=>by
  rcases zL hv with ⟨i,t,rfl,rfl⟩|⟨x,t,rfl,rfl⟩
  ·exact wpAny_pyHash_int h
  ·exact wpAny_pyHash_str h
 eqBool:=λhu hv h=>by
  rcases zL hu with ⟨i,t,rfl,rfl⟩|⟨x,t,rfl,rfl⟩
  ·rcases zL hv with ⟨j,u,rfl,rfl⟩|⟨y,u,rfl,rfl⟩
   ·rw[vY]at h;exact wpAny_eqBool_int h
   ·rw[EY]at h;exact SeqAt.EqAt.int_str i t y u _ _ _ _ h
  ·rcases zL hv with ⟨j,u,rfl,rfl⟩|⟨y,u,rfl,rfl⟩
   ·rw[wq]at h;exact SeqAt.EqAt.str_int x t j u _ _ _ _ h
   ·rw[De]at h;exact wpAny_eqBool_str h
 «strs»:=λk x t v h=>by
  rcases zL h with ⟨i,u,rfl,e⟩|⟨y,u,rfl,e⟩
  ·exact nomatch e
  ·injection e with e1 _
   subst e1;cases v<;>rfl
inductive V where
 |non|bl (b:Bool)|int (i:Int)|str (x:Str)|byt (b:Array UInt8)|flt (b:UInt64)|ref (a:Addr)|ty (n:String)
 deriving DecidableEq
def RelV:V->ae->Prop
 | .non,u=>u=bV
 | .bl b,u=>u=ae.bool b
 | .int i,u=>∃t,u=ae.int i t
 | .str x,u=>∃t,u=ae.str x t
 | .byt b,u=>∃t,u=ae.bytes b t
 | .flt b,u=>∃t,u=ae.float b t
 | .ref a,u=>u=a8 a
 | .ty n,u=>u=ae.type n
abbrev Vals:List V->List ae->Prop:=Paired RelV
theorem Vals.length{xs:List V}{us:List ae}(r:Vals xs us):xs.length=us.length:=Paired.length r
theorem Vals.get:∀{xs:List V}{us:List ae}{i:Nat}{x:V},Vals xs us->xs[i]? = some x->∃u,us[i]? = some u/\RelV x u
 |_,_,_,_,.nil,e=>by simp at e
 |_,_,0,_,.cons r _,e=>by simp at e;subst e;exact⟨_,rfl,r⟩
 |_,_,i+1,x,.cons _ t,e=>by
  obtain⟨u,h1,h2⟩:=Vals.get (i:=i) (x:=x) t (by simpa using e);exact⟨u,by simpa using h1,h2⟩
theorem Vals.set{x:V}{u:ae}(r:RelV x u):∀{xs:List V}{us:List ae} (i:Nat),Vals xs us->Vals (xs.set i x) (us.set i u)
 |_,_,_,.nil=>.nil
 |_,_,0,.cons _ t=>.cons r t
 |_,_,i+1,.cons q t=>.cons q (Vals.set r i t)
theorem Vals.append:∀{xs ys:List V}{us ws:List ae},Vals xs us->Vals ys ws->Vals (xs++ys) (us++ws)
 |_,_,_,_,.nil,s=>s
 |_,_,_,_,.cons r t,s=>.cons r (Vals.append t s)
theorem Vals.take:∀{xs:List V}{us:List ae} (n:Nat),Vals xs us->Vals (xs.take n) (us.take n)
 |_,_,0,_=>.nil
 |_,_,_+1,.nil=>.nil
 |_,_,n+1,.cons r t=>.cons r (Vals.take n t)
theorem Vals.drop:∀{xs:List V}{us:List ae} (n:Nat),Vals xs us->Vals (xs.drop n) (us.drop n)
 |_,_,0,r=>r
 |_,_,_+1,.nil=>.nil
 |_,_,n+1,.cons _ t=>Vals.drop n t
def iV:Option V->Option ae->Prop
 |some v,some u=>RelV v u
 |none,none=>True
 |_,_=>False
def KV{κ:Type}:List (κ×V)->List (κ×ae)->Prop:=Paired λ(p:κ×V) (q:κ×ae)=>p.1=q.1/\RelV p.2 q.2
noncomputable def kV:Key->V
 | .inl i=>.int i
 | .inr x=>.str x
inductive HO where
 |lst (xs:List V)
 |tup (xs:List V)
 |dK (kvs:List (Key×V))|dT (kvs:List (List Key×V))
 |set (S:Int->Bool) (n:Nat)
 |ins (C dx:Addr) (fs:List (Str×V))
 |own (x:Addr)
 |xd (fs:List (Str×V))
 |met (f x:Addr)
 |rng (lo hi:Int)
 |frz (o:Obj) (u:HO)
 |tbl (ps:Array ae)
 |ext (φ:Heap->Prop)
abbrev Hp:=Addr->Option HO
noncomputable def upd(H:Hp)(a:Addr)(o:HO):Hp:=λb=>if b=a then some o else H b
theorem zo{H:Hp}{a:Addr}{o:HO}:upd H a o a=some o:=by unfold upd;rw[if_pos rfl]
theorem qg{H:Hp}{a b:Addr}{o:HO}(h:b≠a):upd H a o b=H b:=by unfold upd;rw[if_neg h]
theorem jm{H:Hp}{a b:Addr}{o:HO}(h:H a=some o)(h':H b=none):a≠b:=by
 intro e;subst e;rw[h]at h';cases h'
section
variable(P:aF)(w:aB)
def zG(H:Hp)(h:Heap)(a:Addr):HO->Prop
 | .lst xs=>xs.length<=aR/\∃(its:List ae) (n:Nat),Vals xs its/\h.get? a=some {cls:=.type "list",data:=.seq its.toArray n}
 | .tup xs=>xs.length<=aR/\∃its:List ae,Vals xs its/\IsTup h a its.toArray
 | .dK kvs=>kvs.length<=aR/\(a==sysModules)=false/\∃vs,KV kvs vs/\h.DictOf (kR P w) a vs
 | .dT kvs=>kvs.length<=aR/\(a==sysModules)=false/\∃xs:List (List Key×Addr×ae),
   Paired (λ(p:List Key×V) (q:List Key×Addr×ae)=>p.1=q.1/\H q.2.1=some (.tup (p.1.map kV))/\RelV p.2 q.2.2) kvs xs /\
   ∃o es ep,h.get? a=some o/\o.ExactDict/\o.data=.dict es ep/\es.toList=xs.map (entryOfKey (tupleKind (kR P w)))/\(xs.map (·.1)).Nodup
 | .set S n=>h.SetOf (intKind P w) a S n
 | .ins C dx fs=>H dx=some (.own a)/\fs.length<=1000/\dx≠a/\h.get? a=some (PySem.W.instObj C dx) /\
   ∃mA,h.Ns1 dx mA/\(∀f,iV (fs.lookup f) (mA f))/\PySem.Within mA (fs.map (·.1))
 | .own _=>∃o,h.get? a=some o
 | .xd fs=>∃mA,h.Ns1 a mA/\∀f,iV (fs.lookup f) (mA f)
 | .rng lo hi=>∃t u v,h.get? a=some {cls:=.type "range",data:=.fields #[.int lo t,.int hi u,.int 1 v]}
 | .frz o u=>h.get? a=some o/\zG H h a u
 | .tbl ps=>h.get? a=some {cls:=.none,data:=.fields ps}
 | .met f x=>h.get? a=some (PySem.W.methodObj (.ref f) (.ref x))
 | .ext φ=>φ h/\(∃o,h.get? a=some o)/\∀h1 h2:Heap,φ h1->(∀o,h1.get? a=some o->h2.get? a=some o)->φ h2
def HOk(H:Hp)(h:Heap):Prop:=∀a o,H a=some o->zG P w H h a o
end
section
variable{P:aF}{w:aB}{H H':Hp}{h h':Heap}{a:Addr}{o:HO}
theorem zG.lt(x:zG P w H h a o):a<h.objs.size:=by
 cases o with
 |lst xs=>obtain⟨_,_,_,_,e⟩:=x;exact aM e
 |tup xs=>obtain⟨_,_,_,p⟩:=x;exact p.lt
 |dK kvs=>obtain⟨_,_,_,_,o,_,_,e,_⟩:=x;exact aM e
 |dT kvs=>obtain⟨_,_,_,_,o,_,_,e,_⟩:=x;exact aM e
 |set S n=>obtain⟨o,_,_,_,e,_⟩:=x;exact aM e
 |ins C dx fs=>obtain⟨_,_,_,e,_⟩:=x;exact aM e
 |own y=>obtain⟨_,e⟩:=x;exact aM e
 |xd fs=>obtain⟨_,⟨_,_,_,e,_⟩,_⟩:=x;exact aM e
 |rng lo hi=>obtain⟨_,_,_,e⟩:=x;exact aM e
 |frz ob u=>obtain⟨e,_⟩:=x;exact aM e
 |tbl ps=>exact aM (show h.get? a=some _ from x)
 |met f y=>exact aM (show h.get? a=some _ from x)
 |ext φ=>obtain⟨_,⟨_,e⟩,_⟩:=x;exact aM e
theorem Paired.mapP{α β:Type}{F G:α->β->Prop}:∀{l₁:List α}{l₂:List β},Paired F l₁ l₂->(∀a b,F a b->G a b)->Paired G l₁ l₂
 |_,_,.nil,_=>.nil
 |_,_,.cons r t,f=>.cons (f _ _ r) (Paired.mapP t f)
theorem zG.stay(x:zG P w H h a o)(k:∀b u,(b=a\/H b=some (.own a))->h.get? b=some u->h'.get? b=some u)
  (ho:∀b,H b=some (.own a)->H' b=some (.own a)) (ht:∀b xs,H b=some (.tup xs)->H' b=some (.tup xs)):zG P w H' h' a o:=by
 induction o with
 |lst xs=>obtain⟨z,its,n,r,e⟩:=x;exact⟨z,its,n,r,k _ _ (.inl rfl) e⟩
 |tup xs=>obtain⟨z,its,r,ob,e,c⟩:=x;exact⟨z,its,r,ob,k _ _ (.inl rfl) e,c⟩
 |dK kvs=>obtain⟨z,y,vs,r,ob,es,ep,e,c⟩:=x;exact⟨z,y,vs,r,ob,es,ep,k _ _ (.inl rfl) e,c⟩
 |dT kvs=>
  obtain⟨z,y,xs,r,ob,es,ep,e,c⟩:=x;exact⟨z,y,xs,Paired.mapP r λp q z=>⟨z.1,ht _ _ z.2.1,z.2.2⟩,ob,es,ep,k _ _ (.inl rfl) e,c⟩
 |set S n=>obtain⟨ob,es,ep,t,e,c⟩:=x;exact⟨ob,es,ep,t,k _ _ (.inl rfl) e,c⟩
 |ins C dx fs=>
  obtain⟨d,z,ne,e,mA,⟨od,es,ep,e2,c⟩,r⟩:=x;exact⟨ho _ d,z,ne,k _ _ (.inl rfl) e,mA,⟨od,es,ep,k _ _ (.inr d) e2,c⟩,r⟩
 |own y=>obtain⟨ob,e⟩:=x;exact⟨ob,k _ _ (.inl rfl) e⟩
 |xd fs=>obtain⟨mA,⟨od,es,ep,e,c⟩,r⟩:=x;exact⟨mA,⟨od,es,ep,k _ _ (.inl rfl) e,c⟩,r⟩
 |rng lo hi=>obtain⟨t,u,v,e⟩:=x;exact⟨t,u,v,k _ _ (.inl rfl) e⟩
 |frz ob u ih=>obtain⟨e,q⟩:=x;exact⟨k _ _ (.inl rfl) e,ih q⟩
 |tbl ps=>
  have e:h.get? a=some {cls:=.none,data:=.fields ps}:=x;show h'.get? a=some {cls:=.none,data:=.fields ps};exact k a _ (.inl rfl) e
 |met f y=>
  have e:h.get? a=some (PySem.W.methodObj (.ref f) (.ref y)):=x;show h'.get? a=some (PySem.W.methodObj (.ref f) (.ref y));exact k a _ (.inl rfl) e
 |ext φ=>obtain⟨p,⟨o,e⟩,st⟩:=x;exact⟨st _ _ p λo q=>k _ _ (.inl rfl) q,⟨o,k _ _ (.inl rfl) e⟩,st⟩
theorem HOk.lt(x:HOk P w H h)(e:H a=some o):a<h.objs.size:=(x a o e).lt
theorem HOk.fresh(x:HOk P w H h)(e:h.objs.size<=a):H a=none:=by
 cases q:H a with
 |none=>rfl
 |some u=>exact absurd (bA (x.lt q) e) (bS _)
theorem HOk.kept(x:HOk P w H h)(k:∀b u,h.get? b=some u->h'.get? b=some u):HOk P w H h':=λa o e=>
 (x a o e).stay (λb u _ q=>k b u q) (λ_ q=>q) λ_ _ q=>q
theorem HOk.laid(x:HOk P w H h)(k:∀b u,h.get? b=some u->h'.get? b=some u)(hp:h.objs.size<=a)(new:zG P w (upd H a o) h' a o):HOk P w (upd H a o) h':=λb u e=>by
 have hn:=x.fresh hp;by_cases hb:b=a
 ·subst hb;rw[zo]at e;cases e;exact new
 ·rw[qg hb]at e;exact(x b u e).stay (λc v _ q=>k c v q) (λc q=>by rw[qg (jm q hn)];exact q) λc xs q=>by rw[qg (jm q hn)];exact q
end
def Rd(H:Hp)(a:Addr)(u:HO):Prop:=H a=some u\/∃o,H a=some (.frz o u)
theorem Rd.of{H:Hp}{a:Addr}{u:HO}(h:H a=some u):Rd H a u:=.inl h
theorem Rd.ok{P:aF}{w:aB}{H:Hp}{h:Heap}{a:Addr}{u:HO}(r:Rd H a u)(x:HOk P w H h):zG P w H h a u:=by
 rcases r with r|⟨o,r⟩
 ·exact x a u r
 ·obtain⟨_,q⟩:=x a _ r;exact q
def Mut:Option HO->Prop
 |some (.lst _)=>True
 |some (.dK _)=>True
 |some (.dT _)=>True
 |some (.set _ _)=>True
 |some (.ins _ _ _)=>True
 |some (.ext _)=>True
 |_=>False
section
variable{P:aF}{w:aB}{H:Hp}{h h':Heap}{x e:Addr}{o':HO}
theorem HOk.write(ok:HOk P w H h)(mu:Mut (H x))(he:e=x\/H e=some (.own x))(k:∀b u,b≠e->h.get? b=some u->h'.get? b=some u)(Jk:∃u,h'.get? e=some u)
  (new:zG P w (upd H x o') h' x o'):HOk P w (upd H x o') h':=λb u q=>by
 have Jy:∀c y,H c=some (.own y)->c≠x:=λc y r z=>by subst z;rw[r]at mu;exact mu
 have Lk:∀c xs,H c=some (.tup xs)->c≠x:=λc xs r z=>by subst z;rw[r]at mu;exact mu
 by_cases hb:b=x
 ·subst hb;rw[zo]at q;cases q;exact new
 ·rw[qg hb]at q;by_cases IF:b=e
  ·have q':H b=some (.own x):=by
    rcases he with z|z
    ·exact absurd (IF.trans z) hb
    ·rw[IF];exact z
   rw[q]at q';cases q';obtain⟨v,hv⟩:=Jk;exact⟨v,by rw[IF];exact hv⟩
  ·refine(ok b u q).stay (λc v hc r=>k c v ?_ r) (λc r=>by rw[qg (Jy c b r)];exact r) λc xs r=>by rw[qg (Lk c xs r)];exact r
   rcases hc with rfl|hc
   ·exact IF
   ·rintro rfl;rcases he with z|z
    ·exact Jy c b hc z
    ·rw[hc]at z;cases z;exact hb rfl
end
structure Un(fs ex:List Addr)(H H':Hp)(h h':Heap):Prop where
 keep:∀b o,h.get? b=some o->H b=none->b∉fs->b∉ex->h'.get? b=some o
 slot:∀b o,h.get? b=some o->H b=none->b∈fs->b∉ex->∃sl,h'.get? b=some {o with slots:=sl}
 free:∀b o,h.get? b=some o->H b=none->b∉ex->H' b=none
 there:∀b o,h.get? b=some o->b∉ex->∃o',h'.get? b=some o'
 tups:∀b xs,H b=some (.tup xs)->H' b=some (.tup xs)
 frzs:∀b o u,H b=some (.frz o u)->H' b=some (.frz o u)
 tbls:∀b ps,H b=some (.tbl ps)->∃more,H' b=some (.tbl (ps++more))
section
variable{fs fs' ex ex':List Addr}{H H1 H2:Hp}{h h1 h2 h':Heap}{a x e:Addr}{o:HO}
theorem Un.any(u:Un fs ex H H1 h h1){b:Addr}{ob:Obj}(q:h.get? b=some ob)(n:H b=none)(hx:b∉ex):∃sl,h1.get? b=some {ob with slots:=sl}:=by
 by_cases hb:b∈fs
 ·exact u.slot b ob q n hb hx
 ·exact⟨ob.slots,u.keep b ob q n hb hx⟩
theorem Un.kept(k:∀b u,h.get? b=some u->h'.get? b=some u):Un fs ex H H h h':=
 ⟨λb ob q _ _ _=>k b ob q,λb ob q _ _ _=>⟨ob.slots,k b ob q⟩,λ_ _ _ n _=>n,λb ob q _=>⟨ob,k b ob q⟩,λ_ _ q=>q,λ_ _ _ q=>q,λ_ ps q=>⟨#[],by rw[q];simp⟩⟩
theorem Un.refl:Un fs ex H H h h:=Un.kept λ_ _ q=>q
theorem Un.laid(k:∀b u,h.get? b=some u->h'.get? b=some u)(hp:h.objs.size<=a)(hn:H a=none):Un fs ex H (upd H a o) h h' where
 keep:=λb u q _ _ _=>k b u q
 slot:=λb u q _ _ _=>⟨u.slots,k b u q⟩
 free:=λb u q n _=>by rw[qg (bg (bA (aM q) hp))];exact n
 there:=λb u q _=>⟨u,k b u q⟩
 tups:=λb xs q=>by rw[qg (jm q hn)];exact q
 frzs:=λb u xs q=>by rw[qg (jm q hn)];exact q
 tbls:=λb ps q=>⟨#[],by rw[qg (jm q hn),q];simp⟩
theorem Un.write(mu:Mut (H x))(he:e=x\/H e=some (.own x))(k:∀b u,b≠e->h.get? b=some u->h'.get? b=some u)(Jk:∃u,h'.get? e=some u):Un fs ex H (upd H x o) h h':=by
 have hx:∀b,H b=none->b≠x:=λb n z=>by subst z;rw[n]at mu;exact mu
 have hb:∀b,H b=none->b≠e:=λb n z=>by
  subst z;rcases he with r|r
  ·exact hx b n r
  ·rw[n]at r;cases r
 have hm:∀b u,H b=some u->¬ Mut (some u)->b≠x:=λb u q nm z=>by subst z;rw[q]at mu;exact nm mu
 refine⟨λb u q n _ _=>k b u (hb b n) q,λb u q n _ _=>⟨u.slots,k b u (hb b n) q⟩,λb u q n _=>by rw[qg (hx b n)];exact n,λb u q _=>?_,
  λb xs q=>by rw[qg (hm b _ q λz=>z)];exact q,λb u xs q=>by rw[qg (hm b _ q λz=>z)];exact q,λb ps q=>⟨#[],by rw[qg (hm b _ q λz=>z),q];simp⟩⟩
 by_cases IF:b=e
 ·subst IF;exact Jk
 ·exact⟨u,k b u IF q⟩
end
noncomputable def trk(h:Heap)(H:Hp):List Addr:=(aS h.objs.size).filter λa=>(H a).isSome
noncomputable def fz(h:Heap)(H:Hp):Heap:=PySem.W.hideAll h (trk h H)
theorem FC(h:Heap)(H:Hp):(fz h H).objs.size=h.objs.size:=PySem.W.hideAll_size _ _
theorem xi{h:Heap}{H:Hp}{b:Addr}{o:Obj}(e:h.get? b=some o)(n:H b=none):(fz h H).get? b=some o:=
 dZ _ e λhm=>by
  have q:(H b).isSome=true:=(bN.mp hm).2;rw[n]at q;simp at q
theorem AX{h:Heap}{H:Hp}{b:Addr}{o:Obj}(e:(fz h H).get? b=some o):h.get? b=some o/\H b=none:=by
 have e':h.get? b=some o:=PySem.W.of_hideAll (trk h H) e;refine⟨e',?_⟩;cases q:H b with
 |none=>rfl
 |some x=>
  have hm:b∈trk h H:=bN.mpr ⟨List.mem_range.mpr (aM e'),by simp[q]⟩;have z:(fz h H).get? b=none:=PySem.W.hideAll_none (trk h H) hm;rw[z]at e;cases e
noncomputable def eQ(g h:Heap)(L:Addr):List (Addr×Obj):=(aS h.objs.size).filterMap λa=>if a=L\/(g.get? a).isSome=true then none else (h.get? a).map λo=>(a,o)
theorem Bj{g h:Heap}{L a:Addr}{o:Obj}(h1:a≠L)(h2:g.get? a=none)(h3:h.get? a=some o):(a,o)∈eQ g h L:=
 List.mem_filterMap.mpr ⟨a,List.mem_range.mpr (aM h3),by simp[h1,h2,h3]⟩
theorem C9{g h:Heap}{L:Addr}{p:Addr×Obj}(hp:p∈eQ g h L):p.1≠L/\g.get? p.1=none/\h.get? p.1=some p.2:=by
 obtain⟨b,_,e⟩:=List.mem_filterMap.mp hp;split at e
 ·cases e
 ·rename_i hn
  cases q:h.get? b with
  |none=>rw[q]at e;simp at e
  |some u=>
   rw[q]at e;simp only[Option.map_some,cx]at e;subst e;refine⟨λz=>hn (.inl z),?_,q⟩;show g.get? b=none;cases r:g.get? b with
   |none=>rfl
   |some v=>exact(hn (.inr (by simp[r]))).elim
noncomputable def rest(g h:Heap)(L d:Addr):List (Addr×Obj):=(eQ g h L).filter λp=>decide (p.1≠d)
theorem yX{g h:Heap}{L:Addr}:News g L h (eQ g h L):=λp hp=>let ⟨a,b,c⟩:=C9 hp;⟨c,a,b⟩
structure Mod(K:az)(mg:Str->Option ae)(base:Heap):Prop where
 kin:K.In base
 glob:base.Ns aC mg
 blt:∃mb,base.Ns builtinsNs mb/\∀x:Str,x≠"__name__"->mb x=bT x
 nolimit:base.NoLimit
structure Cx where
 prog:aF
 w:aB
 K:az
 mg:Str->Option ae
 base:Heap
 A:aG
 N:List Str
 s₀:af
 H₀:Hp
 env:Env
 outer:List Env
 stack:List Env
 ex:List Addr
 fn:Str->Bool
 calm:Bool
 pn:List (Addr×Obj)
 xe:ae->af->Prop
noncomputable def frs(l:List Env):List Addr:=l.filterMap (·.frame)
abbrev Cx.fs(X:Cx):List Addr:=frs X.outer
def gY(sc:a9)(x:Str):Prop:=sc.names.lookup x=some .local\/sc.names.lookup x=some .cell\/sc.names.lookup x=some .free
def Loc(sc:a9)(x:Str):Prop:=sc.names.lookup x=some .local\/sc.names.lookup x=some .cell
def Look(env:Env)(h:Heap)(m:Str->Option ae)(x:Str)(u:ae):Prop:=
 (env.kindOf x=some .local/\m x=some u)\/((env.kindOf x=some .cell\/env.kindOf x=some .free)/\∃c,env.cells.lookup x=some c/\h.IsCell c (some u))
structure Cx.Ok(X:Cx):Prop where
 mod:Mod X.K X.mg X.base
 kind:X.env.scope.kind=.function
 glob:X.env.globals=aC
 blt:X.env.builtins=builtinsNs
 above:X.s₀.heap.objs.size<=X.env.locals
 inj:∀x y c,X.env.cells.lookup x=some c->X.env.cells.lookup y=some c->x=y
 has:∀x,(X.env.kindOf x=some .cell\/X.env.kindOf x=some .free)->∃c,X.env.cells.lookup x=some c
 cab:∀x c,X.fn x=true->X.env.cells.lookup x=some c->X.s₀.heap.objs.size<=c
 hd:X.calm=true->X.A.handled=none
 frames:X.A.frames=some X.stack
 stk:X.stack=X.outer\/(X.stack=X.env::X.outer/\X.env.frame=some X.env.locals)
 exf:∀b∈X.ex,b≠X.env.locals/\∀x c,X.env.cells.lookup x=some c->c≠b
 bs:∀b o,X.base.get? b=some o->X.s₀.heap.get? b=some o/\X.H₀ b=none
 bsz:X.base.objs.size<=X.s₀.heap.objs.size
 noex:∀b o,X.base.get? b=some o->b∉X.ex
 exfs:∀b∈X.ex,b∉X.fs
 funs:X.s₀.heap.FunFrames X.base X.outer
 frf:∀b∈X.fs,X.H₀ b=none
structure Inv(X:Cx)(pins:List (Addr×Obj))(σ:List (Option V))(H:Hp)(s:af):Prop where
 ok:X.Ok
 os:s.os=X.s₀.os
 bare:AllBare s.gens
 base:Un X.fs X.ex X.H₀ H X.s₀.heap s.heap
 loc:∃m,s.heap.Ns X.env.locals m/\∀(i:Nat) (x:Str) (v:V),X.N[i]? = some x->σ[i]? = some (some v)->gY X.env.scope x->∃u,RelV v u/\Look X.env s.heap m x u
 cell:∀x c,X.env.cells.lookup x=some c->∃v,s.heap.IsCell c v
 free:H X.env.locals=none
 freeC:∀x c,X.env.cells.lookup x=some c->H c=none
 pin:∀p∈X.pn++pins,s.heap.get? p.1=some p.2/\H p.1=none/\p.1≠X.env.locals/\p.1∉X.fs/\∀v,p.2.data≠.cell v
 hok:HOk X.prog X.w H s.heap
 len:σ.length=X.N.length
section
variable{X:Cx}{pins:List (Addr×Obj)}{σ:List (Option V)}{H H':Hp}{s:af}{h':Heap}
theorem Cx.Ok.nofr(ok:X.Ok){b:Addr}{o:Obj}(e:X.base.get? b=some o):b∉X.fs:=λhb=>by
 have:=(ok.funs.mem hb).1;rw[e]at this;cases this
theorem Inv.bs(I:Inv X pins σ H s):∀b o,X.base.get? b=some o->s.heap.get? b=some o/\H b=none:=λb o e=>
 ⟨I.base.keep b o (I.ok.bs b o e).1 (I.ok.bs b o e).2 (I.ok.nofr e) (I.ok.noex b o e),I.base.free b o (I.ok.bs b o e).1 (I.ok.bs b o e).2 (I.ok.noex b o e)⟩
theorem Inv.bk(I:Inv X pins σ H s):∀b o,X.base.get? b=some o->s.heap.get? b=some o:=λb o e=>(I.bs b o e).1
theorem Inv.mod(I:Inv X pins σ H s):Mod X.K X.mg X.base:=I.ok.mod
theorem Inv.kIn(I:Inv X pins σ H s):X.K.In s.heap:=I.ok.mod.kin.keeps I.bk
theorem Inv.nolimit(I:Inv X pins σ H s):s.heap.NoLimit:=I.ok.mod.nolimit.keeps I.bk
theorem Inv.fr(I:Inv X pins σ H s):∃m,Fr X.base X.env.locals s.heap m:=
 let ⟨m,hn,_⟩:=I.loc
 ⟨m,hn,I.bk,br I.ok.bsz I.ok.above⟩
theorem Inv.lt(I:Inv X pins σ H s):X.env.locals<s.heap.objs.size:=let ⟨_,hn,_⟩:=I.loc;hn.lt
theorem Inv.sz(I:Inv X pins σ H s):X.s₀.heap.objs.size<=s.heap.objs.size:=br I.ok.above (Nat.le_of_lt I.lt)
theorem Inv.nofs(I:Inv X pins σ H s){a:Addr}(h:s.heap.objs.size<=a):a∉X.fs:=λhb=>by
 obtain⟨_,o,ho,_⟩:=I.ok.funs.mem hb;exact absurd (bA (aM ho) (br I.sz h)) (bS _)
theorem Inv.cne(I:Inv X pins σ H s):∀x c,X.env.cells.lookup x=some c->c≠X.env.locals:=λx c e z=>by
 obtain⟨v,o,ho,hd⟩:=I.cell x c e;obtain⟨m,⟨o',es,ep,G',HU,_⟩,_⟩:=I.loc;rw[z,G']at ho;cases ho;rw[HU]at hd;cases hd
theorem Inv.funs(I:Inv X pins σ H s):s.heap.FunFrames X.base X.outer:=by
 have all:∀(l:List Env),(∀b∈frs l,b∈X.fs)->X.s₀.heap.FunFrames X.base l->s.heap.FunFrames X.base l:=by
  intro l
  induction l with
  |nil=>intro _ _;trivial
  |cons env r ih=>
   intro hs hl;obtain⟨hk,⟨L,o,hf,hn,ho,hd⟩,hr⟩:=hl;have hL:L∈X.fs:=hs L (by unfold frs;rw[List.filterMap_cons,hf];exact aQ);obtain⟨sl,e⟩:=I.base.slot L o ho (I.ok.frf L hL) hL λz=>I.ok.exfs L z hL
   exact⟨hk,⟨L,_,hf,hn,e,hd⟩,ih (λb hb=>hs b (by unfold frs;rw[List.filterMap_cons,hf];exact aO _ hb)) hr⟩
 exact all X.outer (λ_ hb=>hb) I.ok.funs
theorem Inv.stack(I:Inv X pins σ H s):s.heap.FunFrames X.base X.stack:=by
 rcases I.ok.stk with e|⟨e,hf⟩
 ·rw[e];exact I.funs
 ·rw[e];obtain⟨m,hn,_⟩:=I.loc;refine .cons (by rw[I.ok.kind];decide) hf hn ?_ I.funs;exact Heap.get?_none_of_le (br I.ok.bsz I.ok.above)
theorem Inv.stkSub(I:Inv X pins σ H s):∀b∈frs X.stack,b∈X.env.locals::X.fs:=λb hb=>by
 rcases I.ok.stk with e|⟨e,hf⟩
 ·rw[e]at hb;exact aO _ hb
 ·rw[e]at hb;unfold frs at hb;rw[List.filterMap_cons,hf]at hb;exact hb
theorem Inv.stkFree(I:Inv X pins σ H s):∀b∈frs X.stack,H b=none:=λb hb=>by
 rcases aP.mp (I.stkSub b hb)with e|hb
 ·rw[e];exact I.free
 ·obtain⟨_,o,ho,_⟩:=I.ok.funs.mem hb;exact I.base.free b o ho (I.ok.frf b hb) λz=>I.ok.exfs b z hb
theorem Inv.step{g':Array GenState}{t':Nat}{d':Drawn}{ch:List Addr}(I:Inv X pins σ H s)
  (Ha:∀b∈ch,(b∈X.ex\/X.s₀.heap.objs.size<=b)/\b≠X.env.locals/\(∀x c,X.env.cells.lookup x=some c->c≠b)/\∀p∈X.pn++pins,p.1≠b)
  (keep:∀b o,b≠X.env.locals->b∉X.fs->b∉ch->s.heap.get? b=some o->H b=none->h'.get? b=some o)
  (slot:∀b o,b≠X.env.locals->b∈X.fs->b∉ch->s.heap.get? b=some o->H b=none->∃sl,h'.get? b=some {o with slots:=sl}) (free:∀b o,b∉ch->s.heap.get? b=some o->H b=none->H' b=none)
  (there:∀b o,b∉ch->s.heap.get? b=some o->∃o',h'.get? b=some o')
  (tups:∀b xs,H b=some (.tup xs)->H' b=some (.tup xs)) (frzs:∀b o u,H b=some (.frz o u)->H' b=some (.frz o u)) (tbls:∀b ps,H b=some (.tbl ps)->∃more,H' b=some (.tbl (ps++more)))
  (ns:∀m,s.heap.Ns X.env.locals m->h'.Ns X.env.locals m) (hok:HOk X.prog X.w H' h') (hg:AllBare g') :
  Inv X pins σ H' {s with heap:=h',gens:=g',drawn:=d',toks:=t'}:=by
 have Kk:∀b o,X.s₀.heap.get? b=some o->b≠X.env.locals:=λb o e=>bg (bA (aM e) I.ok.above)
 have Ic:∀b o,X.s₀.heap.get? b=some o->b∉X.ex->b∉ch:=λb o e hx hb=>by
  rcases(Ha b hb).1 with z|z
  ·exact hx z
  ·exact absurd (bA (aM e) z) (bS _)
 have cellK:∀x c,X.env.cells.lookup x=some c->∀v,s.heap.IsCell c v->h'.IsCell c v:=λx c e v ⟨o,ho,hd⟩=>by
  have G2:c∉ch:=λz=>(Ha c z).2.2.1 x c e rfl
  by_cases hc:c∈X.fs
  ·obtain⟨sl,q⟩:=slot c o (I.cne x c e) hc G2 ho (I.freeC x c e);exact⟨_,q,hd⟩
  ·exact⟨o,keep c o (I.cne x c e) hc G2 ho (I.freeC x c e),hd⟩
 refine⟨I.ok,I.os,hg,⟨λb o e n hb hx=>?_,λb o e n hb hx=>?_,λb o e n hx=>?_,λb o e hx=>?_,λb xs e=>tups b xs (I.base.tups b xs e),λb o xs e=>frzs b o xs (I.base.frzs b o xs e),λb ps e=>?_⟩,?_,λx c e=>?_,?_,λx c e=>?_,λp hp=>?_,hok,I.len⟩
 ·exact keep b o (Kk b o e) hb (Ic b o e hx) (I.base.keep b o e n hb hx) (I.base.free b o e n hx)
 ·obtain⟨sl,e1⟩:=I.base.slot b o e n hb hx;obtain⟨Ll,e2⟩:=slot b _ (Kk b o e) hb (Ic b o e hx) e1 (I.base.free b o e n hx);exact⟨Ll,e2⟩
 ·obtain⟨o',e1⟩:=I.base.there b o e hx;exact free b o' (Ic b o e hx) e1 (I.base.free b o e n hx)
 ·obtain⟨o',e1⟩:=I.base.there b o e hx;exact there b o' (Ic b o e hx) e1
 ·obtain⟨m1,e1⟩:=I.base.tbls b ps e;obtain⟨m2,e2⟩:=tbls b _ e1;exact⟨m1++m2,by rw[e2,Array.append_assoc]⟩
 ·obtain⟨m,hn,hl⟩:=I.loc;refine⟨m,ns m hn,λi x v e1 e2 e3=>?_⟩;obtain⟨u,r,l⟩:=hl i x v e1 e2 e3;refine⟨u,r,?_⟩;rcases l with l|⟨k,c,e,z⟩
  ·exact .inl l
  ·exact .inr ⟨k,c,e,cellK x c e _ z⟩
 ·obtain⟨v,z⟩:=I.cell x c e;exact⟨v,cellK x c e v z⟩
 ·obtain⟨m,⟨o,_,_,ho,_⟩,_⟩:=I.loc;exact free _ o (λz=>(Ha _ z).2.1 rfl) ho I.free
 ·obtain⟨v,o,ho,hd⟩:=I.cell x c e;exact free c o (λz=>(Ha c z).2.2.1 x c e rfl) ho (I.freeC x c e)
 ·obtain⟨e,n,ne,nf,d⟩:=I.pin p hp;have G2:p.1∉ch:=λz=>(Ha p.1 z).2.2.2 p hp rfl
  exact⟨keep p.1 p.2 ne nf G2 e n,free p.1 p.2 G2 e n,ne,nf,d⟩
theorem Inv.un{t':Nat}(I:Inv X pins σ H s)(u:Un X.fs [] H H' s.heap h')(hok:HOk X.prog X.w H' h'):Inv X pins σ H' {s with heap:=h',toks:=t'}:=by
 obtain⟨m,⟨o,es,ep,ho,r⟩,_⟩:=id I.loc;obtain⟨sl,hL⟩:=u.any ho I.free (by simp);exact I.step (g':=s.gens) (d':=s.drawn) (ch:=[]) (λ_ z=>nomatch z) (λb o _ hb _ e n=>u.keep b o e n hb (by simp)) (λb o _ hb _ e n=>u.slot b o e n hb (by simp)) (λb o _ e n=>u.free b o e n (by simp)) (λb o _ e=>u.there b o e (by simp)) u.tups u.frzs u.tbls (λm' hm=>by
  obtain⟨o',Jl,Jm,G',r'⟩:=hm;rw[ho]at G';cases G';exact⟨_,Jl,Jm,hL,r'⟩) hok I.bare
theorem Inv.call{g':Array GenState}{t':Nat}{d':Drawn}{ch:List Addr}(I:Inv X pins σ H s)(u:Un (frs X.stack) ch H H' s.heap h')(hok:HOk X.prog X.w H' h')(hg:AllBare g')
  (Ha:∀b∈ch,(b∈X.ex\/X.s₀.heap.objs.size<=b)/\b≠X.env.locals/\(∀x c,X.env.cells.lookup x=some c->c≠b)/\∀p∈X.pn++pins,p.1≠b) :
  Inv X pins σ H' {s with heap:=h',gens:=g',drawn:=d',toks:=t'}:=by
 obtain⟨m,⟨o,es,ep,ho,r⟩,_⟩:=id I.loc;obtain⟨sl,hL⟩:=u.any ho I.free λz=>(Ha _ z).2.1 rfl
 exact I.step (ch:=ch) Ha (λb o hL hb hc e n=>u.keep b o e n (λz=>(aP.mp (I.stkSub b z)).elim hL hb) hc) (λb o _ _ hc e n=>u.any e n hc) (λb o hc e n=>u.free b o e n hc) (λb o hc e=>u.there b o e hc) u.tups u.frzs u.tbls (λm' hm=>by
  obtain⟨o',Jl,Jm,G',r'⟩:=hm;rw[ho]at G';cases G';exact⟨_,Jl,Jm,hL,r'⟩) hok hg
theorem Inv.turned{t':Nat}{it:Addr}(I:Inv X pins σ H s)(k:∀b o,b≠it->s.heap.get? b=some o->h'.get? b=some o)(hn:H it=none)(hL:it≠X.env.locals)
  (h1:it∈X.ex\/X.s₀.heap.objs.size<=it) (h2:∀x c,X.env.cells.lookup x=some c->c≠it) (h3:∀p∈X.pn++pins,p.1≠it):Inv X pins σ H {s with heap:=h',toks:=t'}:=by
 have MK:∀b u,H b=some u->b≠it:=λb u e z=>by rw[z,hn]at e;cases e
 refine I.step (g':=s.gens) (d':=s.drawn) (ch:=[it]) (λb hb=>?_) (λb o _ _ hc e _=>k b o (λz=>hc (by simp[z])) e) (λb o _ _ hc e _=>⟨o.slots,k b o (λz=>hc (by simp[z])) e⟩) (λ_ _ _ _ n=>n)
  (λb o hc e=>⟨o,k b o (λz=>hc (by simp[z])) e⟩) (λ_ _ e=>e) (λ_ _ _ e=>e) (λb ps e=>⟨#[],by rw[e];simp⟩) (λm hm=>?_) (λb u e=>?_) I.bare
 ·have e:b=it:=by simpa using hb
  subst e;exact⟨h1,hL,h2,h3⟩
 ·obtain⟨o,es,ep,ho,r⟩:=hm;exact⟨o,es,ep,k _ o (bH hL) ho,r⟩
 ·refine(I.hok b u e).stay (λc v hc q=>k c v ?_ q) (λ_ q=>q) λ_ _ q=>q
  rcases hc with z|z
  ·rw[z];exact MK b u e
  ·exact MK c _ z
theorem Inv.tok(I:Inv X pins σ H s)(t:Nat):Inv X pins σ H {s with toks:=t}:=I.un (h':=s.heap) (t':=t) Un.refl I.hok
theorem Inv.kept{t':Nat}(I:Inv X pins σ H s)(k:∀b u,s.heap.get? b=some u->h'.get? b=some u):Inv X pins σ H {s with heap:=h',toks:=t'}:=I.un (Un.kept k) (I.hok.kept k)
theorem Inv.laid{a:Addr}{o:HO}{t':Nat}(I:Inv X pins σ H s)(k:∀b u,s.heap.get? b=some u->h'.get? b=some u)(hp:s.heap.objs.size<=a)(new:zG X.prog X.w (upd H a o) h' a o) :
  Inv X pins σ (upd H a o) {s with heap:=h',toks:=t'}:=I.un (Un.laid k hp (I.hok.fresh hp)) (I.hok.laid k hp new)
theorem Inv.write{x e:Addr}{o:HO}{t':Nat}(I:Inv X pins σ H s)(mu:Mut (H x))(he:e=x\/H e=some (.own x))(k:∀b u,b≠e->s.heap.get? b=some u->h'.get? b=some u)(Jk:∃u,h'.get? e=some u)
  (new:zG X.prog X.w (upd H x o) h' x o):Inv X pins σ (upd H x o) {s with heap:=h',toks:=t'}:=I.un (Un.write mu he k Jk) (I.hok.write mu he k Jk new)
theorem Inv.pins_of{Gi:List (Addr×Obj)}(I:Inv X pins σ H s)(h:∀p∈Gi,s.heap.get? p.1=some p.2/\H p.1=none/\p.1≠X.env.locals/\p.1∉X.fs/\∀v,p.2.data≠.cell v):Inv X Gi σ H s:=
 ⟨I.ok,I.os,I.bare,I.base,I.loc,I.cell,I.free,I.freeC,λp hp=>(List.mem_append.mp hp).elim (λz=>I.pin p (List.mem_append_left _ z)) (h p),I.hok,I.len⟩
theorem rV{N:List Str}(hN:N.Nodup){i j:Nat}{x:Str}(a:N[i]? = some x)(b:N[j]? = some x):i=j:=by
 obtain⟨h1,e1⟩:=List.getElem?_eq_some_iff.mp a;obtain⟨h2,e2⟩:=List.getElem?_eq_some_iff.mp b;exact(List.getElem_inj hN).mp (e1.trans e2.symm)
theorem oU{M:Model}{A:aG}{E:ae->af->Prop}{i:Nat}{x:Str}{v:V}{u:ae}{Q:Unit->af->Prop}(I:Inv X pins σ H s)(hN:X.N.Nodup)(hi:X.N[i]? = some x)(hx:Loc X.env.scope x)(r:RelV v u)
  (h:∀s',Inv X pins (σ.set i (some v)) H s'->(∃a,Heap.SameBut a s.heap s'.heap/\(a=X.env.locals\/X.env.cells.lookup x=some a))->Q () s') (hf:X.fn x=true\/X.env.scope.names.lookup x=some .local):ak M A (storeName X.env x u) Q E s:=by
 obtain⟨m,hn,hl⟩:=id I.loc;have IG:(X.env.scope.kind==.class||(X.env.scope.kind==.module&&X.env.locals != X.env.globals))=false:=by rw[I.ok.kind];rfl
 have hiσ:i<σ.length:=by rw[I.len];exact(List.getElem?_eq_some_iff.mp hi).1
 have cne:=I.cne;have tracked:∀{a:Addr}{h':Heap},(∃o,s.heap.get? a=some o/\H a=none)->Heap.SameBut a s.heap h'->HOk X.prog X.w H h':=λ{a h'} ha hs b ob e=>by
  obtain⟨_,_,Ir⟩:=ha;refine(I.hok b ob e).stay (λc w' hc q=>(hs.2 c ?_).trans q) (λ_ q=>q) λ_ _ q=>q
  rintro rfl;rcases hc with rfl|hc
  ·rw[Ir]at e;cases e
  ·rw[Ir]at hc;cases hc
 rcases hx with hk|hk
 ·refine wpAny_storeName_local hk hn (λh' HH hs=>?_) IG;obtain⟨oL,_,_,GJ,_⟩:=id hn;refine h _ ⟨I.ok,I.os,I.bare,⟨λb o e n hb hx=>?_,λb o e n hb hx=>?_,I.base.free,λb o e hx=>?_,I.base.tups,I.base.frzs,I.base.tbls⟩,⟨_,HH,λj y v' e1 e2 e3=>?_⟩,λy c e=>?_,I.free,I.freeC,λp hp=>?_,tracked ⟨oL,GJ,I.free⟩ hs,by simpa using I.len⟩ ⟨_,hs,.inl rfl⟩
  ·exact(hs.2 b (bg (bA (aM e) I.ok.above))).trans (I.base.keep b o e n hb hx)
  ·obtain⟨sl,e1⟩:=I.base.slot b o e n hb hx;exact⟨sl,(hs.2 b (bg (bA (aM e) I.ok.above))).trans e1⟩
  ·obtain⟨o',e1⟩:=I.base.there b o e hx;exact⟨o',(hs.2 b (bg (bA (aM e) I.ok.above))).trans e1⟩
  ·by_cases hj:j=i
   ·subst hj;rw[hi]at e1;cases e1;rw[List.getElem?_set_self hiσ]at e2;cases e2;exact⟨u,r,.inl ⟨hk,by simp⟩⟩
   ·rw[List.getElem?_set_ne (bH hj)]at e2;obtain⟨u',r',q⟩:=hl j y v' e1 e2 e3;refine⟨u',r',?_⟩;rcases q with ⟨k,e⟩|⟨k,c,e,z⟩
    ·refine .inl ⟨k,?_⟩;have:y≠x:=λe=>hj (rV hN e1 (e▸hi))
     simp[this,e]
    ·exact .inr ⟨k,c,e,z.sameBut hs (cne y c e)⟩
  ·obtain⟨w',z⟩:=I.cell y c e;exact⟨w',z.sameBut hs (cne y c e)⟩
  ·obtain⟨e,n,ne,nf,d⟩:=I.pin p hp;exact⟨(hs.2 p.1 ne).trans e,n,ne,nf,d⟩
 ·have Lm:X.fn x=true:=by
   rcases hf with z|z
   ·exact z
   ·rw[z]at hk;cases hk
  obtain⟨c,hc⟩:=I.ok.has x (.inl hk);obtain⟨w',z⟩:=I.cell x c hc;refine wpAny_storeName_cell I.ok.kind hk hc z (λh' IH hs=>?_);obtain⟨oc,ML,Ln⟩:=id z;refine h {s with heap:=h'} ⟨I.ok,I.os,I.bare,⟨λb o e n hb hx=>?_,λb o e n hb hx=>?_,I.base.free,λb o e hx=>?_,I.base.tups,I.base.frzs,I.base.tbls⟩,⟨m,hn.sameBut hs (bH (cne x c hc)),λj y v' e1 e2 e3=>?_⟩,λy c' e=>?_,I.free,I.freeC,λp hp=>?_,tracked ⟨oc,ML,I.freeC x c hc⟩ hs,by simpa using I.len⟩ ⟨c,hs,.inr hc⟩
  ·exact(hs.2 b (bg (bA (aM e) (I.ok.cab x c Lm hc)))).trans (I.base.keep b o e n hb hx)
  ·obtain⟨sl,e1⟩:=I.base.slot b o e n hb hx;exact⟨sl,(hs.2 b (bg (bA (aM e) (I.ok.cab x c Lm hc)))).trans e1⟩
  ·obtain⟨o',e1⟩:=I.base.there b o e hx;exact⟨o',(hs.2 b (bg (bA (aM e) (I.ok.cab x c Lm hc)))).trans e1⟩
  ·by_cases hj:j=i
   ·subst hj;rw[hi]at e1;cases e1;rw[List.getElem?_set_self hiσ]at e2;cases e2;exact⟨u,r,.inr ⟨.inl hk,c,hc,IH⟩⟩
   ·rw[List.getElem?_set_ne (bH hj)]at e2;obtain⟨u',r',q⟩:=hl j y v' e1 e2 e3;refine⟨u',r',?_⟩;rcases q with q|⟨k,c',e,z'⟩
    ·exact .inl q
    ·refine .inr ⟨k,c',e,z'.sameBut hs ?_⟩;rintro rfl;exact hj (rV hN e1 (I.ok.inj _ _ _ e hc▸hi))
  ·by_cases MM:c'=c
   ·subst MM;exact⟨_,IH⟩
   ·obtain⟨w2,z2⟩:=I.cell y c' e;exact⟨w2,z2.sameBut hs MM⟩
  ·obtain⟨e,n,ne,nf,d⟩:=I.pin p hp;refine⟨(hs.2 p.1 ?_).trans e,n,ne,nf,d⟩;intro q;rw[q,ML]at e;have q':oc=p.2:=bB e;exact d w' (by rw[<-q'];exact Ln)
theorem lD{M:Model}{A:aG}{E:ae->af->Prop}{i:Nat}{x:Str}{v:V}{u:ae}{Q:Unit->af->Prop}(I:Inv X pins σ H s)(hN:X.N.Nodup)(hi:X.N[i]? = some x)(hx:Loc X.env.scope x)(r:RelV v u)
  (h:∀s',Inv X pins (σ.set i (some v)) H s'->Q () s') (hf:X.fn x=true\/X.env.scope.names.lookup x=some .local):ak M A (storeName X.env x u) Q E s:=
 oU I hN hi hx r (λs' I' _=>h s' I') hf
theorem Inv.call'{s':af}{ch:List Addr}(I:Inv X pins σ H s)(ho:s'.os=s.os)(u:Un (frs X.stack) ch H H' s.heap s'.heap)(hok:HOk X.prog X.w H' s'.heap)(hg:AllBare s'.gens)
  (Ha:∀b∈ch,(b∈X.ex\/X.s₀.heap.objs.size<=b)/\b≠X.env.locals/\(∀x c,X.env.cells.lookup x=some c->c≠b)/\∀p∈X.pn++pins,p.1≠b):Inv X pins σ H' s':=by
 obtain⟨h',g',d',t',o'⟩:=s';have e:o'=s.os:=ho;subst e;exact I.call (g':=g') (t':=t') (d':=d') u hok hg Ha
end
abbrev XK:=ae->Option Addr->Hp->Prop
abbrev St:=List (Option V)
abbrev VK:=V->Hp->Prop
abbrev TE:=St->Hp->VK->Prop
abbrev TT:=St->Hp->(Bool->Hp->Prop)->Prop
abbrev TA:=St->Hp->(List V->Hp->Prop)->Prop
structure Ends where
 nx:St->Hp->Prop
 rt:VK
 bk:St->Hp->Prop:=λ_ _=>False
 ct:St->Hp->Prop:=λ_ _=>False
abbrev TS:=Ends->St->Hp->Prop
def EP(X:Cx)(pins:List (Addr×Obj))(σ:St)(Q:VK)(u:ae)(s':af):Prop:=∃v H',Inv X pins σ H' s'/\RelV v u/\Q v H'
def TP(X:Cx)(pins:List (Addr×Obj))(σ:St)(Q:Bool->Hp->Prop)(b:Bool)(s':af):Prop:=∃H',Inv X pins σ H' s'/\Q b H'
def AP(X:Cx)(pins:List (Addr×Obj))(σ:St)(Q:List V->Hp->Prop)(us:List ae)(s':af):Prop:=∃vs H',Inv X pins σ H' s'/\Vals vs us/\Q vs H'
def SP(X:Cx)(pins:List (Addr×Obj))(D:Ends)(f:Flow)(s':af):Prop:=
 match f with
 | .next=>∃σ' H',Inv X pins σ' H' s'/\D.nx σ' H'
 | .brk=>∃σ' H',Inv X pins σ' H' s'/\D.bk σ' H'
 | .cont=>∃σ' H',Inv X pins σ' H' s'/\D.ct σ' H'
 | .ret u=>∃v σ' H',Inv X pins σ' H' s'/\RelV v u/\D.rt v H'
def PE(X:Cx)(e:Expr)(t:TE):Prop:=
 ∀(pins:List (Addr×Obj)) (s:af) (σ:St) (H:Hp) (Q:VK),Inv X pins σ H s->t σ H Q->ak (ao X.prog X.w) X.A (eval e X.env) (EP X pins σ Q) X.xe s
def PT(X:Cx)(e:Expr)(t:TT):Prop:=
 ∀(pins:List (Addr×Obj)) (s:af) (σ:St) (H:Hp) (Q:Bool->Hp->Prop),Inv X pins σ H s->t σ H Q->ak (ao X.prog X.w) X.A (isTrue e X.env (eval e X.env)) (TP X pins σ Q) X.xe s
def PW(X:Cx)(e:Expr)(t:TT):Prop:=
 ∀(whole:Sem ae) (pins:List (Addr×Obj)) (s:af) (σ:St) (H:Hp) (Q:Bool->Hp->Prop),Inv X pins σ H s->t σ H Q->ak (ao X.prog X.w) X.A (isTrue e X.env whole) (TP X pins σ Q) X.xe s
theorem PW.pt{X:Cx}{e:Expr}{t:TT}(h:PW X e t):PT X e t:=h _
def PA(X:Cx)(es:List Expr)(t:TA):Prop:=
 ∀(pos:Pos) (pins:List (Addr×Obj)) (s:af) (σ:St) (H:Hp) (Q:List V->Hp->Prop),Inv X pins σ H s->t σ H Q->ak (ao X.prog X.w) X.A (spliced (backTo pos (aV es X.env))) (AP X pins σ Q) X.xe s
def PS(X:Cx)(st:Stmt)(t:TS):Prop:=
 ∀(pins:List (Addr×Obj)) (s:af) (σ:St) (H:Hp) (D:Ends),Inv X pins σ H s->t D σ H->ak (ao X.prog X.w) X.A (exec st X.env) (SP X pins D) X.xe s
def PSs(X:Cx)(st:List Stmt)(t:TS):Prop:=
 ∀(pins:List (Addr×Obj)) (s:af) (σ:St) (H:Hp) (D:Ends),Inv X pins σ H s->t D σ H->ak (ao X.prog X.w) X.A (execs st X.env) (SP X pins D) X.xe s
theorem thn{α:Type}{t:Sem α}{Q Q':α->af->Prop}{M:Model}{A:aG}{E:ae->af->Prop}{s:af}(h:ak M A t Q E s)(hQ:∀a s,Q a s->Q' a s):ak M A t Q' E s:=bK h hQ λ_ _ x=>x
section
variable{X:Cx}
theorem bin{a b:Expr}{ta tb:TE}(ha:PE X a ta)(hb:PE X b tb){pins:List (Addr×Obj)}{s:af}{σ:St}{H:Hp}{R:V->V->Hp->Prop}(I:Inv X pins σ H s)(h:ta σ H λx H1=>tb σ H1 λy H2=>R x y H2)
  {α:Type}{Q:α->af->Prop}{f:ae->ae->Sem α}
  (hf:∀v u s2 x y H2,Inv X pins σ H2 s2->RelV x v->RelV y u->R x y H2->ak (ao X.prog X.w) X.A (f v u) Q X.xe s2) :
  ak (ao X.prog X.w) X.A (eval a X.env) (λv s₁=>ak (ao X.prog X.w) X.A (eval b X.env) (λu s₂=>ak (ao X.prog X.w) X.A (f v u) Q X.xe s₂) X.xe s₁) X.xe s:=by
 refine thn (ha pins s σ H _ I h) λv s1 ⟨x,H1,I1,r1,q1⟩=>?_
 refine thn (hb pins s1 σ H1 _ I1 q1) λu s2 ⟨y,H2,I2,r2,q2⟩=>?_
 exact hf v u s2 x y H2 I2 r1 r2 q2
def iR(i:Nat):TE:=λσ H Q=>∃v,σ[i]? = some (some v)/\Q v H
def tC(v:V):TE:=λ_ H Q=>Q v H
theorem jT{i:Nat}{x:Str}{pos:Pos}(hN:X.N[i]? = some x)(hv:gY X.env.scope x)(hd:(x==("__debug__" : Str))=false)(GO:(x==("__classdict__" : Str))=false):PE X (.Name x pos) (iR i):=by
 intro pins s σ H Q I h;obtain⟨v,e,h⟩:=h;obtain⟨m,hn,hl⟩:=I.loc;obtain⟨u,r,l⟩:=hl i x v hN e hv;have fin:EP X pins σ Q u s:=⟨v,H,I,r,h⟩
 rcases l with ⟨hk,hm⟩|⟨hk,c,hc,Iu⟩
 ·exact wpAny_Name (wpAny_loadName_local I.ok.kind hk hn hm fin) hd
 ·rcases hk with hk|hk
  ·exact wpAny_Name (wpAny_loadName_cell I.ok.kind hk hc Iu fin) hd
  ·exact wpAny_Name (wpAny_loadName_free I.ok.kind hk hc Iu fin GO) hd
theorem o4{i j pos}:PE X (.Constant (.int i) j pos) (tC (.int i)):=λ_ _ _ H _ I h=>wpAny_Constant_int ⟨.int i,H,I.tok _,⟨_,rfl⟩,h⟩
theorem EC{b j pos}:PE X (.Constant (.bool b) j pos) (tC (.bl b)):=λ_ _ _ H _ I h=>Constant_bool ⟨.bl b,H,I,rfl,h⟩
theorem FA{j pos}:PE X (.Constant .none j pos) (tC .non):=λ_ _ _ H _ I h=>Constant_none ⟨.non,H,I,rfl,h⟩
theorem xV{x j pos}:PE X (.Constant (.str x) j pos) (tC (.str x)):=λ_ _ _ H _ I h=>Calls.Constant_str ⟨.str x,H,I.tok _,⟨_,rfl⟩,h⟩
def Gl(X:Cx)(x:Str):Prop:=X.env.kindOf x=some .globalImplicit
theorem gS{E:ae->af->Prop}{pins:List (Addr×Obj)}{s:af}{σ:St}{H:Hp}{x:Str}{u:ae}{pos:Pos}{Q:ae->af->Prop}(I:Inv X pins σ H s)(hg:Gl X x)(hm:X.mg x=some u)(h:Q u s)
  (hd:(x==("__debug__" : Str))=false):ak (ao X.prog X.w) X.A (eval (.Name x pos) X.env) Q E s:=
 Calls.Name_function_global I.ok.kind hg (Calls.loadGlobal_global (by rw[I.ok.glob];exact I.mod.glob.keeps I.bk) hm h) hd
theorem fm{E:ae->af->Prop}{pins:List (Addr×Obj)}{s:af}{σ:St}{H:Hp}{x:Str}{u:ae}{pos:Pos}{Q:ae->af->Prop}(I:Inv X pins σ H s)(hg:Gl X x)(hm:X.mg x=none)(hv:bT x=some u)(h:Q u s)
  (hn:x≠"__name__") (hd:(x==("__debug__" : Str))=false):ak (ao X.prog X.w) X.A (eval (.Name x pos) X.env) Q E s:=by
 obtain⟨mb,h1,h2⟩:=I.mod.blt;exact Calls.Name_function_global I.ok.kind hg (Calls.loadGlobal_builtin (by rw[I.ok.glob];exact I.mod.glob.keeps I.bk) hm (by rw[I.ok.blt];exact h1.keeps I.bk) ((h2 x hn).trans hv) h) hd
theorem kh{x:Str}{v:V}{u:ae}{pos:Pos}(hg:Gl X x)(hm:X.mg x=some u)(r:RelV v u)(hd:(x==("__debug__" : Str))=false):PE X (.Name x pos) (tC v):=
 λ_ _ _ H _ I h=>gS I hg hm ⟨v,H,I,r,h⟩ hd
theorem Bt{x:Str}{v:V}{u:ae}{pos:Pos}(hg:Gl X x)(hm:X.mg x=none)(hv:bT x=some u)(r:RelV v u)(hn:x≠"__name__")(hd:(x==("__debug__" : Str))=false):PE X (.Name x pos) (tC v):=
 λ_ _ _ H _ I h=>fm I hg hm hv ⟨v,H,I,r,h⟩ hn hd
variable{a b:Expr}{ta tb:TE}{pos:Pos}
variable{tA tB':TT}{rest:List Expr}
def E1(t u:TT):TT:=λσ H Q=>t σ H λc H1=>if c=true then u σ H1 Q else Q false H1
def tOr(t u:TT):TT:=λσ H Q=>t σ H λc H1=>if c=true then Q true H1 else u σ H1 Q
def vT(t:TT):TT:=λσ H Q=>t σ H λc H1=>Q (!c) H1
theorem BK(ha:PT X a tA):PW X (.BoolOp .And [a] pos) tA:=by
 intro wh pins s σ H Q I h;refine isTrue_and (thn (ha pins s σ H Q I h) λc s1 e=>?_);cases c with
 |true=>exact isTrue_and_nil e
 |false=>exact e
theorem Em(ha:PT X a tA):PW X (.BoolOp .Or [a] pos) tA:=by
 intro wh pins s σ H Q I h;refine isTrue_or (thn (ha pins s σ H Q I h) λc s1 e=>?_);cases c with
 |false=>exact isTrue_or_nil e
 |true=>exact e
theorem wu(ha:PT X a tA)(hb:PW X (.BoolOp .And (b::rest) pos) tB'):PW X (.BoolOp .And (a::b::rest) pos) (E1 tA tB'):=by
 intro wh pins s σ H Q I h;refine isTrue_and (thn (ha pins s σ H _ I h) λc s1 ⟨H1,I1,q1⟩=>?_);cases c with
 |true=>exact hb wh pins s1 σ H1 Q I1 q1
 |false=>exact⟨H1,I1,q1⟩
theorem vC(ha:PT X a tA)(hb:PW X (.BoolOp .Or (b::rest) pos) tB'):PW X (.BoolOp .Or (a::b::rest) pos) (tOr tA tB'):=by
 intro wh pins s σ H Q I h;refine isTrue_or (thn (ha pins s σ H _ I h) λc s1 ⟨H1,I1,q1⟩=>?_);cases c with
 |true=>exact⟨H1,I1,q1⟩
 |false=>exact hb wh pins s1 σ H1 Q I1 q1
theorem CH(ha:PT X a tA):PT X (.UnaryOp .Not a pos) (vT tA):=by
 intro pins s σ H Q I h;exact isTrue_not (ha pins s σ H (λc H1=>Q (!c) H1) I h)
def B8(ta tb:TE):TE:=λσ H Q=>ta σ H λx H1=>∃c,x=.bl c/\if c=true then tb σ H1 Q else Q (.bl false) H1
def wA(ta tb:TE):TE:=λσ H Q=>ta σ H λx H1=>∃c,x=.bl c/\if c=true then Q (.bl true) H1 else tb σ H1 Q
def uK(ta:TE):TE:=λσ H Q=>ta σ H λx H1=>∃c,x=.bl c/\Q (.bl (!c)) H1
theorem AI{op}{t:TE}(h:PE X a t):PE X (.BoolOp op [a] pos) t:=λpins s σ H Q I hw=>BoolOp_one (h pins s σ H Q I hw)
theorem wJ(ha:PE X a ta)(hb:PE X (.BoolOp .And (b::rest) pos) tb):PE X (.BoolOp .And (a::b::rest) pos) (B8 ta tb):=by
 intro pins s σ H Q I h;refine BoolOp_and (thn (ha pins s σ H _ I h) λv s1 ⟨x,H1,I1,r1,q1⟩=>?_);obtain⟨c,rfl,q1⟩:=q1;cases r1;refine bP ?_;cases c with
 |true=>exact hb pins s1 σ H1 Q I1 q1
 |false=>exact⟨.bl false,H1,I1,rfl,q1⟩
theorem ur(ha:PE X a ta)(hb:PE X (.BoolOp .Or (b::rest) pos) tb):PE X (.BoolOp .Or (a::b::rest) pos) (wA ta tb):=by
 intro pins s σ H Q I h;refine BoolOp_or (thn (ha pins s σ H _ I h) λv s1 ⟨x,H1,I1,r1,q1⟩=>?_);obtain⟨c,rfl,q1⟩:=q1;cases r1;refine bP ?_;cases c with
 |false=>exact hb pins s1 σ H1 Q I1 q1
 |true=>exact⟨.bl true,H1,I1,rfl,q1⟩
theorem BU(ha:PE X a ta):PE X (.UnaryOp .Not a pos) (uK ta):=by
 intro pins s σ H Q I h;refine UnaryOp_ (thn (ha pins s σ H _ I h) λv s1 ⟨x,H1,I1,r1,q1⟩=>?_);obtain⟨c,rfl,q1⟩:=q1;cases r1;exact not_of (bP ⟨.bl (!c),H1,I1,rfl,q1⟩)
def tIf(t:TT)(ta tb:TE):TE:=λσ H Q=>t σ H λc H1=>if c=true then ta σ H1 Q else tb σ H1 Q
theorem vi{c:Expr}(hc:PT X c tA)(ha:PE X a ta)(hb:PE X b tb):PE X (.IfExp c a b pos) (tIf tA ta tb):=by
 intro pins s σ H Q I h;refine wpAny_IfExp (thn (hc pins s σ H _ I h) λd s1 ⟨H1,I1,q1⟩=>?_);cases d with
 |true=>exact ha pins s1 σ H1 Q I1 q1
 |false=>exact hb pins s1 σ H1 Q I1 q1
end
def SqL(K:az)(H:Hp)(a:Addr)(xs:List V):Prop:=
 Rd H a (.lst xs) \/
  ∃(o:Obj) (its:Array ae) (n:Nat),K.lookup a=some o/\o.cls=.type "list"/\o.dict=none/\o.data=.seq its n/\its.size<=aR/\Vals xs its.toList
def SqT(K:az)(H:Hp)(a:Addr)(xs:List V):Prop:=
 Rd H a (.tup xs) \/
  ∃(o:Obj) (its:Array ae) (n:Nat),K.lookup a=some o/\o.cls=.type "tuple"/\o.data=.seq its n/\its.size<=aR/\Vals xs its.toList
noncomputable def Cf:ae->Option V
 | .none=>some .non
 | .bool b=>some (.bl b)
 | .int i _=>some (.int i)
 | .str x _=>some (.str x)
 | .bytes b _=>some (.byt b)
 | .float b _=>some (.flt b)
 | .ref a=>some (.ref a)
 | .type n=>some (.ty n)
 |_=>none
theorem RelV.abs{x:V}{u:ae}(r:RelV x u):Cf u=some x:=by
 cases x with
 |non=>cases r;rfl
 |bl _=>cases r;rfl
 |int _=>obtain⟨t,rfl⟩:=r;rfl
 |str _=>obtain⟨t,rfl⟩:=r;rfl
 |byt _=>obtain⟨t,rfl⟩:=r;rfl
 |flt _=>obtain⟨t,rfl⟩:=r;rfl
 |ref _=>cases r;rfl
 |ty _=>cases r;rfl
theorem RelV.inj{x y:V}{u:ae}(r:RelV x u)(q:RelV y u):x=y:=bB (r.abs.symm.trans q.abs)
theorem Vals.inj{xs ys:List V}{us:List ae}(h:Vals xs us)(h':Vals ys us):xs=ys:=by
 induction h generalizing ys with
 |nil=>cases h';rfl
 |cons r t ih=>cases h' with
  |cons r' t'=>rw[r.inj r',ih t']
section
variable{X:Cx}{pins:List (Addr×Obj)}{σ:St}{H:Hp}{s:af}{a:Addr}{xs ys:List V}
theorem SqL.of{K:az}(h:H a=some (.lst xs)):SqL K H a xs:=.inl (.inl h)
theorem SqT.of{K:az}(h:H a=some (.tup xs)):SqT K H a xs:=.inl (.inl h)
theorem Inv.list(I:Inv X pins σ H s)(h:SqL X.K H a xs):∃its:List ae,Vals xs its/\PlainL s.heap a its.toArray/\xs.length<=sizeLine:=by
 rcases h with h|⟨o,its,n,hk,hc,hd,hs,hz,r⟩
 ·obtain⟨z,its,n,r,e⟩:=h.ok I.hok;exact⟨its,r,⟨_,n,e,rfl,rfl,rfl⟩,z⟩
 ·refine⟨its.toList,r,⟨o,n,I.kIn a o hk,hc,hd,by simpa using hs⟩,?_⟩;have e:=r.length;simp only[a_]at e;lia
theorem Inv.tuple(I:Inv X pins σ H s)(h:SqT X.K H a xs):∃its:List ae,Vals xs its/\IsTup s.heap a its.toArray/\xs.length<=sizeLine:=by
 rcases h with h|⟨o,its,n,hk,hc,hs,hz,r⟩
 ·obtain⟨z,its,r,p⟩:=h.ok I.hok;exact⟨its,r,p,z⟩
 ·refine⟨its.toList,r,⟨o,I.kIn a o hk,hc,n,by simpa using hs⟩,?_⟩;have e:=r.length;simp only[a_]at e;lia
theorem Inv.list_inj(I:Inv X pins σ H s)(h:SqL X.K H a xs)(h':SqL X.K H a ys):xs=ys:=by
 obtain⟨its,r,⟨o,n,e,_,_,d⟩,_⟩:=I.list h;obtain⟨its',r',⟨o',n',e',_,_,d'⟩,_⟩:=I.list h';rw[e]at e';cases e';rw[d]at d';injection d' with d1 _
 have:its=its':=by simpa using congrArg Array.toList d1
 subst this;exact r.inj r'
theorem Inv.tuple_inj(I:Inv X pins σ H s)(h:SqT X.K H a xs)(h':SqT X.K H a ys):xs=ys:=by
 obtain⟨its,r,⟨o,e,_,n,d⟩,_⟩:=I.tuple h;obtain⟨its',r',⟨o',e',_,n',d'⟩,_⟩:=I.tuple h';rw[e]at e';cases e';rw[d]at d';injection d' with d1 _
 have:its=its':=by simpa using congrArg Array.toList d1
 subst this;exact r.inj r'
end
abbrev Cx.wish(X:Cx)(E:ae->af->Prop):Cx:={X with xe:=E}
abbrev Cx.nox(X:Cx):Cx:=X.wish λ_ _=>False
theorem Cx.Ok.wish{X:Cx}(ok:X.Ok)(E:ae->af->Prop):(X.wish E).Ok:=
 ⟨ok.mod,ok.kind,ok.glob,ok.blt,ok.above,ok.inj,ok.has,ok.cab,ok.hd,ok.frames,ok.stk,ok.exf,ok.bs,ok.bsz,ok.noex,ok.exfs,ok.funs,ok.frf⟩
theorem Cx.Ok.unwish{X:Cx}{E:ae->af->Prop}(ok:(X.wish E).Ok):X.Ok:=
 ⟨ok.mod,ok.kind,ok.glob,ok.blt,ok.above,ok.inj,ok.has,ok.cab,ok.hd,ok.frames,ok.stk,ok.exf,ok.bs,ok.bsz,ok.noex,ok.exfs,ok.funs,ok.frf⟩
section
variable{X:Cx}{pins:List (Addr×Obj)}{σ:St}{H:Hp}{s:af}{E:ae->af->Prop}
theorem Inv.wish(I:Inv X pins σ H s)(E:ae->af->Prop):Inv (X.wish E) pins σ H s:=⟨I.ok.wish E,I.os,I.bare,I.base,I.loc,I.cell,I.free,I.freeC,I.pin,I.hok,I.len⟩
theorem Inv.unwish(I:Inv (X.wish E) pins σ H s):Inv X pins σ H s:=⟨I.ok.unwish,I.os,I.bare,I.base,I.loc,I.cell,I.free,I.freeC,I.pin,I.hok,I.len⟩
theorem SP.unwish{D:Ends}{f:Flow}{s':af}(h:SP (X.wish E) pins D f s'):SP X pins D f s':=by
 cases f with
 |next=>obtain⟨σ',H',I,q⟩:=h;exact⟨σ',H',I.unwish,q⟩
 |brk=>obtain⟨σ',H',I,q⟩:=h;exact⟨σ',H',I.unwish,q⟩
 |cont=>obtain⟨σ',H',I,q⟩:=h;exact⟨σ',H',I.unwish,q⟩
 |ret u=>obtain⟨v,σ',H',I,r,q⟩:=h;exact⟨v,σ',H',I.unwish,r,q⟩
end
section
variable{X:Cx}{st:Stmt}{rest:List Stmt}{t u:TS}{e:Expr}{te:TE}{pos:Pos}
def kx:TS:=λD σ H=>D.nx σ H
def yu(t u:TS):TS:=λD σ H=>t {D with nx:=u D} σ H
theorem xn:PSs X [] kx:=λ_ _ σ H _ I h=>wpAny_execs_nil ⟨σ,H,I,h⟩
theorem B'(h1:PS X st t)(h2:PSs X rest u):PSs X (st::rest) (yu t u):=by
 intro pins s σ H D I h;refine wpAny_execs_cons (thn (h1 pins s σ H {D with nx:=u D} I h) λf s1 q=>?_);cases f with
 |next=>
  obtain⟨σ',H',I',q⟩:=q;exact h2 pins s1 σ' H' D I' q
 |ret v=>exact q
 |brk=>exact q
 |cont=>exact q
theorem Inv.quiet{pins:List (Addr×Obj)}{σ:St}{H:Hp}{s:af}(I:Inv X pins σ H s):interactive X.env=false:=by simp[interactive,I.ok.kind]
def wz(te:TE):TS:=λD σ H=>te σ H λ_ H1=>D.nx σ H1
theorem tL(he:PE X e te)(hs:swapsWith e none pos.line X.env=pure false):PS X (.Expr e pos) (wz te):=by
 intro pins s σ H D I h;exact wpAny_Expr_any (thn (he pins s σ H _ I h) λv s1 ⟨x,H1,I1,r1,q1⟩=>⟨σ,H1,I1,q1⟩) I.quiet hs
def ET(te:TE):TS:=λD σ H=>te σ H D.rt
theorem rE(he:PE X e te):PS X (.Return (some e) pos) (ET te):=by
 intro pins s σ H D I h;exact wpAny_Return_some (thn (he pins s σ H _ I h) λv s1 ⟨x,H1,I1,r1,q1⟩=>⟨x,σ,H1,I1,r1,q1⟩)
def Az:TS:=λD _ H=>D.rt .non H
theorem xw:PS X (.Return none pos) Az:=λ_ _ σ H _ I h=>wpAny_Return_none ⟨.non,σ,H,I,rfl,h⟩
def jF(c:TT)(t u:TS):TS:=λD σ H=>c σ H λb H1=>if b=true then t D σ H1 else u D σ H1
theorem FT{c:Expr}{a b:List Stmt}{tc:TT}(hc:PT X c tc)(ha:PSs X a t)(hb:PSs X b u):PS X (.If c a b pos) (jF tc t u):=by
 intro pins s σ H D I h;refine wpAny_If (thn (hc pins s σ H _ I h) λd s1 ⟨H1,I1,q1⟩=>?_);cases d with
 |true=>exact ha pins s1 σ H1 D I1 q1
 |false=>exact hb pins s1 σ H1 D I1 q1
end
abbrev TG:=V->St->Hp->(St->Hp->Prop)->Prop
abbrev TGs:=List V->St->Hp->(St->Hp->Prop)->Prop
def PG(X:Cx)(target:Expr)(t:TG):Prop:=
 ∀(pins:List (Addr×Obj)) (s:af) (σ:St) (H:Hp) (v:V) (u:ae) (Q:St->Hp->Prop),Inv X pins σ H s->RelV v u->t v σ H Q ->
  ak (ao X.prog X.w) X.A (assign target X.env u) (λ_ s'=>∃σ' H',Inv X pins σ' H' s'/\Q σ' H') X.xe s
def PGs(X:Cx)(ts:List Expr)(t:TGs):Prop:=
 ∀(pins:List (Addr×Obj)) (s:af) (σ:St) (H:Hp) (vs:List V) (us:List ae) (Q:St->Hp->Prop),Inv X pins σ H s->Vals vs us->t vs σ H Q ->
  ak (ao X.prog X.w) X.A (assignInOrder ((assignEach ts X.env).map (·.2)) us) (λ_ s'=>∃σ' H',Inv X pins σ' H' s'/\Q σ' H') X.xe s
abbrev l9:=V->V->V->Hp->(Hp->Prop)->Prop
def pQ(X:Cx)(t:l9):Prop:=
 ∀(pins:List (Addr×Obj)) (s:af) (σ:St) (H:Hp) (o i v:V) (ov iv u:ae) (Q:Hp->Prop),Inv X pins σ H s->RelV o ov->RelV i iv->RelV v u->t o i v H Q ->
  ak (ao X.prog X.w) X.A (setItem ov iv u) (λ_ s'=>∃H',Inv X pins σ H' s'/\Q H') X.xe s
section
variable{X:Cx}{pos:Pos}
def f_(i:Nat):TG:=λv σ H Q=>Q (σ.set i (some v)) H
theorem FX{i:Nat}{x:Str}(hN:X.N.Nodup)(hi:X.N[i]? = some x)(hx:Loc X.env.scope x)(hf:X.fn x=true\/X.env.scope.names.lookup x=some .local):PG X (.Name x pos) (f_ i):=by
 intro pins s σ H v u Q I r h;exact wpAny_assign_Name (lD I hN hi hx r (λs' I'=>⟨_,H,I',h⟩) hf)
def nV:TGs:=λvs σ H Q=>vs=[]/\Q σ H
def p9(t:TG)(u:TGs):TGs:=λvs σ H Q=>∃v r,vs=v::r/\t v σ H λσ' H'=>u r σ' H' Q
theorem FO:PGs X [] nV:=by
 intro pins s σ H vs us Q I r h;obtain⟨e,h⟩:=h;subst e;cases r;exact assignInOrder_nil ⟨σ,H,I,h⟩
theorem DO{e:Expr}{es:List Expr}{t:TG}{u:TGs}(h1:PG X e t)(h2:PGs X es u)
  (hs:(assignEach (e::es) X.env).map (·.2)=assign e X.env::(assignEach es X.env).map (·.2)):PGs X (e::es) (p9 t u):=by
 intro pins s σ H vs us Q I r h;obtain⟨v,vr,e1,h⟩:=h;subst e1;cases r with
 |cons r rr=>
  rw[hs];refine assignInOrder_cons (thn (h1 pins s σ H _ _ _ I r h) λ_ s1 ⟨σ1,H1,I1,q1⟩=>?_);exact h2 pins s1 σ1 H1 _ _ Q I1 rr q1
def rG(K:az)(n:Nat)(t:TGs):TG:=λv σ H Q=>∃a xs,v=.ref a/\SqT K H a xs/\xs.length=n/\t xs σ H Q
theorem Bu{es:List Expr}{k:Nat}{t:TGs}{n:Nat}(hc:X.calm=true)(h:PGs X es t)
  (hn:(assignEach es X.env).length=n) (GR:(assignEach es X.env).findIdx? (·.1)=none):PG X (.Tuple es k pos) (rG X.K n t):=by
 intro pins s σ H v u Q I r hw;obtain⟨a,xs,e1,hq,hl,hw⟩:=hw;subst e1;cases r;obtain⟨its,rv,ht,hz⟩:=I.tuple hq;refine assign_Tuple_tuple (I.ok.hd hc) ht (by simp[hn,<-hl,rv.length]) GR λh' hx=>?_
 have I1:Inv X pins σ H {s with heap:=h'}:=I.kept (t':=s.toks) λb o e=>hx b o (bg (aM e)) e
 exact h pins _ σ H xs _ Q I1 (by simpa using rv) hw
def nR(to ti:TE)(t:l9):TG:=λv σ H Q=>to σ H λo H1=>ti σ H1 λi H2=>t o i v H2 λH3=>Q σ H3
theorem CT{o i:Expr}{to ti:TE}{t:l9}(ho:PE X o to)(hi:PE X i ti)(hs:pQ X t)
  (ha:∀v,assign (.Subscript o i pos) X.env v=(do
   let ov <-holding [v] (eval o X.env)
   let iv <-holding [v,ov] (eval i X.env)
   standAt pos
   holding [v,ov,iv] (setItem ov iv v)
   release [v,ov,iv] [])):PG X (.Subscript o i pos) (nR to ti t):=by
 intro pins s σ H v u Q I r h;rw[ha];refine ag (b6 (thn (ho pins s σ H _ I h) λov s1 ⟨x,H1,I1,r1,q1⟩=>?_));refine ag (b6 (thn (hi pins s1 σ H1 _ I1 q1) λiv s2 ⟨y,H2,I2,r2,q2⟩=>?_));refine ag (wpAny_standAt (ag (b6 (thn (hs pins s2 σ H2 x y v ov iv u _ I2 r1 r2 r q2) λ_ s3 ⟨H3,I3,q3⟩=>?_))));exact wpAny_release ⟨σ,H3,I3,q3⟩
def jG(te:TE)(g:TG):TS:=λD σ H=>te σ H λx H1=>g x σ H1 D.nx
theorem tK{tg e:Expr}{te:TE}{g:TG}(he:PE X e te)(hg:PG X tg g)(hs:swapsWithSole [tg] e pos.line X.env=pure false)(hw:swappedStores [tg] e X.env=pure none)
  (h1:(assignEach [tg] X.env).map (·.2)=[assign tg X.env]):PS X (.Assign [tg] e pos) (jG te g):=by
 intro pins s σ H D I h;refine wpAny_Assign_stores (thn (he pins s σ H _ I h) λv s1 ⟨x,H1,I1,r1,q1⟩=>?_) hs hw;rw[h1];exact thn (hg pins s1 σ H1 x v _ I1 r1 q1) λ_ s2 q=>q
theorem mP{i:Nat}{x:Str}{e:Expr}{te:TE}{pos':Pos}(hN:X.N.Nodup)(hi:X.N[i]? = some x)(hx:Loc X.env.scope x)(he:PE X e te)(hs:swapsWith e (some (.Name x pos')) pos.line X.env=pure false)(hf:X.fn x=true\/X.env.scope.names.lookup x=some .local) :
  PS X (.Assign [.Name x pos'] e pos) (jG te (f_ i)):=by
 intro pins s σ H D I h;refine wpAny_Assign_Name (thn (he pins s σ H _ I h) λv s1 ⟨y,H1,I1,r1,q1⟩=>?_) hs;exact lD I1 hN hi hx r1 (λs2 I2=>⟨_,H1,I2,q1⟩) hf
end
section
variable{X:Cx}{pos:Pos}
end
structure It where
 go:Nat->Hp->Prop
 yld:Nat->Hp->V->Hp->Prop
 stop:Nat->Hp->Prop
def dU(X:Cx)(pins:List (Addr×Obj))(H:Hp)(b:Addr):Prop:=
 H b=none/\b≠X.env.locals/\b∉X.fs/\(b∈X.ex\/X.s₀.heap.objs.size<=b)/\(∀x c,X.env.cells.lookup x=some c->c≠b)/\∀p∈X.pn++pins,p.1≠b
theorem Inv.fpOk{X:Cx}{pins:List (Addr×Obj)}{σ:St}{H H':Hp}{s:af}{b:Addr}(I:Inv X pins σ H s)(hb:s.heap.objs.size<=b)(hn:H' b=none):dU X pins H' b:=by
 refine⟨hn,Nat.ne_of_gt (bA I.lt hb),I.nofs hb,.inr (br I.sz hb),λx c e z=>?_,λp hp z=>?_⟩
 ·obtain⟨v,q⟩:=I.cell x c e;exact absurd (bA q.lt (by rw[z];exact hb)) (bS _)
 ·exact absurd (bA (aM (I.pin p hp).1) (by rw[z];exact hb)) (bS _)
structure Turn(P:aF)(w:aB)(K:az)(tg:Expr)(J:It)(fp:List Addr)(it:Addr)(tn:Nat->Heap->Prop):Prop where
 mem:it∈fp
 obj:∀i h,tn i h->∀b∈fp,∃o,h.get? b=some o/\∀v,o.data≠.cell v
 keep:∀i h h',tn i h->(∀b∈fp,∀o,h.get? b=some o->h'.get? b=some o)->tn i h'
 item:∀(X:Cx),X.prog=P->X.w=w->X.K=K->X.calm=true->∀(i:Nat) (pins:List (Addr×Obj)) (s:af) (σ:St) (H:Hp) (E:ae->af->Prop),Inv X pins σ H s->(∀b∈fp,dU X pins H b)->tn i s.heap->J.go i H ->
  ak (ao P w) X.A (pyNext (.ref it)) (λr s1=>∃u,r=some u /\
   ak (ao P w) X.A (letOwnedTupleGo tg (.ref it) u) (λ_ s2=>∃x H',Inv X pins σ H' s2/\RelV x u/\J.yld i H x H'/\tn (i+1) s2.heap/\∀b∈fp,H' b=none) E s1) E s
 done:∀(X:Cx),X.prog=P->X.w=w->X.K=K->X.calm=true->∀(i:Nat) (pins:List (Addr×Obj)) (s:af) (σ:St) (H:Hp) (E:ae->af->Prop),Inv X pins σ H s->(∀b∈fp,dU X pins H b)->tn i s.heap->J.stop i H ->
  ak (ao P w) X.A (pyNext (.ref it)) (λr s1=>r=none/\Inv X pins σ H s1) E s
 self:∀(A:aG) (i:Nat) (s:af) (Q:ae->af->Prop) (E:ae->af->Prop),tn i s.heap->Q (.ref it) s->ak (ao P w) A (pyIter (.ref it)) Q E s
abbrev TI:=St->Hp->(It->Hp->Prop)->Prop
def PIE(X:Cx)(pins:List (Addr×Obj))(σ:St)(tg:Expr)(R:It->Hp->Prop)(II:ae)(s2:af):Prop:=
 ∃(it:Addr) (fp:List Addr) (tn:Nat->Heap->Prop) (J:It) (H':Hp),II=.ref it/\Inv X pins σ H' s2/\Turn X.prog X.w X.K tg J fp it tn/\tn 0 s2.heap/\(∀b∈fp,dU X pins H' b)/\R J H'
def PI(X:Cx)(tg iter:Expr)(wi:TI):Prop:=
 ∀(pins:List (Addr×Obj)) (s:af) (σ:St) (H:Hp) (R:It->Hp->Prop),Inv X pins σ H s->wi σ H R ->
  ak (ao X.prog X.w) X.A (eval iter X.env) (λv s1=>ak (ao X.prog X.w) X.A (pyIter v) (PIE X pins σ tg R) X.xe s1) X.xe s
theorem kN{M:Model}{A:aG}{E:ae->af->Prop}{s:af}{tg:Expr}{it:Addr}{u:ae}{o:Obj}{n:String}{vs:Array ae}{Q:Unit->af->Prop}(ho:s.heap.get? it=some o)(hc:o.cls=.type n)(hd:o.data=.fields vs)
  (hn:["enumerate","zip","dict_itemiterator","dict_reverseitemiterator","odict_iterator","itertools.zip_longest","itertools.pairwise"].contains n=false) (hQ:Q () s):ak M A (letOwnedTupleGo tg (.ref it) u) Q E s:=by
 unfold letOwnedTupleGo;cases tg<;>first
  |exact aA hQ
  | (cases u<;>first
    |exact aA hQ
    | (refine ag (wpAny_load ho ?_)
       rw[hc,hd];show ak M A (if (["enumerate","zip","dict_itemiterator","dict_reverseitemiterator","odict_iterator","itertools.zip_longest","itertools.pairwise"].contains n&&vs[0]? == some (rawInt _))=true then _ else _) Q E s;rw[if_neg (by intro h;rw[hn,Bool.false_and]at h;cases h)];exact aA hQ))
noncomputable def Itl(K:az)(a:Addr):It:=
 ⟨λi H=>∃xs x,SqL K H a xs/\xs[i]? = some x,λi H x H'=>H'=H/\∀xs,SqL K H a xs->xs[i]? = some x,λi H=>∃xs,SqL K H a xs/\xs.length<=i⟩
noncomputable def Itt(K:az)(a:Addr):It:=
 ⟨λi H=>∃xs x,SqT K H a xs/\xs[i]? = some x,λi H x H'=>H'=H/\∀xs,SqT K H a xs->xs[i]? = some x,λi H=>∃xs,SqT K H a xs/\xs.length<=i⟩
noncomputable def Itr(lo:Int)(n:Nat):It:=⟨λi _=>i<n,λi H x H'=>H'=H/\x=.int (lo+i),λi _=>n<=i⟩
theorem AG{P:aF}{w:aB}{K:az}{tg:Expr}(a it:Addr):Turn P w K tg (Itl K a) [it] it (λi h=>h.IsListIter it a i) where
 mem:=by simp
 obj:=λi h st b hb=>by
  have e:b=it:=by simpa using hb
  subst e;obtain⟨o,e,c,d⟩:=st;exact⟨o,e,λv z=>by rw[d]at z;cases z⟩
 keep:=λi h h' st k=>st.at λo e=>k it (by simp) o e
 item:=by
  intro X hP hw hK hc i pins s σ H E I hf st hg;subst hP hw hK;obtain⟨xs,x,hq,hx⟩:=hg;obtain⟨its,rv,p,hz⟩:=I.list hq;obtain⟨u,hu,ru⟩:=rv.get hx;obtain⟨f0,f1,f2,f3,f4,f5⟩:=hf it (by simp);refine wpAny_pyNext_list_item st p.isList (x:=u) (by simpa using hu) λh' st' sb=>?_
  have I1:Inv X pins σ H {s with heap:=h'}:=I.turned (t':=s.toks) (λb o hb e=>(sb.2 b hb).trans e) f0 f1 f3 f4 f5;obtain⟨o,e,c,d⟩:=id st';exact⟨u,rfl,kN (s:={s with heap:=h'}) e c d (by decide) ⟨x,H,I1,ru,⟨rfl,λys hy=>by rw[I.list_inj hy hq];exact hx⟩,st',λb hb=>(hf b hb).1⟩⟩
 done:=by
  intro X hP hw hK hc i pins s σ H E I hf st hg;subst hP hw hK;obtain⟨xs,hq,hx⟩:=hg;obtain⟨its,rv,p,hz⟩:=I.list hq;obtain⟨f0,f1,f2,f3,f4,f5⟩:=hf it (by simp);have hl:=rv.length;exact wpAny_pyNext_list_end (I.ok.hd hc) st p.isList (by simp;lia) λh' eb=>⟨rfl,I.turned (t':=s.toks) (λb o hb e=>eb b o hb e) f0 f1 f3 f4 f5⟩
 self:=λ_ _ _ _ _ st h=>wpAny_pyIter_listiter st h
theorem FH{P:aF}{w:aB}{K:az}{tg:Expr}(a it:Addr):Turn P w K tg (Itt K a) [it] it (λi h=>h.IsTupleIter it a i) where
 mem:=by simp
 obj:=λi h st b hb=>by
  have e:b=it:=by simpa using hb
  subst e;obtain⟨o,e,c,d⟩:=st;exact⟨o,e,λv z=>by rw[d]at z;cases z⟩
 keep:=λi h h' st k=>st.at λo e=>k it (by simp) o e
 item:=by
  intro X hP hw hK hc i pins s σ H E I hf st hg;subst hP hw hK;obtain⟨xs,x,hq,hx⟩:=hg;obtain⟨its,rv,p,hz⟩:=I.tuple hq;obtain⟨u,hu,ru⟩:=rv.get hx;obtain⟨f0,f1,f2,f3,f4,f5⟩:=hf it (by simp);refine wpAny_pyNext_tuple_item st (show s.heap.IsTuple a its.toArray from p) (x:=u) (by simpa using hu) λh' st' sb=>?_
  have I1:Inv X pins σ H {s with heap:=h'}:=I.turned (t':=s.toks) (λb o hb e=>(sb.2 b hb).trans e) f0 f1 f3 f4 f5;obtain⟨o,e,c,d⟩:=id st';exact⟨u,rfl,kN (s:={s with heap:=h'}) e c d (by decide) ⟨x,H,I1,ru,⟨rfl,λys hy=>by rw[I.tuple_inj hy hq];exact hx⟩,st',λb hb=>(hf b hb).1⟩⟩
 done:=by
  intro X hP hw hK hc i pins s σ H E I hf st hg;subst hP hw hK;obtain⟨xs,hq,hx⟩:=hg;obtain⟨its,rv,p,hz⟩:=I.tuple hq;obtain⟨f0,f1,f2,f3,f4,f5⟩:=hf it (by simp);have hl:=rv.length;exact wpAny_pyNext_tuple_end (I.ok.hd hc) st (show s.heap.IsTuple a its.toArray from p) (by simp;lia) λh' eb=>⟨rfl,I.turned (t':=s.toks) (λb o hb e=>eb b o hb e) f0 f1 f3 f4 f5⟩
 self:=λ_ _ _ _ _ st h=>wpAny_pyIter_tupleiter st h
theorem A'{P:aF}{w:aB}{K:az}{tg:Expr}(it:Addr)(lo:Int)(n:Nat):Turn P w K tg (Itr lo n) [it] it (λi h=>IsRangeIter h it (lo+(i:Nat) * 1) ((n:Int)-(i:Nat)) 1) where
 mem:=by simp
 obj:=λi h st b hb=>by
  have e:b=it:=by simpa using hb
  subst e;exact⟨_,st,λv z=>by
   have z':Data.fields _=Data.cell v:=z;cases z'⟩
 keep:=λi h h' st k=>k it (by simp) _ st
 item:=by
  intro X hP hw hK hc i pins s σ H E I hf st hg;subst hP hw hK;obtain⟨f0,f1,f2,f3,f4,f5⟩:=hf it (by simp);have W:=Walks.range (prog:=X.prog) (w:=X.w) (I.ok.hd hc) it lo 1 n;refine W.item i s _ _ hg st λv h' tk hv st' kk=>?_
  obtain⟨t,rfl⟩:=hv;have I1:Inv X pins σ H {s with heap:=h',toks:=tk}:=I.turned (λb o hb e=>kk b o (by simpa using hb) e) f0 f1 f3 f4 f5;refine⟨_,rfl,kN (s:={s with heap:=h',toks:=tk}) (n:="range_iterator") st' rfl rfl (by decide) ⟨.int (lo+i),H,I1,⟨t,?_⟩,⟨rfl,rfl⟩,st',λb hb=>(hf b hb).1⟩⟩;rw[Int.mul_one]
 done:=by
  intro X hP hw hK hc i pins s σ H E I hf st hg;subst hP hw hK;obtain⟨f0,f1,f2,f3,f4,f5⟩:=hf it (by simp);exact wpAny_pyNext_range_end (I.ok.hd hc) st (by have:n<=i:=hg;lia) λh' eb=>⟨rfl,I.turned (t':=s.toks) (λb o hb e=>eb b o hb e) f0 f1 f3 f4 f5⟩
 self:=λ_ _ _ _ _ st h=>wpAny_pyIter_rangeiter st h
section
variable{X:Cx}{tg:Expr}
def EX(K:az)(tl:TE):TI:=λσ H R=>tl σ H λx H1=>∃a,x=.ref a/\(∃xs,SqL K H1 a xs)/\R (Itl K a) H1
def wj(K:az)(tl:TE):TI:=λσ H R=>tl σ H λx H1=>∃a,x=.ref a/\(∃xs,SqT K H1 a xs)/\R (Itt K a) H1
theorem yW{l:Expr}{tl:TE}(hl:PE X l tl):PI X tg l (EX X.K tl):=by
 intro pins s σ H R I h;refine thn (hl pins s σ H _ I h) λv s1 ⟨x,H1,I1,r1,q1⟩=>?_
 obtain⟨a,e,⟨xs,hq⟩,q⟩:=q1;subst e;cases r1;obtain⟨its,rv,p,hz⟩:=I1.list hq;refine wpAny_pyIter_list p.isList ?_;refine⟨s1.heap.objs.size,[s1.heap.objs.size],_,_,H1,rfl,I1.kept (t':=s1.toks) λb o e=>Heap.get?_push_of_some _ e,AG a _,⟨_,Heap.get?_push_size _ rfl,rfl,rfl⟩,λb hb=>?_,q⟩;have e:b=s1.heap.objs.size:=by simpa using hb
 subst e;exact I1.fpOk (aH _) (I1.hok.fresh (aH _))
theorem Ag{l:Expr}{tl:TE}(hl:PE X l tl):PI X tg l (wj X.K tl):=by
 intro pins s σ H R I h;refine thn (hl pins s σ H _ I h) λv s1 ⟨x,H1,I1,r1,q1⟩=>?_
 obtain⟨a,e,⟨xs,hq⟩,q⟩:=q1;subst e;cases r1;obtain⟨its,rv,p,hz⟩:=I1.tuple hq;refine wpAny_pyIter_tuple (show s1.heap.IsTuple a its.toArray from p) ?_;refine⟨s1.heap.objs.size,[s1.heap.objs.size],_,_,H1,rfl,I1.kept (t':=s1.toks) λb o e=>Heap.get?_push_of_some _ e,FH a _,⟨_,Heap.get?_push_size _ rfl,rfl,rfl⟩,λb hb=>?_,q⟩;have e:b=s1.heap.objs.size:=by simpa using hb
 subst e;exact I1.fpOk (aH _) (I1.hok.fresh (aH _))
theorem t6{pins:List (Addr×Obj)}{σ:St}{H:Hp}{s:af}{R:It->Hp->Prop}{E:ae->af->Prop}{lo hi:Int}{t u v:Tok}{tk:Nat}(I:Inv X pins σ H s)(h1:-(2^62)<=lo)(h2:lo<2^62)(h3:-(2^62)<=hi)(h4:hi<2^62)
  (q:R (Itr lo (hi-lo).toNat) H):ak (ao X.prog X.w) X.A (pyIter (.ref s.heap.objs.size)) (PIE X pins σ tg R) E {s with heap:=s.heap.push {cls:=.type "range",data:=.fields #[.int lo t,.int hi u,.int 1 v]},toks:=tk}:=by
 refine wpAny_pyIter_range (IsRange.new ..) (small_one h1 h2 h3 h4) ?_;have I1:Inv X pins σ H {s with heap:=s.heap.push {cls:=.type "range",data:=.fields #[.int lo t,.int hi u,.int 1 v]},toks:=tk}:=I.kept λb o e=>Heap.get?_push_of_some _ e
 refine⟨(s.heap.push {cls:=.type "range",data:=.fields #[.int lo t,.int hi u,.int 1 v]}).objs.size,[(s.heap.push {cls:=.type "range",data:=.fields #[.int lo t,.int hi u,.int 1 v]}).objs.size],_,_,H,rfl,
  I1.kept (t':=tk) λb o e=>Heap.get?_push_of_some _ e,A' _ lo (hi-lo).toNat,?_,λb hb=>?_,q⟩
 ·have e1:lo+((0:Nat):Int) * 1=lo:=by simp
  have e2:(((hi-lo).toNat:Nat):Int)-((0:Nat):Int)=Builtin.Range.rangeSize lo hi 1:=by rw[rangeSize_one];split<;>lia
  show IsRangeIter _ _ (lo+((0:Nat):Int) * 1) ((((hi-lo).toNat:Nat):Int)-((0:Nat):Int)) 1;rw[e1,e2];exact Heap.get?_push_size _ rfl
 ·have e:b=(s.heap.push {cls:=.type "range",data:=.fields #[.int lo t,.int hi u,.int 1 v]}).objs.size:=by simpa using hb
  subst e;exact I1.fpOk (aH _) (I1.hok.fresh (aH _))
def Bl(ta:TA):TI:=λσ H R=>ta σ H λvs H1=>∃j:Int,vs=[.int j]/\-(2^62)<=j/\j<2^62/\R (Itr 0 j.toNat) H1
def Cb(ta:TA):TI:=λσ H R=>ta σ H λvs H1=>∃i j:Int,vs=[.int i,.int j]/\(-(2^62)<=i/\i<2^62/\-(2^62)<=j/\j<2^62)/\R (Itr i (j-i).toNat) H1
theorem yf{a:Expr}{ta:TA}{p pos:Pos}(hg:Gl X "range")(hm:X.mg "range" = none)(ha:PA X [a] ta)(hs:aV [a] X.env=[(false,eval a X.env)]):PI X tg (.Call (.Name "range" p) [a] [] pos) (Bl ta):=by
 intro pins s σ H R I h;refine Call_ (fm (hn:=by decide) (hd:=by decide) I hg hm boot_range (fJ (thn (ha pos pins s σ H _ I h) λus s1 ⟨vs,H1,I1,r1,q1⟩=>?_) hs rfl));obtain⟨j,e,q1,q2,q⟩:=q1;subst e;cases r1 with
 |cons r rr=>
  cases rr;obtain⟨t,rfl⟩:=r;exact call_range_1 (t6 I1 (by lia) (by lia) q1 q2 (by simpa using q))
theorem ED{a b:Expr}{ta:TA}{p pos:Pos}(hg:Gl X "range")(hm:X.mg "range" = none)(ha:PA X [a,b] ta)(hs:aV [a,b] X.env=[(false,eval a X.env),(false,eval b X.env)])(IJ:aV [b] X.env=[(false,eval b X.env)]) :
  PI X tg (.Call (.Name "range" p) [a,b] [] pos) (Cb ta):=by
 intro pins s σ H R I h;refine Call_ (fm (hn:=by decide) (hd:=by decide) I hg hm boot_range (fJ (thn (ha pos pins s σ H _ I h) λus s1 ⟨vs,H1,I1,r1,q1⟩=>?_) (by rw[hs,IJ]) (by rw[IJ];rfl)));obtain⟨i,j,e,⟨q1,q2,q3,q4⟩,q⟩:=q1;subst e;cases r1 with
 |cons r rr=>
  cases rr with
  |cons r' rr=>
   cases rr;obtain⟨t,rfl⟩:=r;obtain⟨t',rfl⟩:=r';exact call_range_2 (t6 I1 q1 q2 q3 q4 q)
def Du(wi:TI)(g:TG)(tb:TS):TS:=λD σ H=>wi σ H λJ H1=>∃W:Nat->Nat->St->Hp->Prop,(∃m,W 0 m σ H1)/\∀i m σ H,W i m σ H ->
 (J.stop i H/\D.nx σ H)\/(J.go i H/\∃N:St->Hp->Prop,(∀σ' H',N σ' H'->∃m',m'<m/\W (i+1) m' σ' H')/\∀x H',J.yld i H x H'->g x σ H' λσ2 H2=>tb {D with nx:=N,ct:=N,bk:=D.nx} σ2 H2)
noncomputable def iT(fp:List Addr)(h:Heap):List (Addr×Obj):=fp.filterMap λb=>(h.get? b).map λo=>(b,o)
theorem kq{fp:List Addr}{h:Heap}{b:Addr}{o:Obj}(hb:b∈fp)(e:h.get? b=some o):(b,o)∈iT fp h:=List.mem_filterMap.mpr ⟨b,hb,by rw[e];rfl⟩
theorem E9{fp:List Addr}{h:Heap}{p:Addr×Obj}(hp:p∈iT fp h):p.1∈fp/\h.get? p.1=some p.2:=by
 obtain⟨b,hb,e⟩:=List.mem_filterMap.mp hp;cases q:h.get? b with
 |none=>rw[q]at e;cases e
 |some o=>
  rw[q]at e;have e':(b,o)=p:=bB e;subst e';exact⟨hb,q⟩
theorem Inv.pinned{pins:List (Addr×Obj)}{σ:St}{H:Hp}{s:af}{fp:List Addr}(I:Inv X pins σ H s)(hf:∀b∈fp,dU X pins H b)(ho:∀b∈fp,∃o,s.heap.get? b=some o/\∀v,o.data≠.cell v):Inv X (pins++iT fp s.heap) σ H s:=
 I.pins_of λp hp=>(List.mem_append.mp hp).elim (λz=>I.pin p (cq _ z)) λz=>by
  obtain⟨hb,e⟩:=E9 z;obtain⟨f0,f1,f2,_⟩:=hf p.1 hb;obtain⟨o,e',d⟩:=ho p.1 hb;rw[e]at e';cases e';exact⟨e,f0,f1,f2,d⟩
theorem Inv.unpinned{pins pl:List (Addr×Obj)}{σ:St}{H:Hp}{s:af}(I:Inv X (pins++pl) σ H s):Inv X pins σ H s:=I.pins_of λp hp=>I.pin p (cq _ (List.mem_append_left _ hp))
theorem vF{iter:Expr}{body:List Stmt}{wi:TI}{g:TG}{tb:TS}{pos:Pos}(hp:PassesOwn (ao X.prog X.w) X.A X.env X.xe)(hc:X.calm=true)(hi:PI X tg iter wi)(hg:PG X tg g)(hb:PSs X body tb)
  (hs:∀x,foldedSetIterable iter X.env x=pure x):PS X (.For tg iter body [] pos) (Du wi g tb):=by
 intro pins s σ H D I h;refine wpAny_For (thn (hi pins s σ H _ I h) λv s1 h1=>thn h1 λII s2 h2=>?_) hs;obtain⟨it,fp,tn,J,H2,e,I2,T,Iv,f2,W,⟨m0,w0⟩,turn⟩:=h2;subst e
 -- what stays true of the iterator's objects through the loop
 have Hb:∀{H':Hp},(∀b∈fp,H' b=none)->∀b∈fp,dU X pins H' b:=λhn b hb=>⟨hn b hb,(f2 b hb).2⟩
 refine codeAny_forLoop_any (λn s'=>∃i σ' H',Inv X pins σ' H' s'/\tn i s'.heap/\(∀b∈fp,H' b=none)/\W i n σ' H') ?_ m0 ⟨0,σ,H2,I2,Iv,λb hb=>(f2 b hb).1,w0⟩;rintro n s3 ⟨i,σ3,H3,I3,G3,Jz,w3⟩;rcases turn i n σ3 H3 w3 with ⟨stop,qn⟩|⟨go,N,hN,step⟩
 ·refine wpAny_passesOwn hp (thn (T.done X rfl rfl rfl hc i pins s3 σ3 H3 X.xe I3 (Hb Jz) G3 stop) λr s4 ⟨hr,I4⟩=>?_);subst hr;exact wpAny_execs_nil ⟨σ3,H3,I4,qn⟩
 ·refine wpAny_passesOwn hp (thn (T.item X rfl rfl rfl hc i pins s3 σ3 H3 X.xe I3 (Hb Jz) G3 go) λr s4 ⟨u,hr,h4⟩=>?_);subst hr;refine wpAny_passesOwn hp (thn h4 λ_ s5 ⟨x,H5,I5,r5,y5,IK,Lo⟩=>?_);have I5':=I5.pinned (Hb Lo) (T.obj _ _ IK);refine wpAny_passesOwn hp (thn (hg _ s5 σ3 H5 x u _ I5' r5 (step x H5 y5)) λ_ s6 ⟨σ6,H6,I6,q6⟩=>?_);refine wpAny_passesOwn hp (thn (hb _ s6 σ6 H6 _ I6 q6) λf s7 q7=>?_);have again:∀{σ7:St}{H7:Hp},Inv X (pins++iT fp s5.heap) σ7 H7 s7->N σ7 H7->∃m,m<n/\∃i σ' H',Inv X pins σ' H' s7/\tn i s7.heap/\(∀b∈fp,H' b=none)/\W i m σ' H':=λ{σ7 H7} I7 n7=>by
   obtain⟨m',hm,w7⟩:=hN σ7 H7 n7;refine⟨m',hm,i+1,σ7,H7,I7.unpinned,T.keep _ _ _ IK λb hb o e=>(I7.pin (b,o) (cq _ (cq _ (kq hb e)))).1,λb hb=>?_,w7⟩;obtain⟨o,e,d⟩:=T.obj _ _ IK b hb;exact(I7.pin (b,o) (cq _ (cq _ (kq hb e)))).2.1
  cases f with
  |next=>obtain⟨σ7,H7,I7,n7⟩:=q7;exact again I7 n7
  |cont=>obtain⟨σ7,H7,I7,n7⟩:=q7;exact again I7 n7
  |brk=>obtain⟨σ7,H7,I7,q7⟩:=q7;exact⟨σ7,H7,I7.unpinned,q7⟩
  |ret v=>obtain⟨x7,σ7,H7,I7,r7,q7⟩:=q7;exact⟨x7,σ7,H7,I7.unpinned,r7,q7⟩
end
abbrev R2:=V->V->Hp->VK->Prop
def OpR(X:Cx)(f:ae->ae->Sem ae)(r:R2):Prop:=
 ∀(pins:List (Addr×Obj)) (s:af) (σ:St) (H:Hp) (x y:V) (v u:ae) (Q:VK),Inv X pins σ H s->RelV x v->RelV y u->r x y H Q ->
  ak (ao X.prog X.w) X.A (f v u) (EP X pins σ Q) X.xe s
def UnR(X:Cx)(f:ae->Sem ae)(r:V->Hp->VK->Prop):Prop:=
 ∀(pins:List (Addr×Obj)) (s:af) (σ:St) (H:Hp) (x:V) (v:ae) (Q:VK),Inv X pins σ H s->RelV x v->r x H Q ->
  ak (ao X.prog X.w) X.A (f v) (EP X pins σ Q) X.xe s
def za(X:Cx)(f:ae)(r:List V->Hp->VK->Prop):Prop:=
 ∀(pins:List (Addr×Obj)) (s:af) (σ:St) (H:Hp) (xs:List V) (us:List ae) (Q:VK),Inv X pins σ H s->Vals xs us->r xs H Q ->
  ak (ao X.prog X.w) X.A (call f us) (EP X pins σ Q) X.xe s
def Bs(X:Cx)(r:V->Hp->(Bool->Hp->Prop)->Prop):Prop:=
 ∀(pins:List (Addr×Obj)) (s:af) (σ:St) (H:Hp) (x:V) (v:ae) (Q:Bool->Hp->Prop),Inv X pins σ H s->RelV x v->r x H Q ->
  ak (ao X.prog X.w) X.A (truthy v) (TP X pins σ Q) X.xe s
def tOp(r:R2)(ta tb:TE):TE:=λσ H Q=>ta σ H λx H1=>tb σ H1 λy H2=>r x y H2 Q
def tUn(r:V->Hp->VK->Prop)(ta:TE):TE:=λσ H Q=>ta σ H λx H1=>r x H1 Q
def rI(C:Int->Int->Prop)(g:Int->Int->V):R2:=λx y H Q=>∃i j,x=.int i/\y=.int j/\C i j/\Q (g i j) H
def rI0(g:Int->Int->V):R2:=λx y H Q=>∃i j,x=.int i/\y=.int j/\Q (g i j) H
def rU(g:Int->V):V->Hp->VK->Prop:=λx H Q=>∃i,x=.int i/\Q (g i) H
section
variable{X:Cx}{a b c:Expr}{ta tb tc:TE}{pos:Pos}
theorem lX(ha:PE X a ta)(hb:PE X b tb){pins:List (Addr×Obj)}{s:af}{σ:St}{H:Hp}{R:V->V->Hp->Prop}(I:Inv X pins σ H s)
  (h:ta σ H λx H1=>tb σ H1 λy H2=>R x y H2) {Q:ae->af->Prop}{f:ae->ae->Sem ae}
  (hf:∀v u s2 x y H2,Inv X pins σ H2 s2->RelV x v->RelV y u->R x y H2->ak (ao X.prog X.w) X.A (f v u) Q X.xe s2) :
  ak (ao X.prog X.w) X.A (eval a X.env) (λv s₁=>ak (ao X.prog X.w) X.A (eval b X.env) (λu s₂=>ak (ao X.prog X.w) X.A (f v u) Q X.xe s₂) X.xe s₁) X.xe s:=by
 refine thn (ha pins s σ H _ I h) λv s1 ⟨x,H1,I1,r1,q1⟩=>?_
 refine thn (hb pins s1 σ H1 _ I1 q1) λu s2 ⟨y,H2,I2,r2,q2⟩=>?_
 exact hf v u s2 x y H2 I2 r1 r2 q2
theorem Cg{op:Operator}{r:R2}(ho:OpR X (bO op) r)(ha:PE X a ta)(hb:PE X b tb):PE X (.BinOp a op b pos) (tOp r ta tb):=by
 intro pins s σ H Q I h;exact wpAny_BinOp (lX ha hb I h λv u s2 x y H2 I2 rx ry q=>ho pins s2 σ H2 x y v u Q I2 rx ry q)
theorem kK{op:UnaryOp}{r:V->Hp->VK->Prop}(ho:UnR X (unaryOp op) r)(ha:PE X a ta):PE X (.UnaryOp op a pos) (tUn r ta):=by
 intro pins s σ H Q I h;exact UnaryOp_ (thn (ha pins s σ H _ I h) λv s1 ⟨x,H1,I1,r1,q1⟩=>ho pins s1 σ H1 x v Q I1 r1 q1)
theorem opI{f:ae->ae->Sem ae}{C:Int->Int->Prop}{g:Int->Int->Int}
  (rule:∀(i j:Int) (t u:Tok) (s:af) (Q:ae->af->Prop) (E:ae->af->Prop),C i j->Q (.int (g i j) s.toks) {s with toks:=s.toks+1}->ak (ao X.prog X.w) X.A (f (.int i t) (.int j u)) Q E s) :
  OpR X f (rI C λi j=>.int (g i j)):=by
 intro pins s σ H x y v u Q I rx ry h;obtain⟨i,j,rfl,rfl,hc,q⟩:=h;obtain⟨t,rfl⟩:=rx;obtain⟨t',rfl⟩:=ry;exact rule i j t t' s _ _ hc ⟨.int (g i j),H,I.tok _,⟨_,rfl⟩,q⟩
theorem i6{f:ae->ae->Sem ae}{g:Int->Int->Int}
  (rule:∀(i j:Int) (t u:Tok) (s:af) (Q:ae->af->Prop) (E:ae->af->Prop),Q (.int (g i j) s.toks) {s with toks:=s.toks+1}->ak (ao X.prog X.w) X.A (f (.int i t) (.int j u)) Q E s) :
  OpR X f (rI0 λi j=>.int (g i j)):=by
 intro pins s σ H x y v u Q I rx ry h;obtain⟨i,j,rfl,rfl,q⟩:=h;obtain⟨t,rfl⟩:=rx;obtain⟨t',rfl⟩:=ry;exact rule i j t t' s _ _ ⟨.int (g i j),H,I.tok _,⟨_,rfl⟩,q⟩
theorem jN{f:ae->ae->Sem ae}{g:Int->Int->Bool}
  (rule:∀(i j:Int) (t u:Tok) (s:af) (Q:ae->af->Prop) (E:ae->af->Prop),Q (.bool (g i j)) s->ak (ao X.prog X.w) X.A (f (.int i t) (.int j u)) Q E s) :
  OpR X f (rI0 λi j=>.bl (g i j)):=by
 intro pins s σ H x y v u Q I rx ry h;obtain⟨i,j,rfl,rfl,q⟩:=h;obtain⟨t,rfl⟩:=rx;obtain⟨t',rfl⟩:=ry;exact rule i j t t' s _ _ ⟨.bl (g i j),H,I,rfl,q⟩
def oq(i j:Int):Prop:=0<=j/\j<=1000000/\i.natAbs<2^64
def lP(i j:Int):Prop:=(-(2^64)<i/\i<2^64)\/(-(2^64)<j/\j<2^64)
theorem lP.ok{i j:Int}(h:lP i j):IntMulOk i j:=by
 rcases h with ⟨h1,h2⟩|⟨h1,h2⟩
 ·exact .of_left (intBits_le_64 h1 h2)
 ·exact .of_right (intBits_le_64 h1 h2)
theorem xc(k:Nat):(0:Int)<=2^k:=by
 rw[two_pow_cast];exact Int.natCast_nonneg _
theorem xQ:OpR X (bO .Add) (rI0 λi j=>.int (i+j)):=i6 λ_ _ _ _ _ _ _ q=>add_int q
theorem BB:OpR X (bO .Sub) (rI0 λi j=>.int (i-j)):=i6 λ_ _ _ _ _ _ _ q=>sub_int q
theorem FG:OpR X (bO .Mult) (rI lP λi j=>.int (i * j)):=opI λ_ _ _ _ _ _ _ hc q=>mul_int q hc.ok
theorem w_:OpR X (bO .Mod) (rI (λ_ j=>0<j) λi j=>.int (i%j)):=opI λi j _ _ _ _ _ hc q=>by
 have h1:(0:Int)<j:=hc;exact mod_int' (by lia) (by rw[Int.fmod_eq_emod_of_nonneg i (by lia)];exact q)
theorem um:OpR X (bO .Pow) (rI oq λi j=>.int (i^j.toNat)):=opI λ_ _ _ _ _ _ _ hc q=>pow_int_small hc.1 hc.2.1 hc.2.2 q
theorem v8:OpR X (bO .LShift) (rI oq λi j=>.int (i * 2^j.toNat)):=opI λ_ _ _ _ _ _ _ hc q=>lshift_int_small hc.1 hc.2.1 hc.2.2 q
theorem A9:OpR X (bO .RShift) (rI (λ_ j=>0<=j) λi j=>.int (i/2^j.toNat)):=opI λi j _ _ _ _ _ hc q=>
 rshift_int hc (by rw[Int.fdiv_eq_ediv_of_nonneg i (xc _)];exact q)
theorem AB:OpR X (bO .BitAnd) (rI0 λi j=>.int (Builtin.bitAnd i j)):=i6 λ_ _ _ _ _ _ _ q=>and_int q
theorem wy:OpR X (bO .BitOr) (rI0 λi j=>.int (Builtin.bitOr i j)):=i6 λ_ _ _ _ _ _ _ q=>or_int q
theorem Ds:OpR X (bO .BitXor) (rI0 λi j=>.int (Builtin.bitXor i j)):=i6 λ_ _ _ _ _ _ _ q=>xor_int q
theorem unI{f:ae->Sem ae}{g:Int->Int}
  (rule:∀(i:Int) (t:Tok) (s:af) (Q:ae->af->Prop) (E:ae->af->Prop),Q (.int (g i) s.toks) {s with toks:=s.toks+1}->ak (ao X.prog X.w) X.A (f (.int i t)) Q E s) :
  UnR X f (rU λi=>.int (g i)):=by
 intro pins s σ H x v Q I rx h;obtain⟨i,rfl,q⟩:=h;obtain⟨t,rfl⟩:=rx;exact rule i t s _ _ ⟨.int (g i),H,I.tok _,⟨_,rfl⟩,q⟩
theorem p7:UnR X (unaryOp .USub) (rU λi=>.int (-i)):=unI λ_ _ _ _ _ q=>neg_int q
theorem AM:UnR X (unaryOp .Invert) (rU λi=>.int (Builtin.bitNot i)):=unI λ_ _ _ _ _ q=>invert_int q
end
section
variable{X:Cx}{a b c:Expr}{ta tb tc:TE}{pos:Pos}
theorem kA{pins:List (Addr×Obj)}{σ:St}{H:Hp}{s:af}{Q:VK}{k k':Bool}(I:Inv X pins σ H s)(q:Q (.bl k) H)(e:k=k'):EP X pins σ Q (.bool k') s:=by
 subst e;exact⟨.bl k,H,I,rfl,q⟩
theorem Dv:OpR X (bh .Lt) (rI0 λi j=>.bl (decide (i<j))):=jN λ_ _ _ _ _ _ _ q=>lt_int q
theorem Bg:OpR X (bh .LtE) (rI0 λi j=>.bl (decide (i<=j))):=jN λ_ _ _ _ _ _ _ q=>le_int q
theorem vD:OpR X (bh .Gt) (rI0 λi j=>.bl (decide (j<i))):=jN λ_ _ _ _ _ _ _ q=>gt_int q
theorem xF:OpR X (bh .GtE) (rI0 λi j=>.bl (decide (j<=i))):=jN λ_ _ _ _ _ _ _ q=>ge_int q
theorem uB:OpR X (bh .Is) (λx y H Q=>y=.non/\Q (.bl (decide (x=.non))) H):=by
 intro pins s σ H x y v u Q I rx ry h;obtain⟨rfl,q⟩:=h;cases ry;refine is_none_gen (kA I q ?_);cases x<;>first
  | (cases rx;rfl)
  | (obtain⟨t,rfl⟩:=rx;rfl)
theorem CK:OpR X (bh .IsNot) (λx y H Q=>y=.non/\Q (.bl (!decide (x=.non))) H):=by
 intro pins s σ H x y v u Q I rx ry h;obtain⟨rfl,q⟩:=h;cases ry;refine isnot_none_gen (kA I q ?_);cases x<;>first
  | (cases rx;rfl)
  | (obtain⟨t,rfl⟩:=rx;rfl)
theorem OpR.or{f:ae->ae->Sem ae}{r r':R2}(h:OpR X f r)(h':OpR X f r'):OpR X f (λx y H Q=>r x y H Q\/r' x y H Q):=by
 intro pins s σ H x y v u Q I rx ry q;rcases q with q|q
 ·exact h pins s σ H x y v u Q I rx ry q
 ·exact h' pins s σ H x y v u Q I rx ry q
theorem Aa{op:CmpOp}{r:R2}(ho:OpR X (bh op) r)(ha:PE X a ta)(hb:PE X b tb)(hm:behindInMarks op b=false):PE X (.Compare a [op] [b] pos) (tOp r ta tb):=by
 intro pins s σ H Q I h;exact wpAny_Compare1 (lX ha hb I h λv u s2 x y H2 I2 rx ry q=>ho pins s2 σ H2 x y v u Q I2 rx ry q) hm
def lY(t:TE):TT:=λσ H Q=>t σ H λx H'=>∃k,x=.bl k/\Q k H'
theorem xo{op:CmpOp}{r:R2}(ho:OpR X (bh op) r)(ha:PE X a ta)(hb:PE X b tb)(hm:behindInMarks op b=false):PT X (.Compare a [op] [b] pos) (lY (tOp r ta tb)):=by
 intro pins s σ H Q I h;refine wpAny_isTrue_Compare1 (thn (ha pins s σ H _ I h) λv s1 ⟨x,H1,I1,r1,q1⟩=>thn (hb pins s1 σ H1 _ I1 q1) λu s2 ⟨y,H2,I2,r2,q2⟩=>
  thn (ho pins s2 σ H2 x y v u _ I2 r1 r2 q2) λc s3 ⟨z,H3,I3,r3,k,e,q3⟩=>?_) hm
 subst e;cases r3;exact bP ⟨H3,I3,q3⟩
def rP(r r':R2)(ta tb tc:TE):TE:=λσ H Q=>ta σ H λx H1=>tb σ H1 λy H2=>r x y H2 λz H3=>∃k,z=.bl k /\
 (if k=true then tc σ H3 λw' H4=>r' y w' H4 Q else Q (.bl false) H3)
theorem DA{op Gn:CmpOp}{r r':R2}(ho:OpR X (bh op) r)(G':OpR X (bh Gn) r')(ha:PE X a ta)(hb:PE X b tb)(hc:PE X c tc)
  (hm:lastMarks [op,Gn] [b,c]=false):PE X (.Compare a [op,Gn] [b,c] pos) (rP r r' ta tb tc):=by
 intro pins s σ H Q I h;refine Compare_chain (thn (ha pins s σ H _ I h) λv s1 ⟨x,H1,I1,r1,q1⟩=>chain_link (thn (hb pins s1 σ H1 _ I1 q1) λu s2 ⟨y,H2,I2,r2,q2⟩=>
  thn (ho pins s2 σ H2 x y v u _ I2 r1 r2 q2) λd s3 ⟨z,H3,I3,r3,k,e,q3⟩=>?_)) hm
 subst e;cases r3;refine bP ?_;cases k with
 |false=>exact ite_ff ⟨.bl false,H3,I3,rfl,q3⟩
 |true=>exact ite_tt (chain_last (thn (hc pins s3 σ H3 _ I3 q3) λw' s4 ⟨z',H4,I4,r4,q4⟩=>G' pins s4 σ H4 y z' u w' Q I4 r2 r4 q4))
theorem wZ{op Gn:CmpOp}{r r':R2}(ho:OpR X (bh op) r)(G':OpR X (bh Gn) r')(ha:PE X a ta)(hb:PE X b tb)(hc:PE X c tc)
  (hm:lastMarks [op,Gn] [b,c]=false):PT X (.Compare a [op,Gn] [b,c] pos) (lY (rP r r' ta tb tc)):=by
 intro pins s σ H Q I h;refine isTrue_chain (thn (ha pins s σ H _ I h) λv s1 ⟨x,H1,I1,r1,q1⟩=>test_link (thn (hb pins s1 σ H1 _ I1 q1) λu s2 ⟨y,H2,I2,r2,q2⟩=>
  thn (ho pins s2 σ H2 x y v u _ I2 r1 r2 q2) λd s3 ⟨z,H3,I3,r3,k,e,q3⟩=>?_)) hm
 subst e;cases r3;refine bP ?_;cases k with
 |false=>
  obtain⟨k',e',q'⟩:=q3;cases e';exact ite_ff ⟨H3,I3,q'⟩
 |true=>
  refine ite_tt (test_last (thn (hc pins s3 σ H3 _ I3 q3) λw' s4 ⟨z',H4,I4,r4,q4⟩=>thn (G' pins s4 σ H4 y z' u w' _ I4 r2 r4 q4) λd' s5 ⟨z2,H5,I5,r5,k2,e2,q5⟩=>?_));subst e2;cases r5;exact bP ⟨H5,I5,q5⟩
def kU(K:az)(x:V)(H:Hp)(k:Bool):Prop:=
 match x with
 | .non=>k=false
 | .bl b=>k=b
 | .int i=>k=(i != 0)
 | .str y=>y.length<=aR/\k=((y.length:Int) != 0)
 | .byt y=>y.size<=aR/\k=((y.size:Int) != 0)
 | .ref p=>(∃xs,SqL K H p xs/\k = !xs.isEmpty)\/(∃xs,SqT K H p xs/\k = !xs.isEmpty)\/∃kvs,H p=some (.dK kvs)/\k = !kvs.isEmpty
 |_=>False
theorem CU{κ:Type}{kvs:List (κ×V)}{vs:List (κ×ae)}(r:KV kvs vs):(!vs.isEmpty) = !kvs.isEmpty:=by
 cases r<;>rfl
theorem tD{xs:List V}{its:List ae}(r:Vals xs its):(!its.toArray.isEmpty) = !xs.isEmpty:=by
 cases r<;>simp
theorem iD:(aR:Nat)<2^63:=by rw[bJ];decide
theorem uI:Bs X (λx H Q=>∃k,kU X.K x H k/\Q k H):=by
 intro pins s σ H x v Q I rx h;obtain⟨k,e,q⟩:=h;have hl:=iD;have hs:aR=16777216:=bJ;cases x with
 |non=>
  cases rx;have e':k=false:=e;subst e';exact truthy_none ⟨H,I,q⟩
 |bl b=>
  cases rx;have e':k=b:=e;subst e';exact bP ⟨H,I,q⟩
 |int i=>
  obtain⟨t,rfl⟩:=rx;have e':k=(i != 0):=e;subst e';exact PySem.P.truthy_int ⟨H,I,q⟩
 |str y=>
  obtain⟨t,rfl⟩:=rx;obtain⟨hy,e'⟩:y.length<=aR/\k=((y.length:Int) != 0):=e;subst e';exact PySem.P.truthy_str (by lia) ⟨H,I.tok _,q⟩
 |byt y=>
  obtain⟨t,rfl⟩:=rx;obtain⟨hy,e'⟩:y.size<=aR/\k=((y.size:Int) != 0):=e;subst e';exact PySem.W.truthy_bytes (by lia) ⟨H,I.tok _,q⟩
 |ref p=>
  cases rx;have e':(∃xs,SqL X.K H p xs/\k = !xs.isEmpty)\/(∃xs,SqT X.K H p xs/\k = !xs.isEmpty)\/∃kvs,H p=some (.dK kvs)/\k = !kvs.isEmpty:=e;rcases e' with ⟨xs,hx,e'⟩|⟨xs,hx,e'⟩|⟨kvs,hx,e'⟩
  ·subst e';obtain⟨its,r,pl,hz⟩:=I.list hx;have hlen:=r.length;exact wpAny_truthy_list pl.isList (by simp only[aU];lia) ⟨H,I.tok _,by rw[tD r];exact q⟩
  ·subst e';obtain⟨its,r,pl,hz⟩:=I.tuple hx;have hlen:=r.length;exact truthy_tuple pl (by simp only[aU];lia) ⟨H,I.tok _,by rw[tD r];exact q⟩
  ·subst e';obtain⟨hz,hS,vs,r,m⟩:kvs.length<=aR/\(p==sysModules)=false/\∃vs,KV kvs vs/\s.heap.DictOf (kR X.prog X.w) p vs:=I.hok p _ hx;have hlen:kvs.length=vs.length:=Paired.length r;exact wpAny_truthy_dict hS m (by lia) ⟨H,I.tok _,by rw[CU r];exact q⟩
 |_=>exact(show False from e).elim
theorem wa(ha:PE X a ta)(he:∀whole,isTrue a X.env whole=(do let v <-whole;standAt a.pos;holding [v] (truthy v))) :
  PT X a (λσ H Q=>ta σ H λx H'=>∃k,kU X.K x H' k/\Q k H'):=by
 intro pins s σ H Q I h;exact isTrue_plain (thn (ha pins s σ H _ I h) λv s1 ⟨x,H1,I1,r1,q1⟩=>uI pins s1 σ H1 x v Q I1 r1 q1) (he _)
theorem vals1{x:V}{us:List ae}(r:Vals [x] us):∃u,us=[u]/\RelV x u:=by
 cases r with
 |cons r1 r2=>cases r2;exact⟨_,rfl,r1⟩
theorem vals2{x y:V}{us:List ae}(r:Vals [x,y] us):∃u w',us=[u,w']/\RelV x u/\RelV y w':=by
 cases r with
 |cons r1 r2=>
  cases r2 with
  |cons r3 r4=>cases r4;exact⟨_,_,rfl,r1,r3⟩
theorem yN(hc:X.calm=true):za X (.builtin "max") (λxs H Q=>∃i j,xs=[.int i,.int j]/\Q (.int (if j>i then j else i)) H):=by
 intro pins s σ H xs us Q I r h;obtain⟨i,j,rfl,q⟩:=h;obtain⟨u,w',rfl,⟨t,rfl⟩,⟨t',rfl⟩⟩:=vals2 r;refine max_two_ints (I.ok.hd hc) λh' tk k=>⟨_,H,I.kept k,?_,q⟩
 by_cases hj:j>i
 ·rw[if_pos hj,if_pos hj];exact⟨_,rfl⟩
 ·rw[if_neg hj,if_neg hj];exact⟨_,rfl⟩
theorem BE(hc:X.calm=true):za X (.builtin "min") (λxs H Q=>∃i j,xs=[.int i,.int j]/\Q (.int (if j<i then j else i)) H):=by
 intro pins s σ H xs us Q I r h;obtain⟨i,j,rfl,q⟩:=h;obtain⟨u,w',rfl,⟨t,rfl⟩,⟨t',rfl⟩⟩:=vals2 r;refine min_two_ints (I.ok.hd hc) λh' tk k=>⟨_,H,I.kept k,?_,q⟩
 by_cases hj:j<i
 ·rw[if_pos hj,if_pos hj];exact⟨_,rfl⟩
 ·rw[if_neg hj,if_neg hj];exact⟨_,rfl⟩
theorem Ak:za X (.type "int") (λxs H Q=>(∃i,xs=[.int i]/\Q (.int i) H)\/∃k,xs=[.bl k]/\Q (.int (if k then 1 else 0)) H):=by
 intro pins s σ H xs us Q I r h;rcases h with ⟨i,rfl,q⟩|⟨k,rfl,q⟩
 ·obtain⟨u,rfl,t,rfl⟩:=vals1 r;exact call_int_int ⟨.int i,H,I,⟨_,rfl⟩,q⟩
 ·obtain⟨u,rfl,r1⟩:=vals1 r;cases r1;exact call_int_bool ⟨.int (if k then 1 else 0),H,I.tok _,⟨_,rfl⟩,q⟩
end
structure lq(h:Heap)(x dx C:Addr)(mA:Str->Option ae):Prop where
 obj:h.get? x=some (PySem.W.instObj C dx)
 ns:h.Ns1 dx mA
 ne:dx≠x
theorem Fp{h:Heap}{dx:Addr}{mA:Str->Option ae}(n:h.Ns1 dx mA):∃od,h.get? dx=some od/\∀name,PySem.W.lookIn name od=some (mA name):=by
 obtain⟨o,es,ep,ho,hd,hk,_,hm⟩:=n;refine⟨o,ho,λname=>?_⟩;have e:=hm name;unfold nsFind findBy at e;rw[<-Array.find?_toList]at e;unfold PySem.W.lookIn;rw[hd];dsimp only;split
 ·rename_i y q
  rw[q]at e;exact congrArg some e
 ·rename_i q
  rw[q]at e;have a:es.toList.any (·.refKey)=false:=by
   rw[List.any_eq_false];intro y hy;obtain⟨z,t,Ie⟩:=hk y (Array.mem_toList_iff.mp hy);simp[DictEntry.refKey,Ie]
  have a':¬ es.toList.any (·.refKey)=true:=by rw[a];exact cG
  rw[if_neg a'];exact congrArg some e
theorem lq.look{h:Heap}{x dx C:Addr}{mA:Str->Option ae}(I:lq h x dx C mA):∃od,PySem.W.InstAt h x (PySem.W.instObj C dx) C (some od)/\∀name,PySem.W.lookIn name od=some (mA name):=
 let ⟨od,ho,hl⟩:=Fp I.ns
 ⟨od,⟨I.obj,rfl,rfl,ho⟩,hl⟩
section
variable{prog:aF}{w:aB}{A:aG}{E:ae->af->Prop}{s:af}{K:az}{x dx C f:Addr}{mA:Str->Option ae}{name:Str}{v:ae}
end
section
variable{P:aF}{w:aB}{H H':Hp}{h h':Heap}{a C dx:Addr}{fs fs':List (Str×V)}
theorem By(hok:HOk P w H h)(e:H a=some (.ins C dx fs)):∃mA,lq h a dx C mA/\(∀f,iV (fs.lookup f) (mA f))/\PySem.Within mA (fs.map (·.1))/\fs.length<=1000/\H dx=some (.own a):=by
 obtain⟨d,z,ne,ob,mA,n,r,q⟩:=(show zG P w H h a (.ins C dx fs)from hok a _ e)
 exact⟨mA,⟨ob,n,ne⟩,r,q,z,d⟩
end
structure Cls(K:az)(C:Addr):Prop where
 pg:PySem.W.plainGet K C Str.empty=true
 hd:PySem.W.hasDictIn K C=true
 po:PySem.W.plainOver K C=true
 sa:PySem.W.findIn K (.ref C) "__setattr__" = some (some (.builtin "object.__setattr__"))
theorem Cls.get{K:az}{C:Addr}(c:Cls K C)(f:Str):PySem.W.plainGet K C f=true:=c.pg
section
variable{X:Cx}{pins:List (Addr×Obj)}{σ:St}{H:Hp}{s:af}{a C dx:Addr}{fs:List (Str×V)}{f:Str}{v:V}{A:aG}{E:ae->af->Prop}
theorem vB{prog:aF}{w:aB}{env:Env}{e:Expr}{f:Str}{pos:Pos}{s:af}{Q:ae->af->Prop}(hb:attributeBase e f env (eval e env)=eval e env)
  (h:ak (ao prog w) A (eval e env) (λo s₁=>ak (ao prog w) A (getAttr o f true) Q E s₁) E s):ak (ao prog w) A (eval (.Attribute e f pos) env) Q E s:=
 Attribute_any_ h (by rw[arm_eval_Attribute,hb])
end
section
variable{X:Cx}{o e value:Expr}{f:Str}{pos pos' tpos:Pos}{ta tv:TE}
end
section
variable{X:Cx}{pins:List (Addr×Obj)}{σ:St}{H:Hp}{s:af}{A:aG}{E:ae->af->Prop}{Q:ae->af->Prop}{c:ae}{b:Bool}
inductive ey(K:az)(H:Hp):V->ae->Prop where
 |non:ey K H .non (.type "NoneType")
 |bl (x:Bool):ey K H (.bl x) (.type "bool")
 |int (i:Int):ey K H (.int i) (.type "int")
 |str (x:Str):ey K H (.str x) (.type "str")
 |flt (x:UInt64):ey K H (.flt x) (.type "float")
 |lst {a:Addr}{xs:List V} (e:H a=some (.lst xs)):ey K H (.ref a) (.type "list")
 |frz {a:Addr}{o:Obj}{xs:List V} (e:H a=some (.frz o (.lst xs))):ey K H (.ref a) (.type "list")
 |tup {a:Addr}{xs:List V} (e:H a=some (.tup xs)):ey K H (.ref a) (.type "tuple")
 |dK {a:Addr}{kvs:List (Key×V)} (e:H a=some (.dK kvs)):ey K H (.ref a) (.type "dict")
 |dT {a:Addr}{kvs:List (List Key×V)} (e:H a=some (.dT kvs)):ey K H (.ref a) (.type "dict")
 |ins {a C dx:Addr}{fs:List (Str×V)} (e:H a=some (.ins C dx fs)) (cl:Cls K C) (ha:PySem.W.findIn K (.ref C) "__class__" = some (some (.builtin "object.__class__")))
   (hn:PySem.W.specialIn K (.builtin "object.__class__") "__get__" = some (some (.builtin "getset_descriptor.__get__"))) (htk:PySem.W.takesIn K (.builtin "object.__class__")=some true)
   (hm:PySem.W.mroIn K C (.type "object")=some true):ey K H (.ref a) (.ref C)
theorem jh{x:V}{u t:ae}(I:Inv X pins σ H s)(rx:RelV x u)(ty:ey X.K H x t)(e:b_ X.K t c=some b)(h:∀tk,Q (.bool b) {s with toks:=tk}) :
  ak (ao X.prog X.w) A (call (.builtin "isinstance") [u,c]) Q E s:=by
 cases ty with
 |non=>cases (show u=bV from rx);exact b4 PySem.W.kitx_none I.kIn True.intro e (λz=>nomatch z) h
 |bl y=>cases (show u=ae.bool y from rx);exact b4 PySem.W.kitx_bool I.kIn True.intro e (λz=>nomatch z) h
 |int i=>obtain⟨t,q⟩:=(show ∃t,u=ae.int i t from rx);cases q;exact b4 PySem.W.kitx_int I.kIn True.intro e (λz=>nomatch z) h
 |str y=>obtain⟨t,q⟩:=(show ∃t,u=ae.str y t from rx);cases q;exact b4 PySem.W.kitx_str I.kIn True.intro e (λz=>nomatch z) h
 |flt y=>obtain⟨t,q⟩:=(show ∃t,u=ae.float y t from rx);cases q;exact b4 PySem.W.kitx_float I.kIn True.intro e (λz=>nomatch z) h
 | @lst a xs ea=>
  cases (show u=a8 a from rx);obtain⟨_,_,n,_,h1⟩:=(show zG X.prog X.w H s.heap a (.lst xs)from I.hok a _ ea)
  exact b4 PySem.W.kitx_list I.kIn ⟨_,h1,rfl⟩ e (λz=>nomatch z) h
 | @frz a ob xs ea=>
  cases (show u=a8 a from rx);obtain⟨_,_,_,n,_,h1⟩:=(show zG X.prog X.w H s.heap a (.frz ob (.lst xs))from I.hok a _ ea)
  exact b4 PySem.W.kitx_list I.kIn ⟨_,h1,rfl⟩ e (λz=>nomatch z) h
 | @tup a xs ea=>
  cases (show u=a8 a from rx);obtain⟨_,_,_,p⟩:=(show zG X.prog X.w H s.heap a (.tup xs)from I.hok a _ ea)
  obtain⟨o,h1,h2,_⟩:=p;exact b4 PySem.W.kitx_tuple I.kIn ⟨o,h1,h2⟩ e (λz=>nomatch z) h
 | @dK a kvs ea=>
  cases (show u=a8 a from rx);obtain⟨_,_,vs,_,p⟩:=(show zG X.prog X.w H s.heap a (.dK kvs)from I.hok a _ ea)
  obtain⟨o,es,ep,h1,h2,_⟩:=p;exact b4 PySem.W.kitx_dict I.kIn ⟨o,h1,h2.1⟩ e (λz=>nomatch z) h
 | @dT a kvs ea=>
  cases (show u=a8 a from rx);obtain⟨_,_,xs,_,o,es,ep,h1,h2,_⟩:=(show zG X.prog X.w H s.heap a (.dT kvs)from I.hok a _ ea)
  exact b4 PySem.W.kitx_dict I.kIn ⟨o,h1,h2.1⟩ e (λz=>nomatch z) h
 | @ins a C dx fs ea cl ha hn htk hm=>
  cases (show u=a8 a from rx);obtain⟨mA,O,_⟩:=By I.hok ea;obtain⟨od,J,_⟩:=O.look;exact b4 (PySem.W.kitx_own (cl.get _) cl.hd ha hn htk hm) I.kIn J e (λz=>nomatch z) h
end
structure cP(k:Nat)(A:aG):Prop where
 hd:A.handled=none
 dp:A.depth+3 * k+5<recursionLimit
 un:A.units+16 * k+200<cLine
 gd:A.guards=some []
theorem cP.deeper{k:Nat}{A:aG}(r:cP (k+1) A)(env:Env):cP k (A.deeper env):=
 ⟨r.hd,by have:=r.dp;show A.depth+1+3 * k+5<_;lia,by have:=r.un;show A.units+3+16 * k+200<_;lia,r.gd⟩
theorem cP.depth{k:Nat}{A:aG}(r:cP k A):A.depth<recursionLimit:=by have:=r.dp;lia
theorem cP.units{k:Nat}{A:aG}(r:cP k A):A.units+64<cLine:=by have:=r.un;lia
def jD:TA:=λ_ H Q=>Q [] H
def ju(ta:TE)(tr:TA):TA:=λσ H Q=>ta σ H λx H1=>tr σ H1 λxs H2=>Q (x::xs) H2
section
variable{X:Cx}{e:Expr}{es:List Expr}{te:TE}{t:TA}{pos:Pos}
theorem eB:PA X [] jD:=λ_ _ _ _ H Q I h=>Calls.spliced_nil ⟨[],H,I,.nil,h⟩
theorem zF(ha:PE X e te)(hr:PA X es t)(hs:aV (e::es) X.env=(false,eval e X.env)::aV es X.env):PA X (e::es) (ju te t):=by
 intro pos pins s σ H Q I h;rw[hs];show ak _ _ (spliced ((false,eval e X.env)::backTo pos (aV es X.env))) _ _ s;refine Calls.spliced_cons (thn (ha pins s σ H _ I h) λu s1 ⟨x,H1,I1,r1,q1⟩=>?_);exact thn (hr pos pins s1 σ H1 _ I1 q1) λus s2 ⟨xs,H2,I2,r2,q2⟩=>⟨x::xs,H2,I2,.cons r1 r2,q2⟩
def AO(t:TA):TE:=λσ H Q=>t σ H λxs H1=>xs.length<=aR/\∀p,H1 p=none->Q (.ref p) (upd H1 p (.tup xs))
def wC(t:TA):TE:=λσ H Q=>t σ H λxs H1=>xs.length<=aR/\∀p,H1 p=none->Q (.ref p) (upd H1 p (.lst xs))
theorem Dr{x1}(h:PA X es t):PE X (.Tuple es x1 pos) (AO t):=by
 intro pins s σ H Q I hq;refine wpAny_Tuple_spliced (thn (h pos pins s σ H _ I hq) λus s1 ⟨xs,H1,I1,r,z,q⟩=>⟨by rw[<-r.length];exact z,?_⟩);have hf:H1 s1.heap.objs.size=none:=I1.hok.fresh (aH _);refine⟨.ref s1.heap.objs.size,upd H1 s1.heap.objs.size (.tup xs),I1.laid (t':=s1.toks) (λb u e=>Heap.get?_push_of_some _ e) (aH _) ?_,rfl,q _ hf⟩;exact⟨z,us,r,⟨_,Heap.get?_push_size _ rfl,rfl,_,rfl⟩⟩
theorem wM(h:PA X es t):PE X (.List es pos) (wC t):=by
 intro pins s σ H Q I hq;refine wpAny_List_spliced (thn (h pos pins s σ H _ I hq) λus s1 ⟨xs,H1,I1,r,z,q⟩=>⟨by rw[<-r.length];exact z,?_⟩);have hf:H1 s1.heap.objs.size=none:=I1.hok.fresh (aH _);refine⟨.ref s1.heap.objs.size,upd H1 s1.heap.objs.size (.lst xs),I1.laid (t':=s1.toks) (λb u e=>Heap.get?_push_of_some _ e) (aH _) ?_,rfl,q _ hf⟩;exact⟨z,us,0,r,Heap.get?_push_size _ rfl⟩
end
abbrev Sp:=List V->Hp->VK->XK->Prop
abbrev CXT:=List Env->Hp->af->XK->ae->af->Prop
structure ji(P:aF)(w:aB)(K:az)(mg:Str->Option ae)(base:Heap)(A:aG)(outer:List Env)(s:af)(H:Hp):Prop where
 frames:A.frames=some outer
 mod:Mod K mg base
 bs:∀b o,base.get? b=some o->s.heap.get? b=some o/\H b=none
 bsz:base.objs.size<=s.heap.objs.size
 funs:s.heap.FunFrames base outer
 frf:∀b∈frs outer,H b=none
 hok:HOk P w H s.heap
 bare:AllBare s.gens
def CE(outer:List Env)(P:aF)(w:aB)(H:Hp)(s:af)(Q:VK)(u:ae)(s':af):Prop:=
 ∃v H',s'.os=s.os/\AllBare s'.gens/\Un (frs outer) [] H H' s.heap s'.heap/\HOk P w H' s'.heap/\RelV v u/\Q v H'
def CR(CX:CXT)(outer:List Env)(P:aF)(w:aB)(H:Hp)(s:af)(Q:VK)(E:XK)(r:Result)(s':af):Prop:=
 match r with
 | .ok (.ret u)=>CE outer P w H s Q u s'
 | .ok _=>False
 | .error e=>CX outer H s E e s'
structure gb(P:aF)(w:aB)(K:az)(mg:Str->Option ae)(base:Heap)(CX:CXT)(k:Nat)(f:Addr)(fd:FuncData)(ps:List Str)(sp:Sp):Prop where
 len:∀vs H Q E,sp vs H Q E->vs.length=ps.length
 run:∀(A:aG) (outer:List Env) (s:af) (H:Hp) (args:Args) (us:List ae) (vs:List V) (Q:VK) (E:XK),cP k A->ji P w K mg base A outer s H->BindsTo s fd args (ps.zip us)->Vals vs us->sp vs H Q E ->
  codeAny (ao P w) A (.call (.ref f) args) (CR CX outer P w H s Q E) s
section
variable{X:Cx}{pins:List (Addr×Obj)}{σ:St}{H:Hp}{s s':af}
theorem Inv.env0(I:Inv X pins σ H s):ji X.prog X.w X.K X.mg X.base X.A X.stack s H:=
 ⟨I.ok.frames,I.ok.mod,I.bs,br I.ok.bsz I.sz,I.stack,I.stkFree,I.hok,I.bare⟩
theorem Inv.after{Q:VK}{u:ae}(I:Inv X pins σ H s)(h:CE X.stack X.prog X.w H s Q u s'):EP X pins σ Q u s':=by
 obtain⟨v,H',os,bare,un,hok,r,q⟩:=h;obtain⟨hh,g,d,t,Jn⟩:=s';obtain rfl:Jn=s.os:=os;exact⟨v,H',I.call (h':=hh) (g':=g) (d':=d) (t':=t) (ch:=[]) un hok bare (λb z=>absurd z (by simp)),r,q⟩
end
def kF(sp:Sp)(Hc:List V)(E:XK)(t:TA):TE:=λσ H Q=>t σ H λvs H1=>sp (vs++Hc) H1 Q E
def Binds(K:az)(fd:FuncData)(ps:List Str)(ds:List ae):Prop:=
 ∀(s:af) (us:List ae),K.In s.heap->(us++ds).length=ps.length->BindsTo s fd ⟨us,[]⟩ (ps.zip (us++ds))
theorem Binds.all{K:az}{fd:FuncData}{ps:List Str}(h:∀us:List ae,us.length=ps.length->bindArgs fd ⟨us,[]⟩=pure (ps.zip us)):Binds K fd ps []:=λs us _ hl=>by
 rw[c_]at hl ⊢;exact .of_eq (h us hl)
def Passes(CX:CXT)(X:Cx)(E:XK):Prop:=∀(pins:List (Addr×Obj)) (σ:St) (H:Hp) (s:af) (e:ae) (s':af),Inv X pins σ H s->CX X.stack H s E e s'->X.xe e s'
section
variable{X:Cx}{CX:CXT}{k:Nat}{f C:Addr}{fd:FuncData}{ps:List Str}{sp:Sp}{Hc:List V}{ds:List ae}{E:XK}{x m:Str}{p pos apos:Pos}{e o:Expr}{es:List Expr}{ta:TE}{t:TA}
theorem y7{pins:List (Addr×Obj)}{σ:St}{H:Hp}{s:af}{Q:VK}{us:List ae}{vs:List V}(F:gb X.prog X.w X.K X.mg X.base CX k f fd ps sp)(hr:cP k X.A)(hb:Binds X.K fd ps ds)(hd:Vals Hc ds)(hx:Passes CX X E)
  (I:Inv X pins σ H s) (r:Vals vs us) (h:sp (vs++Hc) H Q E):ak (ao X.prog X.w) X.A (call (.ref f) us) (EP X pins σ Q) X.xe s:=by
 have r2:Vals (vs++Hc) (us++ds):=r.append hd;have hl:(us++ds).length=ps.length:=by rw[<-r2.length];exact F.len _ _ _ _ h
 refine wpAny_call (codeAny_mono (F.run X.A X.stack s H ⟨us,[]⟩ (us++ds) (vs++Hc) Q E hr I.env0 (hb s us I.kIn hl) r2 h) λr s' hq=>?_);cases r with
 |error e=>exact hx pins σ H s e s' I hq
 |ok fl=>
  cases fl with
  |ret u=>exact I.after hq
  |next=>exact bq hq
  |brk=>exact bq hq
  |cont=>exact bq hq
theorem DM(F:gb X.prog X.w X.K X.mg X.base CX k f fd ps sp)(hr:cP k X.A)(hg:Gl X x)(hm:X.mg x=some (.ref f))(hk:de X.K (.ref f)=true)(hb:Binds X.K fd ps ds)(hd:Vals Hc ds)(hx:Passes CX X E)
  (ha:PA X (e::es) t) (Ig:(x==("__debug__" : Str))=false) (he:aV (e::es) X.env=(false,eval e X.env)::aV es X.env) (Hz:(backTo pos (aV es X.env)).any (·.1)=false) :
  PE X (.Call (.Name x p) (e::es) [] pos) (kF sp Hc E t):=by
 intro pins s σ H Q I h;refine wpAny_Call_Name_kw (gS I hg hm ?_ Ig);refine PySem.W.callWith_K (h₀:=X.base) I.ok.mod.kin hk (thn (ha pos pins s σ H _ I h) λus s1 ⟨vs,H1,I1,r,q⟩=>⟨I1.kIn,?_⟩) he Hz;exact y7 F hr hb hd hx I1 r q
end
section
variable{X:Cx}{CX:CXT}{k:Nat}{f C:Addr}{fd:FuncData}{ps ks:List Str}{sp:Sp}{E:XK}{x m:Str}{p pos apos kpos:Pos}{e o:Expr}{es:List Expr}{Qk:List Keyword}{te ta:TE}{t tk:TA}{nm:Option Str}
variable{g:List ae->List ae->List ae}{gV:List V->List V->List V}
end
structure i5(N P:List Str)(sc:a9):Prop where
 kind:sc.kind=.function
 co:sc.isCoroutine=false
 gen:sc.isGenerator=false
 nd:N.Nodup
 pre:N.take P.length=P
 par:∀x∈P,sc.names.lookup x=some .local\/sc.names.lookup x=some .cell
 nofree:∀y∈sc.names,y.2≠.free
theorem oa{kindOf:Str->Option aX}{x:Str}:∀{binds:List (Str×ae)}{m:Str->Option ae},(∀v,(x,v)∉binds)->bindL kindOf binds m x=m x
 | [],_,_=>rfl
 | (n,v)::r,m,h=>by
  unfold bindL;rw[oa λw hw=>h w (aO _ hw)];split
  ·have:x≠n:=by rintro rfl;exact h v aQ
   simp[this]
  ·rfl
theorem s_{kindOf:Str->Option aX}{x:Str}:∀{binds:List (Str×ae)}{m:Str->Option ae},(∀v,(x,v)∉binds)->bindC kindOf binds m x=m x
 | [],_,_=>rfl
 | (n,v)::r,m,h=>by
  unfold bindC;rw[s_ λw hw=>h w (aO _ hw)];split
  ·rfl
  ·have:x≠n:=by rintro rfl;exact h v aQ
   simp[this]
theorem lJ{kindOf:Str->Option aX}{x:Str}{v:ae}:∀{P:List Str}{vs:List ae}{i:Nat}{m:Str->Option ae},P.Nodup->P[i]? = some x->vs[i]? = some v->kindOf x=some .local ->
  bindL kindOf (P.zip vs) m x=some v
 | [],_,_,_,_,h,_,_=>by simp at h
 |_::_,[],_,_,_,_,h,_=>by simp at h
 |p::P,w::vs,0,m,nd,h1,h2,hk=>by
  simp at h1 h2;subst h1;subst h2;show bindL kindOf ((p,w)::P.zip vs) m p=_;unfold bindL;rw[oa λv hv=>(List.nodup_cons.mp nd).1 (List.of_mem_zip hv).1,if_pos hk];simp
 |p::P,w::vs,i+1,m,nd,h1,h2,hk=>by
  show bindL kindOf ((p,w)::P.zip vs) m x=_;unfold bindL;exact lJ (i:=i) (List.nodup_cons.mp nd).2 (by simpa using h1) (by simpa using h2) hk
theorem t8{kindOf:Str->Option aX}{x:Str}{v:ae}:∀{P:List Str}{vs:List ae}{i:Nat}{m:Str->Option ae},P.Nodup->P[i]? = some x->vs[i]? = some v->kindOf x≠some .local ->
  bindC kindOf (P.zip vs) m x=some v
 | [],_,_,_,_,h,_,_=>by simp at h
 |_::_,[],_,_,_,_,h,_=>by simp at h
 |p::P,w::vs,0,m,nd,h1,h2,hk=>by
  simp at h1 h2;subst h1;subst h2;show bindC kindOf ((p,w)::P.zip vs) m p=_;unfold bindC;rw[s_ λv hv=>(List.nodup_cons.mp nd).1 (List.of_mem_zip hv).1,if_neg hk];simp
 |p::P,w::vs,i+1,m,nd,h1,h2,hk=>by
  show bindC kindOf ((p,w)::P.zip vs) m x=_;unfold bindC;exact t8 (i:=i) (List.nodup_cons.mp nd).2 (by simpa using h1) (by simpa using h2) hk
noncomputable def start(N:List Str)(vs:List V):St:=vs.map some++bR (N.length-vs.length) none
noncomputable def eJ(CX:CXT)(P:aF)(w:aB)(K:az)(mg:Str->Option ae)(base:Heap)(N:List Str)(qual:Str)(scope:a9)(f:Addr)(cd:ae)(A:aG)(outer:List Env)(s:af)(H:Hp)(E:XK):Cx where
 prog:=P
 w:=w
 K:=K
 mg:=mg
 base:=base
 A:=A.deeper (envOfC qual scope s.heap.objs.size f cd)
 N:=N
 s₀:=s
 H₀:=H
 env:=envOfC qual scope s.heap.objs.size f cd
 outer:=outer
 stack:=envOfC qual scope s.heap.objs.size f cd::outer
 ex:=[]
 calm:=true
 fn:=λ_=>true
 pn:=[]
 xe:=λe s'=>ak (ao P w) (A.deeper (envOfC qual scope s.heap.objs.size f cd)) (leaving (envOfC qual scope s.heap.objs.size f cd) e) (λ_ s''=>CX outer H s E e s'') (λe' s''=>CX outer H s E e' s'') s'
theorem jV{sc:a9}{n:Nat}{x:Str}(h:sc.names.lookup x=some .cell):∃c,(bt n sc.names []).lookup x=some c:=by
 have q:=PySem.W.cellsFrom_some sc.names n [] (.inl h);exact Option.isSome_iff_exists.mp q
theorem DV{CX:CXT}{P:aF}{w:aB}{K:az}{mg:Str->Option ae}{base:Heap}{N ps:List Str}{qual:Str}{scope:a9}{f:Addr}{cd:ae}{A:aG}{outer:List Env}{s s1:af}{H:Hp}{E:XK}{us:List ae}{vs:List V}
  (S:i5 N ps scope) (hd:A.handled=none) (e0:ji P w K mg base A outer s H) (hl:vs.length=ps.length) (r:Vals vs us)
  (x:InCallC s s.heap.objs.size (bindL (envOfC qual scope s.heap.objs.size f cd).kindOf (ps.zip us) λ_=>none) (bt (s.heap.objs.size+1) scope.names []) (bindC (envOfC qual scope s.heap.objs.size f cd).kindOf (ps.zip us) λ_=>none) s1) :
  Inv (eJ CX P w K mg base N qual scope f cd A outer s H E) [] (start N vs) H s1:=by
 have Hz:ps.length<=N.length:=by have:=congrArg List.length S.pre;rw[dH]at this;lia
 obtain⟨h1,tk,rfl,hk⟩:=x.done;have JA:∀b:Addr,b∉(eJ CX P w K mg base N qual scope f cd A outer s H E).ex:=λb z=>absurd (show b∈([]:List Addr)from z) (by simp)
 refine⟨⟨e0.mod,S.kind,rfl,rfl,aH _,λy z c h1 h2=>?_,λy hy=>?_,λy c _ h=>?_,λ_=>hd,aG.frames_deeper e0.frames,.inr ⟨rfl,rfl⟩,λb z=>absurd z (JA b),e0.bs,e0.bsz,λb _ _=>JA b,λb z=>absurd z (JA b),e0.funs,e0.frf⟩,
  rfl,e0.bare,Un.kept hk,⟨_,x.toInCall.ns,λi y v h1 h2 h3=>?_⟩,λy c h=>⟨_,x.cell y c h⟩,e0.hok.fresh (aH _),λy c h=>?_,λp hp=>absurd (show p∈([]:List (Addr×Obj))from hp) (by simp),e0.hok.kept hk,?_⟩
 ·exact name_of_addr x.apart (cF h1) (cF h2)
 ·have hy:scope.names.lookup y=some .cell\/scope.names.lookup y=some .free:=hy;rcases hy with hy|hy
  ·exact jV hy
  ·exact absurd rfl (S.nofree _ (cF hy))
 ·exact Nat.le_of_lt (x.above y c (cF h))
 ·have hi:i<vs.length:=by
   unfold start at h2;by_cases hi:i<vs.length
   ·exact hi
   ·rw[List.getElem?_append_right (by simpa using hi)]at h2;rw[List.getElem?_replicate]at h2;split at h2<;>cases h2
  have ha:vs[i]? = some v:=by
   unfold start at h2;rw[List.getElem?_append_left (by simpa using hi),List.getElem?_map]at h2;cases e:vs[i]? with
   |none=>rw[e]at h2;cases h2
   |some a=>rw[e]at h2;cases h2;rfl
  obtain⟨u,hu,rv⟩:=r.get ha;have hp:ps[i]? = some y:=by
   rw[<-S.pre,List.getElem?_take_of_lt (by lia)];exact h1
  have MN:ps.Nodup:=by rw[<-S.pre];exact S.nd.sublist (List.take_sublist _ _)
  refine⟨u,rv,?_⟩;rcases S.par y (List.mem_of_getElem? hp)with k|k
  ·exact .inl ⟨k,lJ MN hp hu k⟩
  ·obtain⟨c,e⟩:=jV (n:=s.heap.objs.size+1) k;refine .inr ⟨.inl k,c,e,?_⟩;have q:=x.cell y c e;rw[t8 MN hp hu (by show scope.names.lookup y≠_;rw[k];decide)]at q;exact q
 ·exact e0.hok.fresh (Nat.le_of_lt (x.above y c (cF h)))
 ·unfold start;show _=N.length;rw[d_,bG,List.length_replicate];lia
theorem Ac{CX:CXT}{P:aF}{w:aB}{K:az}{mg:Str->Option ae}{base:Heap}{k:Nat}{f:Addr}{name qual:Str}{params:Arguments}{body:List Stmt}{scope:a9}{dV kV doc pm cdv ct oc:ae}{an od:Option Addr}
  {osl:Array (Option ae)}{N ps:List Str}{sp:Sp} (lk:K.lookup f=some ⟨oc,od,.func (cK name qual params body scope dV kV doc pm an cdv ct),osl⟩) (GO:PySem.W.codeIn K cdv qual=true) (S:i5 N ps scope)
  (len:∀vs H Q E,sp vs H Q E->vs.length=ps.length)
  (GV:∀(A:aG) (outer:List Env) (s:af) (H:Hp) (vs:List V) (Q:VK) (E:XK),cP k (A.deeper (envOfC qual scope s.heap.objs.size f cdv))->sp vs H Q E ->
   ∃t,PSs (eJ CX P w K mg base N qual scope f cdv A outer s H E) body t/\t {nx:=λ_ H'=>Q .non H',rt:=Q} (start N vs) H) :
  gb P w K mg base CX (k+1) f (cK name qual params body scope dV kV doc pm an cdv ct) ps sp:=by
 refine⟨len,λA outer s H args us vs Q E hr e0 hb r HV=>?_⟩;have hl:=len _ _ _ _ HV;have KX:K.In s.heap:=e0.mod.kin.keeps λb o e=>(e0.bs b o e).1
 have lim:s.heap.NoLimit:=e0.mod.nolimit.keeps λb o e=>(e0.bs b o e).1
 have JB:∀y∈ps.zip us,scope.names.lookup y.1=some .local\/(scope.names.lookup y.1=some .cell/\((bt (s.heap.objs.size+1) scope.names []).lookup y.1).isSome=true):=λ⟨n,v⟩ hy=>by
  rcases S.par n (List.of_mem_zip hy).1 with q|q
  ·exact .inl q
  ·exact .inr ⟨q,PySem.W.cellsFrom_some _ _ _ (.inl q)⟩
 refine codeAny_call_function hr.depth (KX _ _ lk) rfl S.co S.gen rfl (PySem.W.codeRec_of KX GO) (hb _ _ _ _ ?_);refine wpAny_newFunctionEnv_cells S.kind JB λenv he s1 x=>?_
 subst he;refine⟨lim.keeps x.toInCall.keep,codeAny_func ?_⟩;obtain⟨t,ht,hq⟩:=GV A outer s H vs Q E (hr.deeper _) HV;have I:Inv (eJ CX P w K mg base N qual scope f cdv A outer s H E) [] (start N vs) H s1:=DV S hr.hd e0 hl r x;refine bK (ht [] s1 (start N vs) H _ I hq) (λfl s' hs=>?_) λe s' hs=>hs
 have fin:∀{σ':St}{H':Hp}{v:V}{u:ae},Inv (eJ CX P w K mg base N qual scope f cdv A outer s H E) [] σ' H' s'->RelV v u->Q v H'->CE outer P w H s Q u s':=
  λ{σ' H' v u} J rv q=>⟨v,H',J.os,J.bare,J.base,J.hok,rv,q⟩
 cases fl with
 |ret u=>
  obtain⟨v,σ',H',J,rv,q⟩:=hs;exact fin J rv q
 |next=>
  obtain⟨σ',H',J,q⟩:=hs;exact fin (v:=V.non) (u:=bV) J rfl q
 |brk=>
  obtain⟨_,_,_,q⟩:=hs;exact bq q
 |cont=>
  obtain⟨_,_,_,q⟩:=hs;exact bq q
section
variable{X:Cx}{x:Str}{p pos:Pos}{e:Expr}{es:List Expr}{t:TA}{id T:String}{r:List V->Hp->VK->Prop}
def tCB(r:List V->Hp->VK->Prop)(t:TA):TE:=λσ H Q=>t σ H λvs H1=>r vs H1 Q
theorem rC(hc:za X (.builtin id) r)(hg:Gl X x)(hm:X.mg x=none)(hv:bT x=some (.builtin id))(ha:PA X (e::es) t)(hn:x≠"__name__")(Ig:(x==("__debug__" : Str))=false)
  (he:aV (e::es) X.env=(false,eval e X.env)::aV es X.env) (Hz:(backTo pos (aV es X.env)).any (·.1)=false):PE X (.Call (.Name x p) (e::es) [] pos) (tCB r t):=by
 intro pins s σ H Q I h;refine wpAny_Call_Name_kw (fm I hg hm hv ?_ hn Ig);exact PyProof.Rows.callWith_builtin1 (thn (ha pos pins s σ H _ I h) λus s1 ⟨vs,H1,I1,r1,q1⟩=>hc pins s1 σ H1 vs us Q I1 r1 q1) he Hz
theorem ku(hc:za X (.type T) r)(hg:Gl X x)(hm:X.mg x=none)(hv:bT x=some (.type T))(ha:PA X (e::es) t)(hn:x≠"__name__")(Ig:(x==("__debug__" : Str))=false)
  (he:aV (e::es) X.env=(false,eval e X.env)::aV es X.env) (Hz:(backTo pos (aV es X.env)).any (·.1)=false):PE X (.Call (.Name x p) (e::es) [] pos) (tCB r t):=by
 intro pins s σ H Q I h;refine wpAny_Call_Name_kw (fm I hg hm hv ?_ hn Ig);exact fJ (thn (ha pos pins s σ H _ I h) λus s1 ⟨vs,H1,I1,r1,q1⟩=>hc pins s1 σ H1 vs us Q I1 r1 q1) he Hz
end
end L2
namespace HT
open PySem PyProof.Rows
noncomputable def lexLt:List Int->List Int->Bool
 | [],[]=>false
 | [],_::_=>true
 |_::_,[]=>false
 |x::xs,y::ys=>if x=y then lexLt xs ys else decide (x<y)
theorem rL(x y:Int)(xs ys:List Int):lexLt (x::xs) (y::ys)=if x=y then lexLt xs ys else decide (x<y):=rfl
theorem tJ:lexLt [] []=false:=rfl
theorem nS(y:Int)(ys:List Int):lexLt [] (y::ys)=true:=rfl
theorem nr(x:Int)(xs:List Int):lexLt (x::xs) []=false:=rfl
theorem yC(A:aG)(s:af)(a:Int)(t:Tok)(c:Int)(u:Tok):∃e,SeqAt.EqAt A s (.int a t) (.int c u) e/\(e=true↔a=c):=
 ⟨(a==c),SeqAt.EqAt.int_int a t c u,by simp⟩
theorem uG(A:aG)(s:af)(a:Int)(t:Tok)(c:Int)(u:Tok)(prog:aF)(w:aB)(E:ae->af->Prop)(Q:ae->af->Prop)(h:Q (.bool (decide (a<c))) s) :
  ak (ao prog w) A (richCompare .Lt (.int a t) (.int c u)) Q E s:=
 (PyProof.Rows.lt_int h:ak (ao prog w) A (bh .Lt (.int a t) (.int c u)) Q E s)
section
open PySem.SeqAt
open PySem.AutoSeq1 (wpAny_loadPart')
open PySem.MeetsSeq PySem.MeetsSeq2 PySem.MeetsSeq3
theorem sV(l b:Addr)(items Gd:Array ae)(n n2:Nat)(dd HW:Option Addr)(sl HX:Array (Option ae))(ns ms:List Int)(hi:bz items.toList ns)(hj:bz Gd.toList ms) :
  Meets (Builtin.«tuple.__lt__» ⟨[.ref l,.ref b],[]⟩)
   (λ_ R s=>s.heap.get? l=some {cls:=.type "tuple",dict:=dd,data:=.seq items n,slots:=sl}/\s.heap.get? b=some {cls:=.type "tuple",dict:=HW,data:=.seq Gd n2,slots:=HX} /\
    R (.ok (.ret (.bool (lexLt ns ms)))) s):=
 .of_wp λprog w A R s h=>by
  obtain⟨hp,g,d,tk,os⟩:=s;obtain⟨hl,hb,h⟩:=h;have f2:=AutoSeq1.sub_tuple_tuple;have z1:items.size=ns.length:=by rw[<-hi.length];simp
  have z2:Gd.size=ms.length:=by rw[<-hj.length];simp
  wp_walk using wpAny_loadPart' hl,wpAny_loadPart' hb,wpAny_forIn_list _ (λrest b s'=>b.1=none/\s'=⟨hp,g,d,tk,os⟩/\∃(vs ws:List ae) (Ih Jo:List Int),rest=vs.zip ws /\
   bz vs Ih/\bz ws Jo/\Ih.length+Gd.size=Jo.length+items.size/\R (.ok (.ret (.bool (lexLt Ih Jo)))) ⟨hp,g,d,tk,os⟩) _
  case turn=>
   rintro⟨y,x⟩ rest b s' ⟨G4,rfl,vs,ws,Ih,Jo,hz,Lp,Kl,hlen,hR⟩;cases Lp with
   |nil=>rw[List.zip_nil_left]at hz;cases hz
   |cons a t Lq=>
    cases Kl with
    |nil=>rw[List.zip_nil_right]at hz;cases hz
    |cons c u Lr=>
     rw[List.zip_cons_cons]at hz;injection hz with NJ HI
     injection NJ with hy hx
     subst hy hx;rw[rL]at hR;simp only[bM]at hlen;obtain⟨e,he,JC⟩:=yC A.in1 ⟨hp,g,d,tk,os⟩ a t c u;refine ag (he prog w _ _ ?_);cases e with
     |true=>
      rw[if_pos (JC.mp rfl)]at hR
      wp_walk
      exact⟨rfl,rfl,_,_,_,_,HI,Lq,Lr,by lia,hR⟩
     |false=>
      rw[if_neg (λq=>absurd (JC.mpr q) cG)]at hR;have NK:=uG A.in1 ⟨hp,g,d,tk,os⟩ a t c u prog w
      wp_walk using NK
      exact⟨_,rfl,by simpa using hR⟩
  case fin=>
   rintro⟨b1,b2⟩ s' ⟨G4,rfl,vs,ws,Ih,Jo,hz,Lp,Kl,hlen,hR⟩;simp only at G4;subst G4;have hv:lexLt Ih Jo=decide (items.size<Gd.size):=by
    cases Lp with
    |nil=>
     cases Kl with
     |nil=>
      simp only[List.length_nil]at hlen;rw[tJ];exact(decide_eq_false (by lia)).symm
     |cons c u hw=>
      simp only[List.length_nil,bM]at hlen;rw[nS];exact(decide_eq_true (by lia)).symm
    |cons a t hv=>
     cases Kl with
     |nil=>
      simp only[List.length_nil,bM]at hlen;rw[nr];exact(decide_eq_false (by lia)).symm
     |cons c u hw=>
      rw[List.zip_cons_cons]at hz;cases hz
   rw[hv]at hR
   wp_walk
   exact⟨_,rfl,by simpa[Builtin.Tuple.tupleCompareSizes]using hR⟩
  case h=>
   exact⟨rfl,rfl,items.toList,Gd.toList,ns,ms,rfl,hi,hj,by lia,h⟩
end
section
variable{prog:aF}{w:aB}{A:aG}{E:ae->af->Prop}{s:af}
theorem Cn{l b:Addr}{items Gd:Array ae}{ns ms:List Int}{Q:ae->af->Prop}(hl:IsTup s.heap l items)(hb:IsTup s.heap b Gd)(hi:bz items.toList ns)(hj:bz Gd.toList ms)
  (hu:A.units<cLine) (h:Q (.bool (lexLt ns ms)) s):ak (ao prog w) A (bh .Lt (.ref l) (.ref b)) Q E s:=by
 obtain⟨⟨cls,dd,data,sl⟩,ho,hc,n,hd⟩:=id hl;obtain⟨⟨IL,HW,data2,HX⟩,Hd,GX,n2,hd2⟩:=id hb;simp only at hc hd GX hd2;subst hc hd GX hd2;exact richCompare_meets_room (op:=.Lt) ⟨_,ho,rfl⟩ ⟨_,Hd,rfl⟩ PySem.F.slot_tuple_lt PySem.F.entry_tuple_lt (PySem.F.args_tuple_lt_2 _ _) (sV l b items Gd n n2 dd HW sl HX ns ms hi hj)
  ⟨ho,Hd,show ae.bool (lexLt ns ms)≠ae.notImplemented/\Q (.bool (lexLt ns ms)) s from ⟨(λx=>nomatch x),h⟩⟩ hu
theorem Bq{t b:Addr}{vs ws:List ae}{Q:ae->af->Prop}(ht:IsTup s.heap t vs.toArray)(hb:IsTup s.heap b ws.toArray)(hv:vs≠[])
  (h1:ws=[]->Q (.ref t) s) (h2:ws≠[]->Q (.ref s.heap.objs.size) {s with heap:=s.heap.push {cls:=.type "tuple",data:=.seq (vs++ws).toArray}})
  (Gq:vs.length+ws.length<=aR):ak (ao prog w) A (bO .Add (.ref t) (.ref b)) Q E s:=by
 obtain⟨⟨cls,dd,data,sl⟩,ho,hc,n,hd⟩:=id ht;obtain⟨⟨IL,HW,data2,HX⟩,Hd,GX,n2,hd2⟩:=id hb;simp only at hc hd GX hd2;subst hc hd GX hd2;have e:vs.toArray++ws.toArray=(vs++ws).toArray:=by simp
 by_cases hw:ws=[]
 ·exact concat_meets ⟨_,ho,rfl⟩ ⟨_,Hd,rfl⟩ noFill_tuple_add seq_tuple_add PySem.F.slot_tuple_add PySem.F.entry_tuple_add (PySem.F.args_tuple_add_2 _ _)
   (tuple_addW1 t b vs.toArray ws.toArray n n2 dd HW sl HX (by simpa using hv) (by simp[hw])) ⟨ho,Hd,h1 hw⟩
 ·refine concat_meets ⟨_,ho,rfl⟩ ⟨_,Hd,rfl⟩ noFill_tuple_add seq_tuple_add PySem.F.slot_tuple_add PySem.F.entry_tuple_add (PySem.F.args_tuple_add_2 _ _)
   (tuple_addW2 t b vs.toArray ws.toArray n n2 dd HW sl HX (by simpa using hv) (by simpa using hw) (by rw[aU,aU];exact Gq)) ⟨ho,Hd,?_⟩
  rw[e];exact h2 hw
noncomputable def sIx(n d:Nat):Option Int->Nat
 |none=>d
 |some v=>if v<0 then (v+(n:Int)).toNat else min v.toNat n
theorem BF(n d:Nat)(hd:d<=n)(o:Option Int):sIx n d o<=n:=by
 cases o with
 |none=>exact hd
 |some v=>
  show (if v<0 then (v+(n:Int)).toNat else min v.toNat n)<=n;by_cases hv:v<0
  ·rw[if_pos hv];lia
  ·rw[if_neg hv];exact Nat.min_le_right _ _
theorem rO(v:Int)(n d:Nat):(if v<0 then max (v+(n:Int)) 0 else min v (n:Int))=((sIx n d (some v):Nat):Int):=by
 show (if v<0 then max (v+(n:Int)) 0 else min v (n:Int))=(((if v<0 then (v+(n:Int)).toNat else min v.toNat n):Nat):Int)
 by_cases hv:v<0
 ·simp only[if_pos hv];lia
 ·simp only[if_neg hv];lia
theorem Cw(lo hi:Option Int)(n:Nat):eT lo hi 1 (n:Int)=(((sIx n 0 lo:Nat):Int),((sIx n n hi:Nat):Int)):=by
 have h1:¬ ((1:Int)<0):=by lia
 unfold eT;simp only[h1,if_false];refine Prod.ext ?_ ?_
 ·cases lo with
  |none=>rfl
  |some v=>exact rO v n 0
 ·cases hi with
  |none=>rfl
  |some v=>exact rO v n n
theorem yi(i j:Nat):dC (i:Int) (j:Int) 1=j-i:=by
 unfold dC;have h1:(1:Int)>0:=by lia
 simp only[h1,if_true,Int.ediv_one];split<;>lia
theorem rX{v:ae}{o:Option Int}{Q:Option Int->af->Prop}(p:IsPart v o)(h:Q o s):ak (ao prog w) A (Builtin.Slice.slicePartIndex v) Q E s:=by
 cases p with
 |none=>exact slicePart_none h
 |int i t=>exact slicePart_int h
theorem tF{sl:Addr}{vl vu:ae}{lo hi:Option Int}{n:Nat}{Q:Int×Int×Nat->af->Prop}(hs:s.heap.IsSliceOf sl vl vu .none)(pl:IsPart vl lo)(pu:IsPart vu hi)
  (h:Q (((sIx n 0 lo:Nat):Int),1,sIx n n hi-sIx n 0 lo) s):ak (ao prog w) A (Builtin.Slice.sliceApplied (.ref sl) (pure (n:Int))) Q E s:=by
 obtain⟨os,Hl,HA,hds⟩:=id hs;unfold Builtin.Slice.sliceApplied Builtin.Slice.sliceFields;refine ag (ag (bp Hl hds (x:=vl) rfl (ag (bp Hl hds (x:=vu) rfl (ag (bp Hl hds (x:=.none) rfl (aA ?_)))))));refine ag (slicePart_none ?_);show ak _ _ (if ((1:Int)==0)=true then _ else _) _ _ s;rw[if_neg (by decide)];refine ag (rX pl (ag (rX pu (ag (aA ?_)))));show ak _ _ (match eT lo hi 1 (n:Int)with|(lo,hi)=>pure (lo,(1:Int),dC lo hi 1)) _ _ s;rw[Cw lo hi n];show ak _ _ (pure (((sIx n 0 lo:Nat):Int),(1:Int),dC ((sIx n 0 lo:Nat):Int) ((sIx n n hi:Nat):Int) 1)) _ _ s;rw[yi];exact aA h
theorem ux(xs:Array ae)(i k:Nat):((aS k).filterMap λ(m:Nat)=>xs[((i:Int)+(m:Int) * 1).toNat]?).toArray=((xs.toList.drop i).take k).toArray:=by
 have e:(λ(m:Nat)=>xs[((i:Int)+(m:Int) * 1).toNat]?)=λm=>xs[i+m]?:=by
  funext m;have:((i:Int)+(m:Int) * 1).toNat=i+m:=by lia
  rw[this]
 rw[e];have:=pick_run xs i k;rw[List.filterMap_map]at this;have e2:((λx=>xs[x]?)∘λx=>i+x)=λm=>xs[i+m]?:=rfl
 rw[e2]at this;rw[this]
theorem Bn{t sl:Addr}{items:Array ae}{vl vu:ae}{lo hi:Option Int}{Q:ae->af->Prop}(ht:IsTup s.heap t items)(hs:s.heap.IsSliceOf sl vl vu .none)(pl:IsPart vl lo)(pu:IsPart vu hi)
  (hw:¬ (sIx items.size 0 lo=0/\sIx items.size items.size hi=items.size))
  (h:Q (.ref s.heap.objs.size) {s with heap:=s.heap.push {cls:=.type "tuple",data:=.seq ((items.toList.drop (sIx items.size 0 lo)).take (sIx items.size items.size hi-sIx items.size 0 lo)).toArray}})
  (Gq:items.size<=aR):ak (ao prog w) A (getItem (.ref t) (.ref sl)) Q E s:=by
 have Gr:sizeOk (.seq ((items.toList.drop (sIx items.size 0 lo)).take (sIx items.size items.size hi-sIx items.size 0 lo)).toArray):=by
  show ((items.toList.drop (sIx items.size 0 lo)).take (sIx items.size items.size hi-sIx items.size 0 lo)).toArray.size<=aR;rw[aU,dH,List.length_drop,a_];lia
 have hj:sIx items.size items.size hi<=items.size:=BF _ _ (aH _) hi;obtain⟨os,Hl,HA,hds⟩:=id hs;have Ls:s.TypeIs (.ref sl) "slice":=⟨os,Hl,HA⟩
 unfold getItem
 try with_reducible refine b6 ?_
 first|refine ag (aA ?_)|skip
 refine ag (wpAny_sequenceKey ht.typeIs (by decide) ?_);refine ag (wpAny_callSpecial?_slot (name:=aJ "__getitem__") ht.typeIs eS
  (cH eS ht.typeIs entry_tuple_getitem ?_ (args_tuple_getitem _ _)))
 show ak _ _ (Builtin.Tuple.tupleItemsOf (.ref t)>>=_) _ _ s;refine ag (tupleItemsOf_ ht ?_);refine ag (wpAny_typeOf Ls ?_);rw[if_pos (by decide)];refine ag (tF hs pl pu ?_);have NL:¬ ((((sIx items.size 0 lo:Nat):Int)==0&&(1:Int)==1&&(sIx items.size items.size hi-sIx items.size 0 lo)==items.size)=true):=by
  intro q;rw[aL,aL]at q;have q1:((sIx items.size 0 lo:Nat):Int)=0:=eq_of_beq q.1.1;have q2:sIx items.size items.size hi-sIx items.size 0 lo=items.size:=eq_of_beq q.2;exact hw ⟨by lia,by lia⟩
 show ak _ _ (if (((sIx items.size 0 lo:Nat):Int)==0&&(1:Int)==1&&(sIx items.size items.size hi-sIx items.size 0 lo)==items.size)=true then _ else _) _ _ s;rw[if_neg NL,ux]
 first
  |exact ag (m:=cD _) (bZ (aA ⟨_,rfl,aA h⟩) Gr)
  |exact ag (m:=cD _) (bZ (ag (aA (aA ⟨_,rfl,aA h⟩))) Gr)
  |exact ag (ag (m:=cD _) (bZ (aA (aA ⟨_,rfl,aA h⟩)) Gr))
  |exact ag (ag (m:=cD _) (bZ (aA ⟨_,rfl,aA h⟩) Gr))
end
end HT
namespace L2
open PySem PySem.Spec PyProof.Rows
abbrev TO:=St->Hp->(Option Int->Hp->Prop)->Prop
def PO(X:Cx)(e:Option Expr)(t:TO):Prop:=
 ∀(pins:List (Addr×Obj)) (s:af) (σ:St) (H:Hp) (Q:Option Int->Hp->Prop),Inv X pins σ H s->t σ H Q ->
  ak (ao X.prog X.w) X.A (evalPart e X.env) (λu s'=>∃o H',Inv X pins σ H' s'/\IsPart u o/\Q o H') X.xe s
def An:TO:=λ_ H Q=>Q none H
def As(t:TE):TO:=λσ H Q=>t σ H λx H1=>∃i,x=.int i/\Q (some i) H1
theorem intsAre_of{ns:List Int}:∀{us:List ae},Vals (ns.map V.int) us->bz us ns:=by
 induction ns with
 |nil=>intro us r;rw[List.map_nil]at r;cases r;exact .nil
 |cons n ns ih=>
  intro us r;rw[aN]at r;cases r with
  |cons r1 r2=>
   obtain⟨t,e⟩:=r1;subst e;exact .cons n t (ih r2)
section
variable{X:Cx}{e:Expr}{te:TE}{lo hi:Option Expr}{tl th:TO}{pos p2:Pos}
theorem x8:PO X none An:=by
 intro pins s σ H Q I h;rw[evalPart_none];exact aA ⟨none,H,I,.none,h⟩
theorem CS(h:PE X e te):PO X (some e) (As te):=by
 intro pins s σ H Q I hw;rw[evalPart_some];refine thn (h pins s σ H _ I hw) λu s1 ⟨x,H1,I1,r1,q1⟩=>?_
 obtain⟨i,rfl,q⟩:=q1;obtain⟨t,rfl⟩:=r1;exact⟨some i,H1,I1,.int i t,q⟩
def SlR(X:Cx)(r:V->Option Int->Option Int->Hp->VK->Prop):Prop:=
 ∀(pins:List (Addr×Obj)) (s:af) (σ:St) (H:Hp) (x:V) (v vl vu:ae) (lo hi:Option Int) (sl:Addr) (Q:VK),Inv X pins σ H s->RelV x v->s.heap.IsSliceOf sl vl vu .none->IsPart vl lo->IsPart vu hi->r x lo hi H Q ->
  ∃T id,typeLookup (.type T) "__getitem__" = pure (some (.builtin id))/\s.TypeIs v T/\ak (ao X.prog X.w) X.A (getItem v (.ref sl)) (EP X pins σ Q) X.xe s
def tSl(r:V->Option Int->Option Int->Hp->VK->Prop)(te:TE)(tl th:TO):TE:=λσ H Q=>te σ H λx H1=>tl σ H1 λl H2=>th σ H2 λu H3=>r x l u H3 Q
theorem Ay{r:V->Option Int->Option Int->Hp->VK->Prop}(hr:SlR X r)(he:PE X e te)(hl:PO X lo tl)(hu:PO X hi th):PE X (.Subscript e (.Slice lo hi none p2) pos) (tSl r te tl th):=by
 intro pins s σ H Q I h;refine Subscript_ (thn (he pins s σ H _ I h) λv s1 ⟨x,H1,I1,r1,q1⟩=>?_);refine wpAny_Slice (thn (hl pins s1 σ H1 _ I1 q1) λvl s2 ⟨l,H2,I2,pl,q2⟩=>thn (hu pins s2 σ H2 _ I2 q2) λvu s3 ⟨u,H3,I3,pu,q3⟩=>?_);rw[evalPart_none];refine aA ?_;have I4:Inv X pins σ H3 {s3 with heap:=s3.heap.push {cls:=.type "slice",data:=.fields #[vl,vu,.none]}}:=I3.kept (t':=s3.toks) λb ob q=>Heap.get?_push_of_some _ q
 obtain⟨T,id,hT,ht,hg⟩:=hr pins {s3 with heap:=s3.heap.push {cls:=.type "slice",data:=.fields #[vl,vu,.none]}} σ H3 x v vl vu l u s3.heap.objs.size Q I4 r1 (Heap.IsSliceOf.new ..) pl pu q3;show ak (ao X.prog X.w) X.A (subscriptTail e (.Slice lo hi none p2) v (.ref s3.heap.objs.size)) (EP X pins σ Q) X.xe {s3 with heap:=s3.heap.push {cls:=.type "slice",data:=.fields #[vl,vu,.none]}};exact tail_any (ops:=[.ref s3.heap.objs.size,v]) ht hT hg (by with_unfolding_all rfl)
noncomputable def fL(xs:List V)(lo hi:Option Int):List V:=(xs.drop (HT.sIx xs.length 0 lo)).take (HT.sIx xs.length xs.length hi-HT.sIx xs.length 0 lo)
theorem sZ(xs:List V)(lo hi:Option Int):(fL xs lo hi).length<=xs.length:=by
 unfold fL;rw[dH,List.length_drop];lia
def wB(K:az):V->Option Int->Option Int->Hp->VK->Prop:=λx lo hi H Q=>∃a xs,x=.ref a/\SqT K H a xs /\
 ¬ (HT.sIx xs.length 0 lo=0/\HT.sIx xs.length xs.length hi=xs.length)/\∀p,H p=none->Q (.ref p) (upd H p (.tup (fL xs lo hi)))
theorem C5:SlR X (wB X.K):=by
 intro pins s σ H x v vl vu lo hi sl Q I rx hs pl pu h;obtain⟨a,xs,rfl,hx,hw,q⟩:=h;cases rx;obtain⟨its,r,ht,hz⟩:=I.tuple hx;have hlen:its.toArray.size=xs.length:=by rw[aU];exact r.length.symm
 refine⟨"tuple",_,eS.lookup,ht.typeIs,?_⟩;refine HT.Bn ht hs pl pu (by rw[hlen];exact hw) ?_ (by rw[hlen];exact hz);rw[hlen];refine⟨.ref s.heap.objs.size,_,I.laid (t':=s.toks) (o:=.tup (fL xs lo hi)) (λb ob q=>Heap.get?_push_of_some _ q) (aH _) ?_,rfl,q _ (I.hok.fresh (aH _))⟩;exact⟨br (sZ xs lo hi) hz,_,(r.drop (HT.sIx xs.length 0 lo)).take (HT.sIx xs.length xs.length hi-HT.sIx xs.length 0 lo),IsTup.new _ _⟩
def BA(K:az):R2:=λx y H Q=>∃a b ns ms,x=.ref a/\y=.ref b/\SqT K H a (ns.map V.int)/\SqT K H b (ms.map V.int)/\Q (.bl (HT.lexLt ns ms)) H
theorem Ep(hu:X.A.units<cLine):OpR X (bh .Lt) (BA X.K):=by
 intro pins s σ H x y v u Q I rx ry h;obtain⟨a,b,ns,ms,rfl,rfl,ha,hb,q⟩:=h;cases rx;cases ry;obtain⟨its,r1,p1,_⟩:=I.tuple ha;obtain⟨Gx,r2,p2,_⟩:=I.tuple hb;have i1:bz its.toArray.toList ns:=intsAre_of r1;have i2:bz Gx.toArray.toList ms:=intsAre_of r2;exact HT.Cn p1 p2 i1 i2 hu ⟨.bl (HT.lexLt ns ms),H,I,rfl,q⟩
def wd(K:az):R2:=λx y H Q=>∃a b xs ys,x=.ref a/\y=.ref b/\SqT K H a xs/\SqT K H b ys/\xs≠[]/\xs.length+ys.length<=aR /\
 (ys=[]->Q (.ref a) H)/\(ys≠[]->∀p,H p=none->Q (.ref p) (upd H p (.tup (xs++ys))))
theorem Vals.nil_iff{xs:List V}{us:List ae}(r:Vals xs us):us=[]↔xs=[]:=by
 cases r with
 |nil=>simp
 |cons _ _=>simp
theorem vM:OpR X (bO .Add) (wd X.K):=by
 intro pins s σ H x y v u Q I rx ry h;obtain⟨a,b,xs,ys,rfl,rfl,ha,hb,hx,hz,q1,q2⟩:=h;cases rx;cases ry;obtain⟨its,r1,p1,_⟩:=I.tuple ha;obtain⟨Gx,r2,p2,_⟩:=I.tuple hb;refine HT.Bq p1 p2 (λz=>hx (r1.nil_iff.mp z)) (λz=>⟨.ref a,H,I,rfl,q1 (r2.nil_iff.mp z)⟩) (λz=>?_) (by rw[<-r1.length,<-r2.length];exact hz);refine⟨.ref s.heap.objs.size,_,I.laid (t':=s.toks) (o:=.tup (xs++ys)) (λb ob q=>Heap.get?_push_of_some _ q) (aH _) ?_,rfl,q2 (λw=>z (r2.nil_iff.mpr w)) _ (I.hok.fresh (aH _))⟩;exact⟨by rw[d_];exact hz,_,r1.append r2,IsTup.new _ _⟩
end
noncomputable def ixN(n:Nat)(i:Int):Option Nat:=if 0<=i then (if i<n then some i.toNat else none)else if -(n:Int)<=i then some (i+n).toNat else none
noncomputable def atI{α:Type}(xs:List α)(i:Int):Option α:=(ixN xs.length i).bind λj=>xs[j]?
theorem rR{n:Nat}{i:Int}{j:Nat}(h:ixN n i=some j):seqIndex? i n=some j/\j<n/\-(n:Int)<=i/\i<n:=by
 unfold ixN at h;by_cases h0:0<=i
 ·rw[if_pos h0]at h;by_cases h1:i<n
  ·rw[if_pos h1]at h;have e:i.toNat=j:=bB h;exact⟨by rw[seqIndex_of h0 h1,e],by lia,by lia,h1⟩
  ·rw[if_neg h1]at h;cases h
 ·rw[if_neg h0]at h;by_cases h1:-(n:Int)<=i
  ·rw[if_pos h1]at h;have e:(i+n).toNat=j:=bB h;exact⟨by rw[seqIndex_neg (by lia) h1,e],by lia,h1,by lia⟩
  ·rw[if_neg h1]at h;cases h
theorem rq{α:Type}{xs:List α}{i:Int}{v:α}(h:atI xs i=some v):∃j,seqIndex? i xs.length=some j/\xs[j]? = some v/\j<xs.length/\-(xs.length:Int)<=i/\i<xs.length:=by
 unfold atI at h;cases e:ixN xs.length i with
 |none=>rw[e]at h;cases h
 |some j=>
  rw[e]at h;obtain⟨h1,h2,h3,h4⟩:=rR e;exact⟨j,h1,h,h2,h3,h4⟩
def mT(b:Expr):Prop:=∀o i,subscripted b false o i=operate [o,i] (getItem o i)
def IxR(X:Cx)(r:R2):Prop:=
 ∀(value slice:Expr) (pins:List (Addr×Obj)) (s:af) (σ:St) (H:Hp) (x y:V) (v u:ae) (Q:VK),Inv X pins σ H s->RelV x v->RelV y u->r x y H Q ->
  subscripted slice false v u=operate [v,u] (getItem v u)->ak (ao X.prog X.w) X.A (subscriptTail value slice v u) (EP X pins σ Q) X.xe s
def MtR(X:Cx)(id:String)(r:V->List V->Hp->VK->Prop):Prop:=
 ∀(pins:List (Addr×Obj)) (s:af) (σ:St) (H:Hp) (x:V) (xs:List V) (v:ae) (us:List ae) (Q:VK),Inv X pins σ H s->RelV x v->Vals xs us->r x xs H Q ->
  ak (ao X.prog X.w) X.A (call (.builtin id) (v::us)) (EP X pins σ Q) X.xe s
section
variable{X:Cx}{a b:Expr}{ta tb:TE}{pos:Pos}
theorem IxR.or{r r':R2}(h:IxR X r)(h':IxR X r'):IxR X (λx y H Q=>r x y H Q\/r' x y H Q):=by
 intro value slice pins s σ H x y v u Q I rx ry q hs;rcases q with q|q
 ·exact h value slice pins s σ H x y v u Q I rx ry q hs
 ·exact h' value slice pins s σ H x y v u Q I rx ry q hs
theorem A8{r:R2}(hr:IxR X r)(ha:PE X a ta)(hb:PE X b tb)(hs:mT b):PE X (.Subscript a b pos) (tOp r ta tb):=by
 intro pins s σ H Q I h;exact Subscript_ (lX ha hb I h λv u s2 x y H2 I2 rx ry q=>hr a b pins s2 σ H2 x y v u Q I2 rx ry q (hs _ _))
def oE(K:az):R2:=λx y H Q=>∃p xs i v,x=.ref p/\y=.int i/\SqL K H p xs/\atI xs i=some v/\Q v H
def mR(K:az):R2:=λx y H Q=>∃p xs i v,x=.ref p/\y=.int i/\SqT K H p xs/\atI xs i=some v/\Q v H
theorem Cq:IxR X (oE X.K):=by
 intro value slice pins s σ H x y v u Q I rx ry h hs;obtain⟨p,xs,i,z,rfl,rfl,hq,he,q⟩:=h;cases rx;obtain⟨t,rfl⟩:=ry;obtain⟨its,r,pl,hz⟩:=I.list hq;obtain⟨j,h1,h2,h3,h4,h5⟩:=rq he;obtain⟨w,ew,Lu⟩:=r.get h2;have hl:=r.length;have hn:=iD;have fin:EP X pins σ Q w s:=⟨z,H,I,Lu,q⟩
 by_cases h0:0<=i
 ·have hj:i.toNat=j:=by
   rw[seqIndex_of h0 h5]at h1;exact bB h1
  exact item_listR pl.isList h0 (by lia) (by rw[hj];simpa using ew) fin hs
 ·have hj:(i+(its.toArray.size:Int)).toNat=j:=by
   rw[seqIndex_neg (by lia) h4]at h1;rw[aU,<-hl];exact bB h1
  exact subscriptTail_builtinR (x:=w) pl.isList.typeIs slot_list_getitem.lookup
   (wpAny_getItem_list_neg (Q:=λr s'=>r=w/\EP X pins σ Q r s') pl.isList (by lia) (by rw[aU]<;>lia) (by lia) (by rw[hj];simpa using ew) ⟨rfl,fin⟩) hs
theorem wc:IxR X (mR X.K):=by
 intro value slice pins s σ H x y v u Q I rx ry h hs;obtain⟨p,xs,i,z,rfl,rfl,hq,he,q⟩:=h;cases rx;obtain⟨t,rfl⟩:=ry;obtain⟨its,r,pl,hz⟩:=I.tuple hq;obtain⟨j,h1,h2,h3,h4,h5⟩:=rq he;obtain⟨w,ew,Lu⟩:=r.get h2;have hl:=r.length;have hn:=iD;have fin:EP X pins σ Q w s:=⟨z,H,I,Lu,q⟩
 exact subscriptTail_builtinR (x:=w) pl.typeIs slot_tuple_getitem.lookup
  (getItem_tuple (j:=j) (Q:=λr s'=>r=w/\EP X pins σ Q r s') pl (by lia) (by lia) (by rw[aU,<-hl];exact h1) (by simpa using ew) ⟨rfl,fin⟩) hs
theorem yd(its:List ae)(n j:Nat)(u:ae):bx (·.setIfInBounds j u) {cls:=.type "list",data:=.seq its.toArray n}={cls:=.type "list",data:=.seq (its.set j u).toArray n}:=by
 simp[bx]
theorem Inv.lst{pins:List (Addr×Obj)}{σ:St}{H:Hp}{s:af}{p:Addr}{xs:List V}(I:Inv X pins σ H s)(h:H p=some (.lst xs)) :
  ∃(its:List ae) (n:Nat),Vals xs its/\s.heap.get? p=some {cls:=.type "list",data:=.seq its.toArray n}/\xs.length<=sizeLine:=by
 obtain⟨z,its,n,r,e⟩:=I.hok p _ h;exact⟨its,n,r,e,z⟩
theorem Inv.lstUpd{pins:List (Addr×Obj)}{σ:St}{H:Hp}{s:af}{p:Addr}{xs ys:List V}{its its':List ae}{n n':Nat}{f:Obj->Obj}(I:Inv X pins σ H s)(h:H p=some (.lst xs))
  (ho:s.heap.get? p=some {cls:=.type "list",data:=.seq its.toArray n}) (hf:f {cls:=.type "list",data:=.seq its.toArray n}={cls:=.type "list",data:=.seq its'.toArray n'}) (r:Vals ys its') (hz:ys.length<=aR) (t:Nat) :
  Inv X pins σ (upd H p (.lst ys)) {s with heap:=s.heap.update p f,toks:=t}:=by
 have e:(s.heap.update p f).get? p=some {cls:=.type "list",data:=.seq its'.toArray n'}:=by
  rw[Heap.get?_update_self f ho (by rw[hf]<;>rfl),hf]
 refine I.write (x:=p) (e:=p) (by rw[h];trivial) (.inl rfl) (λb u hb q=>(Heap.get?_update_other _ _ (bH hb)).trans q) ⟨_,e⟩ ?_;exact⟨hz,its',n',r,e⟩
def mV:V->V->V->Hp->(Hp->Prop)->Prop:=λo i v H Q=>∃p xs k j,o=.ref p/\i=.int k/\H p=some (.lst xs)/\ixN xs.length k=some j/\Q (upd H p (.lst (xs.set j v)))
theorem set_list:pQ X mV:=by
 intro pins s σ H o i v ov iv u Q I ro ri rv h;obtain⟨p,xs,k,j,rfl,rfl,hp,hj,q⟩:=h;cases ro;obtain⟨t,rfl⟩:=ri;obtain⟨its,n,r,ho,hz⟩:=I.lst hp;obtain⟨h1,h2,h3,h4⟩:=rR hj;have hl:=r.length;have hn:=iD;have I':Inv X pins σ (upd H p (.lst (xs.set j v))) {s with heap:=s.heap.update p (bx (·.setIfInBounds j u))}:=
  I.lstUpd hp ho (yd its n j u) (r.set rv j) (by rw[List.length_set];exact hz) s.toks
 by_cases h0:0<=k
 ·have hk:k.toNat=j:=by
   rw[seqIndex_of h0 h4]at h1;exact bB h1
  exact PySem.W.ki_setAt ho h0 (by lia) (by rw[aU,<-hl];exact h4) (by rw[hk];exact⟨_,I',q⟩)
 ·have hk:(k+(its.toArray.size:Int)).toNat=j:=by
   rw[seqIndex_neg (by lia) h3]at h1;rw[aU,<-hl];exact bB h1
  exact PySem.W.ki_setBack ho (by lia) (by rw[aU,<-hl];exact h3) (by lia) (by rw[hk];exact⟨_,I',q⟩)
theorem Ez(lo hi:Option Int)(n:Nat):(sliceBounds lo hi none n).1=((HT.sIx n 0 lo:Nat):Int)/\(sliceBounds lo hi none n).2.1=((HT.sIx n n hi:Nat):Int)/\(sliceBounds lo hi none n).2.2=1:=by
 refine⟨?_,?_,rfl⟩
 ·cases lo with
  |none=>simp[sliceBounds,HT.sIx]
  |some i=>
   simp only[sliceBounds,HT.sIx,Option.getD_none,show (1:Int)>0 by decide,if_true];by_cases h:i<0
   ·simp only[h,if_true]<;>lia
   ·simp only[h,if_false]<;>lia
 ·cases hi with
  |none=>simp[sliceBounds,HT.sIx]
  |some i=>
   simp only[sliceBounds,HT.sIx,Option.getD_none,show (1:Int)>0 by decide,if_true];by_cases h:i<0
   ·simp only[h,if_true]<;>lia
   ·simp only[h,if_false]<;>lia
theorem wx(its:List ae)(lo hi:Option Int):slicePick its.toArray lo hi none=((its.drop (HT.sIx its.length 0 lo)).take (HT.sIx its.length its.length hi-HT.sIx its.length 0 lo)).toArray:=by
 obtain⟨h1,h2,h3⟩:=Ez lo hi its.toArray.size;unfold slicePick;rw[h1,h2,h3];simp only[sliceRange_one,pick_run,aU]<;>rfl
def yg(K:az):V->Option Int->Option Int->Hp->VK->Prop:=λx lo hi H Q=>∃a xs,x=.ref a/\SqL K H a xs/\∀p,H p=none->Q (.ref p) (upd H p (.lst (fL xs lo hi)))
theorem vV:SlR X (yg X.K):=by
 intro pins s σ H x v vl vu lo hi sl Q I rx hs pl pu h;obtain⟨a,xs,rfl,hx,q⟩:=h;cases rx;obtain⟨its,r,ht,hz⟩:=I.list hx;have hlen:=r.length;refine⟨"list",_,slot_list_getitem.lookup,ht.isList.typeIs,?_⟩;refine wpAny_getItem_list_slice ht.isList hs pl pu .none (by simp) ?_ (by rw[aU]<;>lia);rw[wx,<-hlen];refine⟨.ref s.heap.objs.size,_,I.laid (t':=s.toks) (o:=.lst (fL xs lo hi)) (λb ob q=>Heap.get?_push_of_some _ q) (aH _) ?_,rfl,q _ (I.hok.fresh (aH _))⟩;exact⟨br (sZ xs lo hi) hz,_,0,(r.drop (HT.sIx xs.length 0 lo)).take (HT.sIx xs.length xs.length hi-HT.sIx xs.length 0 lo),Heap.get?_push_size _ rfl⟩
theorem Cz:za X (.builtin "len") (λxs H Q=>∃p ys,xs=[.ref p]/\(SqL X.K H p ys\/SqT X.K H p ys)/\Q (.int ys.length) H):=by
 intro pins s σ H xs us Q I r h;obtain⟨p,ys,rfl,hq,q⟩:=h;obtain⟨u,rfl,rx⟩:=vals1 r;cases rx;have hn:=iD;rcases hq with hq|hq
 ·obtain⟨its,r',pl,hz⟩:=I.list hq;have hlen:=r'.length;exact Calls.call_len_list pl.isList (by simp only[aU]<;>lia) ⟨.int ys.length,H,I.tok _,⟨s.toks+1,by rw[aU,hlen]⟩,q⟩
 ·obtain⟨its,r',pl,hz⟩:=I.tuple hq;have hlen:=r'.length;exact len_tuple pl (by simp only[aU]<;>lia) ⟨.int ys.length,H,I.tok _,⟨s.toks+1,by rw[aU,hlen]⟩,q⟩
theorem za.or{f:ae}{r r':List V->Hp->VK->Prop}(h:za X f r)(h':za X f r'):za X f (λxs H Q=>r xs H Q\/r' xs H Q):=by
 intro pins s σ H xs us Q I rs q;rcases q with q|q
 ·exact h pins s σ H xs us Q I rs q
 ·exact h' pins s σ H xs us Q I rs q
theorem yZ:za X (.type "list") (λxs H Q=>∃p ys,xs=[.ref p]/\(SqL X.K H p ys\/SqT X.K H p ys)/\∀l,H l=none->Q (.ref l) (upd H l (.lst ys))):=by
 intro pins s σ H xs us Q I r h;obtain⟨p,ys,rfl,hq,q⟩:=h;obtain⟨u,rfl,rx⟩:=vals1 r;cases rx;have fin:∀(its:List ae),Vals ys its->ys.length<=aR->∀(h':Heap) (c':Nat),(∀b o',s.heap.get? b=some o'->h'.get? b=some o') ->
   h'.get? s.heap.objs.size=some {cls:=.type "list",dict:=none,data:=.seq its.toArray c',slots:=#[]}->EP X pins σ Q (.ref s.heap.objs.size) {s with heap:=h'}:=λits r' hz h' c' kp e=>
  ⟨.ref s.heap.objs.size,_,I.laid (t':=s.toks) kp (aH _) (show zG X.prog X.w _ h' _ (.lst ys)from ⟨hz,its,c',r',e⟩),rfl,q _ (I.hok.fresh (aH _))⟩
 rcases hq with hq|hq
 ·obtain⟨its,r',pl,hz⟩:=I.list hq;have hlen:=r'.length;obtain⟨o,ho,hc,n,hd⟩:=pl.isList;exact call_list_seq p (.inl rfl) ho hc hd (λh' c' kp e=>fin its r' hz h' c' kp e) (by simp only[aU]<;>lia)
 ·obtain⟨its,r',pl,hz⟩:=I.tuple hq;have hlen:=r'.length;obtain⟨o,ho,hc,n,hd⟩:=pl;exact call_list_seq p (.inr rfl) ho hc hd (λh' c' kp e=>fin its r' hz h' c' kp e) (by simp only[aU]<;>lia)
theorem vI:za X (.type "tuple") (λxs H Q=>∃p ys,xs=[.ref p]/\((SqL X.K H p ys/\∀l,H l=none->Q (.ref l) (upd H l (.tup ys)))\/(SqT X.K H p ys/\Q (.ref p) H))):=by
 intro pins s σ H xs us Q I r h;obtain⟨p,ys,rfl,h⟩:=h;obtain⟨u,rfl,rx⟩:=vals1 r;cases rx;rcases h with ⟨hq,q⟩|⟨hq,q⟩
 ·obtain⟨its,r',pl,hz⟩:=I.list hq;have hlen:=r'.length;refine call_tuple_list pl.isList (λh' kp=>?_) (by simp only[aU]<;>lia);have I1:Inv X pins σ H {s with heap:=h'}:=I.kept (t':=s.toks) kp;have I2:Inv X pins σ (upd H h'.objs.size (.tup ys)) {s with heap:=h'.push {cls:=.type "tuple",data:=.seq its.toArray}}:=
   I1.laid (t':=s.toks) (λb o e=>Heap.get?_push_of_some _ e) (aH _) (show zG X.prog X.w _ _ _ (.tup ys)from ⟨hz,its,r',IsTup.new _ _⟩)
  exact⟨.ref h'.objs.size,_,I2,rfl,q _ (I1.hok.fresh (aH _))⟩
 ·obtain⟨its,r',pl,hz⟩:=I.tuple hq;exact call_tuple_same pl ⟨.ref p,H,I,rfl,q⟩
def tyV(K:az)(T:String)(x:V)(H:Hp):Prop:=match x with
 | .str _=>T = "str"
 | .int _=>T = "int"
 | .ref p=>(T = "list"/\∃xs,SqL K H p xs)\/(T = "tuple"/\∃o,K.lookup p=some o/\o.cls=.type "tuple"/\o.dict=none) \/
   (T = "dict"/\((∃kvs,H p=some (.dK kvs))\/∃kvs,H p=some (.dT kvs)))\/(T = "set"/\∃S n,H p=some (.set S n))
 |_=>False
theorem DB{pins:List (Addr×Obj)}{σ:St}{H:Hp}{s:af}{T:String}{x:V}{v:ae}(I:Inv X pins σ H s)(r:RelV x v)(ty:tyV X.K T x H) :
  s.TypeIs v T/\∀a,v=.ref a->∃ob,s.heap.get? a=some ob/\ob.dict=none:=by
 cases x with
 |str z=>
  obtain⟨t,rfl⟩:=r;cases (show T = "str" from ty);exact⟨typeIs_str s z t,λ_ e=>nomatch e⟩
 |int i=>
  obtain⟨t,rfl⟩:=r;cases (show T = "int" from ty);exact⟨typeIs_int s i t,λ_ e=>nomatch e⟩
 |ref p=>
  cases r;rcases ty with ⟨rfl,xs,hq⟩|⟨rfl,o,hk,hc,hd⟩|⟨rfl,hk⟩|⟨rfl,S,n,hk⟩
  ·obtain⟨its,_,pl,_⟩:=I.list hq;refine⟨pl.isList.typeIs,λa e=>?_⟩;cases e;obtain⟨o,n,e,c,hd,_⟩:=pl;exact⟨o,e,hd⟩
  ·refine⟨⟨o,I.kIn p o hk,hc⟩,λa e=>?_⟩;cases e;exact⟨o,I.kIn _ o hk,hd⟩
  ·have z:∃o,s.heap.get? p=some o/\o.ExactDict:=by
    rcases hk with ⟨kvs,hk⟩|⟨kvs,hk⟩
    ·obtain⟨_,_,_,_,o,_,_,e,ex,_⟩:=I.hok p _ hk;exact⟨o,e,ex⟩
    ·obtain⟨_,_,_,_,o,_,_,e,ex,_⟩:=I.hok p _ hk;exact⟨o,e,ex⟩
   obtain⟨o,e,ex⟩:=z;refine⟨⟨o,e,ex.1⟩,λa e2=>?_⟩;cases e2;exact⟨o,e,ex.2.1⟩
  ·obtain⟨o,_,_,_,e,ex,_⟩:=I.hok p _ hk;refine⟨⟨o,e,ex.1⟩,λa e2=>?_⟩;cases e2;exact⟨o,e,ex.2.1⟩
 |_=>exact bq ty
def tBM(K:az)(T:String)(r:V->List V->Hp->VK->Prop)(to:TE)(t:TA):TE:=λσ H Q=>to σ H λx H1=>tyV K T x H1/\t σ H1 λxs H2=>r x xs H2 Q
variable{o e:Expr}{es:List Expr}{to:TE}{t:TA}{name:Str}{apos cpos:Pos}{T id:String}{r:V->List V->Hp->VK->Prop}
theorem yh(pa:PlainAttrs T)(slot:Slot T name id)(NM:typeOf (.builtin id)=pure (.type "method_descriptor"))(hm:MtR X id r)(ho:PE X o to)(ha:PA X (e::es) t)
  (HJ:attributeBase o name X.env (eval o X.env)=eval o X.env)
  (Lv:((backTo cpos (aV (e::es) X.env)).all (λx=>!x.1)&&(backToKw cpos (keywordEach [] X.env)).all (λx=>x.1.isSome)
   && decide ((e::es).length+([]:List Keyword).length+(if ([]:List Keyword).isEmpty then 0 else 1)<30))=true:=by rfl)
  (JD:(apos.endLine==cpos.line)=true) (hs:aV (e::es) X.env=(false,eval e X.env)::aV es X.env) (He:(backTo cpos (aV es X.env)).any (·.1)=false) :
  PE X (.Call (.Attribute o name apos) (e::es) [] cpos) (tBM X.K T r to t):=by
 intro pins s σ H Q I h;refine wpAny_Call_method_late HJ Lv JD rfl (thn (ho pins s σ H _ I h) λv s1 ⟨x,H1,I1,r1,ty,q1⟩=>?_);obtain⟨h1,h2⟩:=DB I1 r1 ty;refine⟨T,id,pa,slot,NM,h1,h2,?_⟩;have hA:=ha cpos pins s1 σ H1 _ I1 q1;rw[hs]at hA ⊢;refine Calls.callWith_builtin (by show (false||(backTo cpos (aV es X.env)).any (·.1))=false;rw[He]<;>rfl) (Calls.evalArgs_plain ?_);exact thn hA λus s2 ⟨vs,H2,I2,r2,q2⟩=>hm pins s2 σ H2 x vs v us Q I2 r1 r2 q2
/- xs.append(e), list.index on a module's tuple .. are MtR facts of 06m -/
end
def MtM(X:Cx)(id:String)(r:V->List V->Hp->VK->Prop):Prop:=
 ∀(pins:List (Addr×Obj)) (s:af) (σ:St) (H:Hp) (x:V) (xs:List V) (v:ae) (us:List ae) (Q:VK),Inv X pins σ H s->RelV x v->Vals xs us->r x xs H Q ->
  ak (ao X.prog X.w) X.A (call (.builtin id) (v::us)) (EP X pins σ Q) X.xe s
theorem Vals.one{x:V}{us:List ae}(h:Vals [x] us):∃u,us=[u]/\RelV x u:=by
 cases h with
 |cons r h=>cases h;exact⟨_,rfl,r⟩
theorem Vals.two{x y:V}{us:List ae}(h:Vals [x,y] us):∃u v,us=[u,v]/\RelV x u/\RelV y v:=by
 cases h with
 |cons r h=>cases h with
  |cons q h=>cases h;exact⟨_,_,rfl,r,q⟩
theorem Vals.zero:∀{us:List ae},Vals [] us->us=[]
 |_,.nil=>rfl
section
variable{X:Cx}{pins:List (Addr×Obj)}{σ:St}{H:Hp}{s:af}{l b:Addr}{xs ys zs:List V}
theorem Inv.lset{its its':List ae}{n:Nat}{f:Array ae->Array ae}{t':Nat}(I:Inv X pins σ H s)(hH:H l=some (.lst xs))
  (e:s.heap.get? l=some {cls:=.type "list",data:=.seq its.toArray n}) (hf:f its.toArray=its'.toArray) (hv:Vals ys its') (hz:ys.length<=aR) :
  Inv X pins σ (upd H l (.lst ys)) {s with heap:=s.heap.update l (bx f),toks:=t'}:=by
 have q:=PySem.IsL.update e f;rw[hf]at q;refine I.write (x:=l) (e:=l) (by rw[hH];exact trivial) (.inl rfl) (λb' u hb hu=>(Heap.get?_update_other s.heap (bx f) (bH hb)).trans hu) ⟨_,q⟩ ?_;exact⟨hz,its',_,hv,q⟩
theorem Inv.lnew{its:List ae}{t':Nat}(I:Inv X pins σ H s)(hv:Vals ys its)(hz:ys.length<=aR) :
  Inv X pins σ (upd H s.heap.objs.size (.lst ys)) {s with heap:=s.heap.push {cls:=.type "list",data:=.seq its.toArray},toks:=t'}:=
 I.laid (λ_ _ q=>Heap.get?_push_of_some _ q) (aH _) ⟨hz,its,0,hv,Heap.get?_push_size _ rfl⟩
theorem Inv.fresh(I:Inv X pins σ H s):H s.heap.objs.size=none:=I.hok.fresh (aH _)
theorem Inv.lstM(I:Inv X pins σ H s)(hH:H l=some (.lst xs)):xs.length<=aR/\∃(its:List ae) (n:Nat),Vals xs its/\xs.length=its.length/\s.heap.get? l=some {cls:=.type "list",data:=.seq its.toArray n}:=by
 obtain⟨z,its,n,r,e⟩:=I.hok l _ hH;exact⟨z,its,n,r,r.length,e⟩
end
section
variable{X:Cx}
def yz:V->List V->Hp->VK->Prop:=λx vs H Q=>∃l xs y,x=.ref l/\vs=[y]/\H l=some (.lst xs)/\xs.length<aR/\Q .non (upd H l (.lst (xs++[y])))
theorem rA:MtM X "list.append" yz:=by
 intro pins s σ H x vs v us Q I rx rv h;obtain⟨l,xs,y,rfl,rfl,hH,hz,q⟩:=h;cases rx;obtain⟨u,rfl,ru⟩:=rv.one;obtain⟨z,its,n,r,hl,e⟩:=I.lstM hH;refine call_meets F.slot_list_append ⟨_,e,rfl⟩ F.entry_list_append (F.args_list_append_2 _ _) (PySem.list_append l its.toArray n u (by rw[aU];lia)) ⟨e,?_⟩;refine⟨.non,_,I.lset (its':=its++[u]) hH e (by simp) (r.append (.cons ru .nil)) ?_,rfl,q⟩;rw[d_,List.length_singleton];lia
end
section
variable{prog:aF}{w:aB}{A:aG}{E:ae->af->Prop}{s:af}
set_option maxRecDepth 100000 in
end
section
variable{X:Cx}
end
end L2
namespace Att
open PySem PySem.W PySem.Calls PyProof.Rows
theorem uX{P:Params}{h:Heap}:∀(ns:List Int) (vs:List ae),WellAll P h vs (ns.map WData.int)->bz vs ns:=by
 intro ns
 induction ns with
 |nil=>
  intro vs w;rw[List.map_nil]at w;cases w;exact .nil
 |cons n ns ih=>
  intro vs w;rw[aN]at w;cases w with
  |cons a b=>
   cases a;exact .cons _ _ (ih _ b)
theorem EU{l:OpenLaw}{n:Nat}(hn:l.most=some n){P:Params}{h:Heap}{args:List WData}{vals:List ae}
  (Ii:l.row.toRowW.claim.pre args=true) (Lx:WellAll P h vals args) :
  ∃a vs ns,vals=[a8 a]/\args=[WData.list (ns.map WData.int)]/\h.get? a=some {cls:=.type "list",data:=.seq vs.toArray}/\bz vs ns/\ns.length<=n:=by
 have JE:WShape.hasAll [] args [.list .int]=true:=(pre_splitW Ii).1;have hc:l.pre.holds [] {args:=args}=true:=(pre_splitW Ii).2;obtain⟨d,r,rfl,h1,h2⟩:=hasAllW_cons JE;obtain rfl:=hasAllW_nil h2;obtain⟨xs,rfl,h3⟩:=hasW_list h1;obtain⟨ns,rfl⟩:=items_int h3;have hlen:ns.length<=n:=by
  unfold OpenLaw.pre at hc;have h4:(WTm.not (.lt (.lit (.int (n:Int))) (.len (.arg 0)))).holds [] {args:=[.list (ns.map .int)]}=true:=by
   have h4:=(holds_andW hc).1;rw[hn]at h4;exact h4
  have h5:=condW_of h4 (w_not (w_lt w_lit (w_len_list (w_arg rfl))));rw[bG]at h5;refine Nat.le_of_not_lt λq=>?_
  have q':(n:Int)<((ns.length:Nat):Int):=by lia
  first
   | (rw[decide_eq_true q']at h5;exact absurd h5 (by decide))
   | (simp at h5;lia)
 cases Lx with
 |cons w1 w2=>
  cases w2;cases w1 with
  |list ho GP=>exact⟨_,_,ns,rfl,rfl,ho,uX ns _ GP,hlen⟩
theorem yA(l:OpenLaw)(args:List WData):l.row.toRowW.claim.post args (.bool true) args=true:=
 postW_of (r:=l.row.toRowW) (X:=(true==true))
  (show WShape.has [] (.bool true) .bool=true by first|rfl|decide|simp[WShape.has,WShape.arms,WShape.armsAll])
  (show (WTm.eq .res (.lit (.bool true))).value [] {args:=args,res:=some (.bool true),after:=args}=some (.bool (true==true))from w_eq_bool (w_res rfl) w_lit) rfl
theorem AQ{l:OpenLaw}{n:Nat}{q:aF}{loose:List Str}{XP:(Str->Option ae)->Heap->Prop}{YP:aB->Heap->Prop}{d:DefRec}
  (hn:l.most=some n) (IM:d.params.defaults=[])
  (call:∀(w:aB) (s₀ s₁:af) (mg mb:Str->Option ae) (fa:Addr) (o:Obj) (pm cd doc:ae) (a:Addr) (vs:List ae) (ns:List Int),
   Ground q loose [] XP w s₀ mg mb s₁.heap->YP w s₁.heap ->
   s₁.heap.get? fa=some o->o.data=.func (docDef d.name d.params d.body d.scope pm cd doc)->s₁.heap.CodeRec cd d.name->mg d.name=some (.ref fa) ->
   s₁.heap.get? a=some {cls:=.type "list",data:=.seq vs.toArray}->bz vs ns->ns.length<=n->s₁.gens = #[] ->
   codeAny (ao l.prog w) callerA (.call (.ref fa) ⟨[.ref a],[]⟩) (λr s'=>r=.ok (.ret (.bool true))/\OldK s₁.heap s'.heap/\s'.os=s₁.os/\AllBare s'.gens) s₁) :
  WalkO q loose XP YP l.row.toRowW d [] (λf vs=>PySem.call f vs):=by
 intro w s₀ s₁ mg mb G Y fa o pm cd doc dV kV ho hd GO hD hmg hg args vals as Ii hlay hrd Lx Hg;obtain rfl:dV=.none:=Dflts.none hD IM;obtain rfl:kV=.none:=Dflts.noKw hD;obtain⟨a,vs,ns,rfl,rfl,IP,hints,hlen⟩:=EU hn Ii Lx;refine enter_call (codeAny_mono (call w s₀ s₁ mg mb fa o pm cd doc a vs ns G Y ho (fd_plain hd) GO hmg IP hints hlen hg) λr s' hq=>?_);obtain⟨rfl,h2,h3,h4⟩:=hq;exact⟨.inl ⟨.bool true,.bool true,[],rfl,λ_=>rfl,.bool true,yA l _,λ_=>⟨List.Pairwise.nil,λ_ hm=>(nomatch hm)⟩⟩,h2,h3,h4⟩
section
variable{prog:aF}{w:aB}{A:aG}{E:ae->af->Prop}{s:af}{K:Frag}
end
end Att
namespace L2
open PySem PySem.Spec PyProof.Rows
theorem oB:∀{vs:List ae}{ns:List Int},bz vs ns->Vals (ns.map V.int) vs
 |_,_,.nil=>.nil
 |_,_,.cons n t h=>.cons ⟨t,rfl⟩ (oB h)
def mm(H:Hp):Prop:=∀b,H b=none\/∃o xs,H b=some (.frz o (.lst xs))
theorem AR{P:aF}{w:aB}{K:az}{mg mb:Str->Option ae}{CX:CXT}{k:Nat}{fa a:Addr}{fd:FuncData}{x:Str}{sp:Sp}{s₁:af}{vs:List ae}{ns:List Int}
  (KX:K.In s₁.heap) (hns:s₁.heap.Ns aC mg) (hb:s₁.heap.Ns builtinsNs mb) (Ly:∀x:Str,x≠"__name__"->mb x=bT x) (Lz:s₁.heap.NoLimit) (hg:s₁.gens = #[])
  (ha:s₁.heap.get? a=some {cls:=.type "list",data:=.seq vs.toArray}) (hi:bz vs ns) (hl:ns.length<=aR) (hr:cP k callerA)
  (F:∀base:Heap,K.In base->base.Ns aC mg->gb P w K mg base CX k fa fd [x] sp) (JF:∀(s:af) (u:ae),BindsTo s fd ⟨[u],[]⟩ [(x,u)])
  (HV:∀H:Hp,mm H->SqL K H a (ns.map V.int)->sp [.ref a] H (λv _=>v=.bl true) λ_ _ _=>False)
  (LA:∀H e s',CX [] H s₁ (λ_ _ _=>False) e s'->False) :
  codeAny (ao P w) callerA (.call (.ref fa) ⟨[.ref a],[]⟩) (λr s'=>r=.ok (.ret (.bool true))/\OldK s₁.heap s'.heap/\s'.os=s₁.os/\AllBare s'.gens) s₁:=by
 have rv:=oB hi;have LC:=hi.length
 -- from an abstract heap in which nothing but the script may be tracked
 have core:∀H:Hp,mm H->SqL K H a (ns.map V.int)->HOk P w H s₁.heap->(∀b,H b≠none->b=a)->(H a≠none->K.lookup a=none) ->
   codeAny (ao P w) callerA (.call (.ref fa) ⟨[.ref a],[]⟩) (λr s'=>r=.ok (.ret (.bool true))/\OldK s₁.heap s'.heap/\s'.os=s₁.os/\AllBare s'.gens) s₁:=by
  intro H hO hS hok hA hK;have Hm:∀{b:Addr}{o:Obj},s₁.heap.get? b=some o->H b=none->(fz s₁.heap H).get? b=some o:=λe n=>xi e n
  have JA:∀{b:Addr}{o:Obj}{es:Array DictEntry}{ep:Nat},s₁.heap.get? b=some o->o.data=.dict es ep->H b=none:=λ{b o es ep} e d=>by
   cases q:H b with
   |none=>rfl
   |some u=>
    have e':b=a:=hA b (by rw[q];simp);subst e';rw[ha]at e;cases e;have d':Data.seq vs.toArray _=Data.dict es ep:=d;cases d'
  have Km:∀{b:Addr}{m:Str->Option ae},s₁.heap.Ns b m->(fz s₁.heap H).Ns b m:=λ{b m} ⟨o,es,ep,e,d,r⟩=>⟨o,es,ep,Hm e (JA e d),d,r⟩
  have MO:K.In (fz s₁.heap H):=λb o e=>Hm (KX b o e) (by
   cases q:H b with
   |none=>rfl
   |some u=>
    have e':b=a:=hA b (by rw[q];simp);subst e';rw[hK (by rw[q];simp)]at e;cases e)
  have hM:Mod K mg (fz s₁.heap H):=⟨MO,Km hns,⟨mb,Km hb,Ly⟩,let ⟨mc,h1,h2⟩:=Lz;⟨mc,Km h1,h2⟩⟩
  have e0:ji P w K mg (fz s₁.heap H) callerA [] s₁ H:=⟨rfl,hM,λb o e=>AX e,Nat.le_of_eq (FC _ _),trivial,λb hb=>absurd (show b∈([]:List Addr)from hb) (by simp),hok,.of_eq hg⟩
  refine codeAny_mono ((F _ MO (Km hns)).run callerA [] s₁ H ⟨[.ref a],[]⟩ [.ref a] [.ref a] _ _ hr e0 (JF s₁ (.ref a)) (.cons rfl .nil) (HV H hO hS)) λr s' h=>?_
  cases r with
  |error e=>exact(LA H e s' h).elim
  |ok fl=>
   cases fl with
   |next=>exact bq h
   |brk=>exact bq h
   |cont=>exact bq h
   |ret u=>
    obtain⟨v,H',os,bare,un,LD,r',q⟩:=h;have q':v=.bl true:=q;subst q';obtain rfl:u=ae.bool true:=r';refine⟨rfl,OldK.of_keep λb o e=>?_,os,bare⟩;cases q:H b with
    |none=>exact un.keep b o e q (by intro z;exact absurd (show b∈([]:List Addr)from z) (by simp)) (by simp)
    |some u=>
     rcases hO b with z|⟨ob,xs,z⟩
     ·rw[q]at z;cases z
     ·have z2:=un.frzs b ob _ z;obtain⟨e1,_⟩:=hok b _ z;obtain⟨e2,_⟩:=LD b _ z2;rw[e]at e1;cases e1;exact e2
 cases hk:K.lookup a with
 |some o=>
  -- the script is one of the module's own objects
  have e:=KX a o hk;rw[ha]at e;cases e;refine core (λ_=>none) (λ_=>.inl rfl) (.inr ⟨_,vs.toArray,_,hk,rfl,rfl,rfl,by rw[aU,LC];exact hl,by simpa using rv⟩) (λb u z=>by have z':(none:Option HO)=some u:=z;cases z') (λb z=>absurd rfl z) λz=>absurd rfl z
 |none=>
  refine core (λb=>if b=a then some (.frz {cls:=.type "list",data:=.seq vs.toArray} (.lst (ns.map V.int)))else none) (λb=>?_) (.inl (.inr ⟨{cls:=.type "list",data:=.seq vs.toArray},if_pos rfl⟩)) (λb u z=>?_) (λb z=>?_) λ_=>hk
  ·by_cases hb:b=a
   ·exact .inr ⟨_,_,if_pos hb⟩
   ·exact .inl (if_neg hb)
  ·by_cases hb:b=a
   ·have z':=(if_pos hb).symm.trans z;cases z';subst hb;exact⟨ha,by rw[bG];exact hl,vs,_,rv,ha⟩
   ·have z':=(if_neg hb).symm.trans z;cases z'
  ·by_cases hb:b=a
   ·exact hb
   ·exact absurd (if_neg hb) z
theorem DN{l:PySem.W.OpenLaw}{n k:Nat}{q:aF}{loose:List Str}{XP:(Str->Option ae)->Heap->Prop}{YP:aB->Heap->Prop}{d:DefRec}{K:Params->az}{CX:aB->CXT}{sp:aB->Sp}{x:Str}
  (hn:l.most=some n) (MP:n<=aR) (IM:d.params.defaults=[]) (hr:cP k callerA)
  (hY:∀(w:aB) (h:Heap),YP w h->(K w.params).In h)
  (F:∀(w:aB) (mg:Str->Option ae) (fa:Addr) (h:Heap),(K w.params).In h->h.Ns aC mg->mg d.name=some (.ref fa) ->
   ∃fd:FuncData,(∀(s:af) (u:ae),BindsTo s fd ⟨[u],[]⟩ [(x,u)]) /\
    ∀base:Heap,(K w.params).In base->base.Ns aC mg->gb l.prog w (K w.params) mg base (CX w) k fa fd [x] (sp w))
  (HV:∀(w:aB) (H:Hp) (a:Addr) (ns:List Int),ns.length<=n->mm H->SqL (K w.params) H a (ns.map V.int)->sp w [.ref a] H (λv _=>v=.bl true) λ_ _ _=>False)
  (LA:∀(w:aB) (H:Hp) (s:af) (e:ae) (s':af),CX w [] H s (λ_ _ _=>False) e s'->False) :
  PySem.W.WalkO q loose XP YP l.row.toRowW d [] (λf vs=>PySem.call f vs):=by
 refine Att.AQ hn IM λw s₀ s₁ mg mb fa o pm cd doc a vs ns G Y ho hd GO hmg IP hints hlen hg=>?_
 have KX:=hY w _ Y;obtain⟨fd,hb,hF⟩:=F w mg fa _ KX G.T.g hmg;exact AR KX G.T.g G.T.b G.T.builtins G.T.nolimit hg IP hints (br hlen MP) hr hF hb (λH hO hS=>HV w H a ns hlen hO hS) λH e s'=>LA w H s₁ e s'
end L2
/- THE LAST THEOREM (shape; LID, My.* are yours):
   My.Adr: a structure of the addresses that your layer names (classes, functions); My.Txt K t: a structure (Prop) of the equations over K;
   My.txt_mk : {K} {implicit addresses ..} (e1 : nsIn K mainGlobals "law" = some (some (.ref f))) (e2 : K.lookup f = some ⟨oc, od, .func (fnOf "law" "law" params body scope dV kV doc pm an cdv ct), sl⟩) (e3 : codeIn K cdv "law" = true) .. : ∃ t, My.Txt K t
set_option maxRecDepth 100000 in
set_option maxHeartbeats 0 in
theorem PySem.Challenge.cw_LID_holds : PySem.Challenge.rw_LID.Holds := by
 w_on; o_law; k_head; (case hw => w_witness2)
 k_fill
 refine L2.walk_of (l := PySem.Challenge.rw_LID) (n := 63) (k := 40) (x := "script") (CX := fun w => ..) (sp := fun _ => My.sp_law) rfl (by decide) rfl ⟨rfl, by decide, by decide⟩ (fun w h Y => PySem.W.kIn_of Y) ?F ?S ?C
 case F =>
  intro w mg fa h KX G hmg;have T : ∃ t, My.Txt (L2.KOf KX) t := by
   dsimp only [L2.KOf]                          -- K must stand as «<heap const> w.params» for k_is
   refine' My.txt_mk ?e1 ?e2 ?e3 ..
   (case e1 => PySem.W.k_is)                    -- in the order: a name -> its address -> its object -> its parts
   (case e2 => PySem.W.k_is)
   ..
  obtain ⟨t, T⟩ := T;have e0 := hmg.symm.trans (PySem.W.mg_of KX G T.law);cases e0                                       -- fa is the law's own address
  exact ⟨_, fun s u => .of_eq rfl, fun base kb nb => My.law_fn T kb nb⟩     -- if «.of_eq rfl» comes too early: refine' ⟨_, ?b, fun base kb nb => My.law_fn T kb nb⟩; exact fun s u => .of_eq rfl
 case S => exact fun w H a ns hl hO hS => ..
 case C => exact ..
(the tactic k_is has no namespace: write k_is) -/
namespace L2
open PySem PySem.Spec PyProof.Rows
noncomputable def ze(s:Stmt):Arguments:=match s with
 | .FunctionDef _ a _ _ _ _ _ _ _ _=>a
 |_=>{posonlyargs:=[],args:=[],vararg:=none,kwonlyargs:=[],kw_defaults:=[],kwarg:=none,defaults:=[]}
noncomputable def zQ(s:Stmt):List Stmt:=match s with
 | .FunctionDef _ _ b _ _ _ _ _ _ _=>b
 |_=>[]
noncomputable def qF(s:Stmt):Scope:=match s with
 | .FunctionDef _ _ _ _ _ _ sc _ _ _=>sc
 |_=>{kind:=.function,names:=[],isGenerator:=false,isCoroutine:=false}
abbrev E0:XK:=λ_ _ _=>False
structure Fun(K:az)(x qual:Str)(st:Stmt)(f:Addr)(fd:FuncData):Prop where
 ex:∃(oc:ae) (od:Option Addr) (kV doc pm:ae) (an:Option Addr) (cdv ct:ae) (osl:Array (Option ae)),
  fd=cK x qual (ze st) (zQ st) (qF st) .none kV doc pm an cdv ct/\K.lookup f=some ⟨oc,od,.func fd,osl⟩/\PySem.W.codeIn K cdv qual=true
 kp:de K (.ref f)=true
section
variable{P:aF}{w:aB}{K:az}{mg:Str->Option ae}{base:Heap}
theorem Fun.binds{x qual:Str}{st:Stmt}{f:Addr}{fd:FuncData}{ps:List Str}(F:Fun K x qual st f fd)
  (h:∀(kV doc pm:ae) (an:Option Addr) (cdv ct:ae) (us:List ae),us.length=ps.length->bindArgs (cK x qual (ze st) (zQ st) (qF st) .none kV doc pm an cdv ct) ⟨us,[]⟩=pure (ps.zip us)):Binds K fd ps []:=by
 obtain⟨oc,od,kV,doc,pm,an,cdv,ct,osl,rfl,lk,GO⟩:=F.ex;exact .all (h kV doc pm an cdv ct)
theorem sR{x qual:Str}{st:Stmt}{f:Addr}{oc:ae}{od an:Option Addr}{osl:Array (Option ae)}{kV doc pm cdv ct:ae}(l:K.lookup f=some ⟨oc,od,.func (cK x qual (ze st) (zQ st) (qF st) .none kV doc pm an cdv ct),osl⟩)
  (c:PySem.W.codeIn K cdv qual=true) (k:de K (.ref f)=true):Fun K x qual st f (cK x qual (ze st) (zQ st) (qF st) .none kV doc pm an cdv ct):=⟨⟨oc,od,kV,doc,pm,an,cdv,ct,osl,rfl,l,c⟩,k⟩
end
section
variable{X:Cx}
end
def qf(H H':Hp):Prop:=∀b o,H b=some o->H' b=some o
theorem qf.refl(H:Hp):qf H H:=λ_ _ h=>h
theorem qf.trans{H H1 H2:Hp}(a:qf H H1)(b:qf H1 H2):qf H H2:=λc o h=>b c o (a c o h)
theorem qf.free{H H':Hp}(e:qf H H'){l:Addr}(h:H' l=Option.none):H l=Option.none:=by
 cases q:H l with
 |none=>rfl
 |some o=>
  rw[e l o q]at h;cases h
theorem qf.seq{K:az}{H H':Hp}{a:Addr}{xs:List V}(e:qf H H')(h:SqL K H a xs):SqL K H' a xs:=by
 rcases h with (h|⟨o,h⟩)|h
 ·exact .inl (.inl (e _ _ h))
 ·exact .inl (.inr ⟨o,e _ _ h⟩)
 ·exact .inr h
noncomputable def fE(elt:Expr)(gens:List cJ)(scope:a9)(pos:Pos)(d:Nat)(acc:ae)(env:Env):Sem Unit:=
 match gens[d+1]? with
 |some g'=>do
  let x <-eval g'.iter env
  standAt g'.iter.pos
  let x <-foldedSetIterable g'.iter env x
  let _ <-runOwn (.compStart (.ListComp elt gens scope pos) (d+1) (<-holding [x] (pyIter x)) acc env) env
  pure ()
 |none=>do
  let _ <-call (.builtin "list.append") [acc,<-eval elt env]
  pure ()
theorem Ew{elt:Expr}{gens:List cJ}{scope:a9}{pos:Pos}{d:Nat}{g:cJ}{it acc:ae}{env:Env}(hg:gens[d]? = some g)(ha:g.is_async=0)
  (hn:∀g',gens[d+1]? = some g'->g'.is_async=0) :
  compTurn (.ListComp elt gens scope pos) d it acc env=(do
   standAt g.iter.pos
   match <-pyNext it with
   |none=>pure (.done .next)
   |some v=>
    letOwnedTupleGo g.target it v
    assign g.target env v
    let ok <-(forIn g.ifs true λc r=>if r=true then do let ok <-isTrue c env (eval c env);pure (dI ok)else pure (dI r))
    if ok then
     fE elt gens scope pos d acc env
     again (.compLoop (.ListComp elt gens scope pos) d it acc env)
    else again (.compLoop (.ListComp elt gens scope pos) d it acc env)):=by
 unfold compTurn;cases e:gens[d+1]? with
 |none=>
  simp only[hg,ha,e,fE]
  rfl
 |some g'=>
  have Kn:=hn g' e;simp only[hg,ha,e,Kn,fE];simp only[bne_self_eq_false,bL,if_false,bind_assoc,pure_bind]
  rfl
theorem Be{prog:aF}{w:aB}{A:aG}{R:Result->af->Prop}{s:af}{elt:Expr}{gens:List cJ}{scope:a9}{pos:Pos}{d:Nat}{g:cJ}{it acc:ae}{env:Env}
  (hg:gens[d]? = some g) (ha:g.is_async=0)
  (h0:codeAny (ao prog w) A (.compLoop (.ListComp elt gens scope pos) d it acc env) R s)
  (h:ak (ao prog w) A (pyIter it) (λHY s'=>codeAny (ao prog w) A (.compLoop (.ListComp elt gens scope pos) d HY acc env) R s')
   (notedBy (ao prog w) A env λx s'=>R (.error x) s') s) :
  codeAny (ao prog w) A (.compStart (.ListComp elt gens scope pos) d it acc env) R s:=by
 refine codeAny_of_tree ?_;show ak _ _ ((compStart (.ListComp elt gens scope pos) d it acc env).onRaise (λx=>do noteFrame x env;standAt theWindowsPlace)) _ _ s;refine wpAny_notedAt ?_;unfold compStart;have e2:(clausesOf (.ListComp elt gens scope pos))[d]? = some g:=hg;simp only[e2];rw[if_neg (by show ¬ (g.is_async != 0)=true;simp[ha])];show ak _ _ (ask>>=_) _ _ s;refine ag (wpAny_askSetting (wpAny_ite ?_));split
 ·first
   |exact ag (aA (aA (aw rfl h0)))
   |exact aA (aw rfl h0)
 ·first
   |exact ag (wpAny_rule (ag (wpAny_standAt (ag (bK h (λHY s' h'=>aA (aw rfl h')) λ_ _ x=>x)))))
   | (refine ag (wpAny_rule ?_);show ak _ _ (standAt g.iter.pos>>=_) _ _ s;exact ag (wpAny_standAt (ag (bK h (λHY s' h'=>aA (aw rfl h')) λ_ _ x=>x))))
def PTs(Y:Cx)(ifs:List Expr)(t:TT):Prop:=
 ∀(pins:List (Addr×Obj)) (s:af) (σ:St) (H:Hp) (Q:Bool->Hp->Prop),Inv Y pins σ H s->t σ H Q ->
  ak (ao Y.prog Y.w) Y.A (forIn ifs true λc r=>if r=true then do let ok <-isTrue c Y.env (eval c Y.env);pure (dI ok)else pure (dI r)) (TP Y pins σ Q) Y.xe s
def uO:TT:=λ_ H Q=>Q true H
theorem Fg{Y:Cx}:PTs Y [] uO:=λ_ _ _ H _ I h=>wpAny_tests_nil ⟨H,I,h⟩
theorem uq{Y:Cx}{c:Expr}{t:TT}(hc:PT Y c t):PTs Y [c] t:=λpins s σ H Q I h=>wpAny_tests_one (hc pins s σ H Q I h)
def PB(Y:Cx)(m:Sem Unit)(t:TS):Prop:=
 ∀(pins:List (Addr×Obj)) (s:af) (σ:St) (H:Hp) (D:Ends),Inv Y pins σ H s->t D σ H ->
  ak (ao Y.prog Y.w) Y.A m (λ_ s'=>∃σ' H',Inv Y pins σ' H' s'/\D.nx σ' H') Y.xe s
section
variable{Y:Cx}{elt:Expr}{gens:List cJ}{scope:a9}{pos:Pos}{d:Nat}
def kB(acc:Addr)(te:TE):TS:=λD σ H=>te σ H λy H1=>∃xs,H1 acc=some (.lst xs)/\xs.length<aR/\D.nx σ (upd H1 acc (.lst (xs++[y])))
theorem nF{acc:Addr}{te:TE}(hn:gens[d+1]? = none)(he:PE Y elt te):PB Y (fE elt gens scope pos d (.ref acc) Y.env) (kB acc te):=by
 intro pins s σ H D I h;unfold fE;rw[hn];refine ag (thn (he pins s σ H _ I h) λu s1 ⟨y,H1,I1,r1,xs,hx,hz,q⟩=>?_);refine ag (thn (rA pins s1 σ H1 (.ref acc) [y] (.ref acc) [u] (λ_ H'=>D.nx σ H') I1 rfl (.cons r1 .nil) ⟨acc,xs,y,rfl,rfl,hx,hz,q⟩) λ_ s2 ⟨_,H2,I2,_,q2⟩=>?_);exact aA ⟨σ,H2,I2,q2⟩
theorem wF{g:cJ}{it:Addr}{acc:ae}{fp:List Addr}{tn:Nat->Heap->Prop}{J:It}{tg:TG}{tt:TT}{tb:TS}(hc:Y.calm=true)(hx:∀e s,¬ Y.xe e s)(hg:gens[d]? = some g)(ha:g.is_async=0)
  (hn:∀g',gens[d+1]? = some g'->g'.is_async=0) (T:Turn Y.prog Y.w Y.K g.target J fp it tn) (pg:PG Y g.target tg) (pt:PTs Y g.ifs tt) (pb:PB Y (fE elt gens scope pos d acc Y.env) tb)
  {pins:List (Addr×Obj)}{s:af}{σ:St}{H:Hp}{D:Ends} (I:Inv Y pins σ H s) (st:tn 0 s.heap) (fr:∀b∈fp,dU Y pins H b)
  (h:∃W:Nat->Nat->St->Hp->Prop,(∃m,W 0 m σ H)/\∀i m σ H,W i m σ H ->
   (J.stop i H/\D.nx σ H)\/(J.go i H/\∃N:St->Hp->Prop,(∀σ' H',N σ' H'->∃m',m'<m/\W (i+1) m' σ' H')/\∀x H',J.yld i H x H'->tg x σ H' λσ2 H2=>jF tt tb kx {D with nx:=N,ct:=N,bk:=D.nx} σ2 H2)) :
  codeAny (ao Y.prog Y.w) Y.A (.compLoop (.ListComp elt gens scope pos) d (.ref it) acc Y.env) (λr s'=>r=.ok .next/\∃σ' H',Inv Y pins σ' H' s'/\D.nx σ' H') s:=by
 obtain⟨W,⟨m0,w0⟩,turn⟩:=h;have Hb:∀{H':Hp},(∀b∈fp,H' b=none)->∀b∈fp,dU Y pins H' b:=λhn b hb=>⟨hn b hb,(fr b hb).2⟩
 refine codeAny_loop rfl (λn s'=>∃i σ' H',Inv Y pins σ' H' s'/\tn i s'.heap/\(∀b∈fp,H' b=none)/\W i n σ' H') ?_ m0 ⟨0,σ,H,I,st,λb hb=>(fr b hb).1,w0⟩;rintro n s3 ⟨i,σ3,H3,I3,G3,Jz,w3⟩;show ak _ Y.A ((compTurn (.ListComp elt gens scope pos) d (.ref it) acc Y.env).onRaise (λx=>do noteFrame x Y.env;theTreesLotGoes x)) _ _ s3;refine wpAny_noted ?_;rw[Ew hg ha hn];have nox:∀{E:ae->af->Prop} (e:ae) (s:af),Y.xe e s->E e s:=λe s z=>absurd z (hx e s)
 refine ag (wpAny_standAt ?_);rcases turn i n σ3 H3 w3 with ⟨stop,qn⟩|⟨go,N,hN,step⟩
 ·refine ag (thn (T.done Y rfl rfl rfl hc i pins s3 σ3 H3 _ I3 (Hb Jz) G3 stop) λr s4 ⟨hr,I4⟩=>?_);subst hr;exact aA ⟨rfl,σ3,H3,I4,qn⟩
 ·refine ag (thn (T.item Y rfl rfl rfl hc i pins s3 σ3 H3 _ I3 (Hb Jz) G3 go) λr s4 ⟨u,hr,h4⟩=>?_);subst hr;refine ag (thn h4 λ_ s5 ⟨x,H5,I5,r5,y5,IK,Lo⟩=>?_);have I5':=I5.pinned (Hb Lo) (T.obj _ _ IK);refine ag (bK (pg _ s5 σ3 H5 x u _ I5' r5 (step x H5 y5)) (λ_ s6 ⟨σ6,H6,I6,q6⟩=>?_) nox);have again:∀{s7:af}{σ7:St}{H7:Hp},Inv Y (pins++iT fp s5.heap) σ7 H7 s7->N σ7 H7->∃m,m<n/\∃i σ' H',Inv Y pins σ' H' s7/\tn i s7.heap/\(∀b∈fp,H' b=none)/\W i m σ' H':=λ{s7 σ7 H7} I7 n7=>by
   obtain⟨m',hm,w7⟩:=hN σ7 H7 n7;refine⟨m',hm,i+1,σ7,H7,I7.unpinned,T.keep _ _ _ IK λb hb o e=>(I7.pin (b,o) (cq _ (cq _ (kq hb e)))).1,λb hb=>?_,w7⟩;obtain⟨o,e,d⟩:=T.obj _ _ IK b hb;exact(I7.pin (b,o) (cq _ (cq _ (kq hb e)))).2.1
  refine ag (bK (pt _ s6 σ6 H6 _ I6 q6) (λb s7 ⟨H7,I7,q7⟩=>?_) nox);cases b with
  |true=>
   rw[if_pos rfl];rw[if_pos rfl]at q7;refine ag (bK (pb _ s7 σ6 H7 _ I7 q7) (λ_ s8 ⟨σ8,H8,I8,q8⟩=>?_) nox);exact aA ⟨rfl,again I8 q8⟩
  |false=>
   rw[if_neg cG];rw[if_neg cG]at q7;exact aA ⟨rfl,again I7 q7⟩
end
theorem kI{env:Env}:∀{names:List (Str×aX)}{cs:List (Str×Addr)},(∀x∈names,x.2=.free->∃c,env.cells.lookup x.1=some c) ->
  ∃cl,(forIn names cs (λ(x:Str×aX) (cs:List (Str×Addr))=>if (x.2==cb)=true then do let c <-cellOf env x.1;pure (dI ((x.1,c)::cs))else pure (dI cs)):Sem (List (Str×Addr)))=pure cl /\
   (∀x c,cl.lookup x=some c->env.cells.lookup x=some c\/cs.lookup x=some c)/\(∀x,(∃c,cs.lookup x=some c)->∃c,cl.lookup x=some c)/\∀x∈names,x.2=.free->∃c,cl.lookup x.1=some c
 | [],cs,_=>⟨cs,by rw[List.forIn_nil],λ_ _ h=>.inr h,λ_ h=>h,λ_ h=>nomatch h⟩
 | (n,k)::r,cs,h=>by
  rw[List.forIn_cons];by_cases hk:k=.free
  ·subst hk;obtain⟨c,hc⟩:=h (n,.free) aQ rfl;have e:cellOf env n=pure c:=by
    have IH:env.cells.lookup n=some c:=hc;unfold cellOf;rw[IH]
   obtain⟨cl,e1,e2,e3,e4⟩:=kI (names:=r) (cs:=(n,c)::cs) λx hx=>h x (aO _ hx)
   refine⟨cl,?_,λx c' q=>?_,λx q=>e3 x ?_,λx hx hf=>?_⟩
   ·simp only[beq_self_eq_true,if_true,e,pure_bind];exact e1
   ·rcases e2 x c' q with z|z
    ·exact .inl z
    ·rw[bw]at z;by_cases Jp:(x==n)=true
     ·rw[Jp]at z;have:x=n:=by simpa using Jp
      subst this;cases z;exact .inl hc
     ·have IQ:(x==n)=false:=by simpa using Jp
      rw[IQ]at z;exact .inr z
   ·rw[bw];by_cases Jp:(x==n)=true
    ·rw[Jp];exact⟨c,rfl⟩
    ·have IQ:(x==n)=false:=by simpa using Jp
     rw[IQ];exact q
   ·rcases aP.mp hx with z|z
    ·subst z;exact e3 n ⟨c,by rw[bw,beq_self_eq_true]⟩
    ·exact e4 x z hf
  ·have NN:(k==cb)=false:=by simpa using hk
   obtain⟨cl,e1,e2,e3,e4⟩:=kI (names:=r) (cs:=cs) λx hx=>h x (aO _ hx)
   refine⟨cl,?_,e2,e3,λx hx hf=>?_⟩
   ·simp only[NN,bL,if_false,pure_bind];exact e1
   ·rcases aP.mp hx with z|z
    ·subst z;exact absurd hf hk
    ·exact e4 x z hf
theorem q_{env:Env}{scope:a9}(h:∀x∈scope.names,x.2=.free->∃c,env.cells.lookup x.1=some c) :
  ∃cl,closureFor scope env=pure cl/\(∀x c,cl.lookup x=some c->env.cells.lookup x=some c)/\∀x∈scope.names,x.2=.free->∃c,cl.lookup x.1=some c:=by
 obtain⟨cl,e1,e2,_,e4⟩:=kI (env:=env) (names:=scope.names) (cs:=[]) h;refine⟨cl,?_,λx c q=>(e2 x c q).elim (λz=>z) (λz=>by simp at z),e4⟩;have e:closureFor scope env=(forIn scope.names [] (λ(x:Str×aX) (cs:List (Str×Addr))=>if (x.2==cb)=true then do let c <-cellOf env x.1;pure (dI ((x.1,c)::cs))else pure (dI cs))>>=λcs=>pure cs):=rfl;rw[e,e1,pure_bind]
theorem ke{env:Env}:∀{names:List (Str×aX)}{x:Str}{k:aX},
  (names.map λ(n,k)=>if (k==cb&&env.scope.kind==.function&&env.kindOf n==some .cell)then (n,aX.cell)else (n,k)).lookup x=some k ->
  names.lookup x=some k\/(k=.cell/\names.lookup x=some .free)
 | [],_,_,h=>by simp at h
 | (n,k')::r,x,k,h=>by
  have ih:=@ke env r x k;have h':List.lookup x ((if (k'==cb&&env.scope.kind==.function&&env.kindOf n==some .cell)=true then (n,aX.cell)else (n,k'))::r.map (λ(n,k)=>if (k==cb&&env.scope.kind==.function&&env.kindOf n==some .cell)then (n,aX.cell)else (n,k)))=some k:=h;cases hx:x==n with
  |true=>
   by_cases hc:(k'==cb&&env.scope.kind==.function&&env.kindOf n==some .cell)=true
   ·rw[if_pos hc]at h';simp only[bw,hx]at h';cases h';have:k'=.free:=by
     have z:(k'==cb)=true:=by
      cases q:(k'==cb)with
      |true=>rfl
      |false=>rw[q]at hc;simp at hc
     simpa using z
    subst this;exact .inr ⟨rfl,by simp[bw,hx]⟩
   ·rw[if_neg hc]at h';simp only[bw,hx]at h';cases h';exact .inl (by simp[bw,hx])
  |false=>
   have h2:(r.map (λ(n,k)=>if (k==cb&&env.scope.kind==.function&&env.kindOf n==some .cell)then (n,aX.cell)else (n,k))).lookup x=some k:=by
    by_cases hc:(k'==cb&&env.scope.kind==.function&&env.kindOf n==some .cell)=true
    ·rw[if_pos hc]at h';simpa only[bw,hx]using h'
    ·rw[if_neg hc]at h';simpa only[bw,hx]using h'
   rcases ih h2 with z|z
   ·exact .inl (by simpa only[bw,hx]using z)
   ·exact .inr ⟨z.1,by simpa only[bw,hx]using z.2⟩
noncomputable def iq(names:List (Str×aX)):List Str:=(names.filter λy=>y.2==.cell).map (·.1)
theorem lj:∀(names:List (Str×aX)) (n:Nat) (a b:List (Str×Addr)),bt n names (a++b)=bt n names a++b
 | [],_,_,_=>rfl
 | (x,k)::r,n,a,b=>by
  unfold bt;split
  ·exact lj r (n+1) ((x,n)::a) b
  ·exact lj r n a b
theorem mh{x:Str}{c:Addr}:∀{names:List (Str×aX)}{n:Nat}{a:List (Str×Addr)},(x,c)∈bt n names a->(x,c)∈a\/(x,aX.cell)∈names
 | [],_,_,h=>.inl h
 | (y,k)::r,n,a,h=>by
  unfold bt at h;split at h
  ·rename_i hk
   rcases mh h with z|z
   ·rcases aP.mp z with q|q
    ·have hk:k=.cell:=by simpa using hk
     cases q;exact .inr (by rw[hk];exact aQ)
    ·exact .inl q
   ·exact .inr (aO _ z)
  ·rcases mh h with z|z
   ·exact .inl z
   ·exact .inr (aO _ z)
theorem CL{M:Model}{A:aG}{E:ae->af->Prop}{s:af}{scope:a9}{globals:Addr}{cl:List (Str×Addr)}{qual:Str}{env:Env}{Q:Env->af->Prop}
  (hQ:∀h₁,h₁.Ns s.heap.objs.size (λ_=>none)->(∀b o,s.heap.get? b=some o->h₁.get? b=some o)->CellsOk h₁ (s.heap.objs.size+1) (bt (s.heap.objs.size+1) scope.names []) ->
   Q (newEnv scope s.heap.objs.size globals (bt (s.heap.objs.size+1) scope.names []++cl) qual none .none (some env) builtinsNs) {s with heap:=h₁}) :
  ak M A (newFunctionEnv scope globals cl [] qual none .none (some env)) Q E s:=by
 simp only[newFunctionEnv,Option.isSome_some,if_true];refine ag (wpAny_alloc ?_);refine ag (wpAny_layCells _ (λname kind cells=>by cases JG:kind==aX.cell<;>simp[JG]) _ _ _ _ ?_);have ok:=cellsFrom_ok scope.names (s.heap.push {cls:=.type "dict",data:=.dict #[]}) (s.heap.objs.size+1) [] ⟨λ_ _ hm=>(nomatch hm),List.Pairwise.nil⟩ (by rw[cA];exact aH _);rw[cA]at ok;rw[show ({s with heap:=s.heap.push {cls:=.type "dict",data:=.dict #[]}}:af).heap.objs.size=s.heap.objs.size+1 from cA ..];rw[show cl=[]++cl from rfl,lj];rw[List.forIn_nil];exact ag (aA (aA (hQ _ ((Heap.Ns.new s.heap (.type "dict")).keeps (pushCells_keeps _ _)) (λb o e=>pushCells_keeps _ _ b o (Heap.get?_push_of_some _ e)) ok)))
noncomputable def zB(X:Cx)(NY:List Str)(scope:a9)(cl:List (Str×Addr))(C:Addr)(s₀:af)(H₀:Hp)(fp:List Addr):Cx where
 prog:=X.prog
 w:=X.w
 K:=X.K
 mg:=X.mg
 base:=X.base
 A:=X.A
 N:=NY
 s₀:=s₀
 H₀:=H₀
 env:=compEnvC scope (bt (C+1) scope.names []++cl) C X.env
 outer:=X.stack
 stack:=X.stack
 ex:=fp
 fn:=λx=>(iq scope.names).contains x
 calm:=X.calm
 pn:=[]
 xe:=λ_ _=>False
noncomputable def caps(cap:List (Option Nat))(σ:St):St:=cap.map λo=>o.bind λj=>(σ[j]?).join
def n_(X:Cx)(NY:List Str)(cap:List (Option Nat))(scope:a9):Prop:=
 cap.length=NY.length/\∀(i j:Nat),cap[i]? = some (some j)->∃x,NY[i]? = some x/\X.N[j]? = some x/\scope.names.lookup x=some .free/\(X.env.kindOf x=some .cell\/X.env.kindOf x=some .free)
structure ez(X:Cx)(NY:List Str)(cap:List (Option Nat))(scope:a9):Prop where
 kind:scope.kind=.function
 cells:∀y∈scope.names,y.2=.cell->scope.names.lookup y.1=some .cell
 names:∀y∈scope.names,y.2=.local->scope.names.lookup y.1=some .local
 free:∀y∈scope.names,y.2=.free->X.env.kindOf y.1=some .cell\/X.env.kindOf y.1=some .free
 cap:n_ X NY cap scope
theorem yT{cap:List (Option Nat)}{σ:St}{i:Nat}{v:V}(h:(caps cap σ)[i]? = some (some v)):∃j,cap[i]? = some (some j)/\σ[j]? = some (some v):=by
 unfold caps at h;rw[List.getElem?_map]at h;cases e:cap[i]? with
 |none=>rw[e]at h;simp at h
 |some o=>
  rw[e]at h;cases o with
  |none=>simp at h
  |some j=>
   refine⟨j,rfl,?_⟩;have h':(σ[j]?).join=some v:=by simpa using h
   cases q:σ[j]? with
   |none=>rw[q]at h';cases h'
   |some z=>rw[q]at h';exact congrArg some h'
theorem FY{X:Cx}{pins:List (Addr×Obj)}{σ:St}{H:Hp}{s:af}{NY:List Str}{cap:List (Option Nat)}{scope:a9}{cl:List (Str×Addr)}{fp:List Addr}{h₁:Heap}{m:Str->Option ae}
  (I:Inv X pins σ H s) (S:ez X NY cap scope) (Gj:∀x c,cl.lookup x=some c->X.env.cells.lookup x=some c) (GP:∀x∈scope.names,x.2=.free->∃c,cl.lookup x.1=some c)
  (hf:∀b∈fp,dU X pins H b) (Gg:∀b∈fp,b<s.heap.objs.size) (hn:h₁.Ns s.heap.objs.size m) (hk:∀b o,s.heap.get? b=some o->h₁.get? b=some o) (HA:CellsOk h₁ (s.heap.objs.size+1) (bt (s.heap.objs.size+1) scope.names [])) {tk:Nat} :
  Inv (zB X NY scope cl s.heap.objs.size s H fp) [] (caps cap σ) H {s with heap:=h₁,toks:=tk}:=by
 have LF:∀x,(compEnvC scope (bt (s.heap.objs.size+1) scope.names []++cl) s.heap.objs.size X.env).kindOf x=some .cell\/(compEnvC scope (bt (s.heap.objs.size+1) scope.names []++cl) s.heap.objs.size X.env).kindOf x=some .free->scope.names.lookup x=some .free\/scope.names.lookup x=some .cell:=λx hx=>by
  rcases hx with q|q
  ·rcases ke (env:=X.env) (names:=scope.names) (x:=x) (k:=.cell) q with z|z
   ·exact .inr z
   ·exact .inl z.2
  ·rcases ke (env:=X.env) (names:=scope.names) (x:=x) (k:=.free) q with z|z
   ·exact .inl z
   ·exact .inl z.2
 have JH:∀x c,cl.lookup x=some c->c<s.heap.objs.size:=λx c e=>by
  obtain⟨v,q⟩:=I.cell x c (Gj x c e);exact q.lt
 -- a cell is one of its own, or one from around
 have two:∀x c,(bt (s.heap.objs.size+1) scope.names []++cl).lookup x=some c->(x,c)∈bt (s.heap.objs.size+1) scope.names []\/cl.lookup x=some c:=λx c e=>by
  rw[List.lookup_append]at e;cases q:(bt (s.heap.objs.size+1) scope.names []).lookup x with
  |none=>rw[q]at e;exact .inr e
  |some c'=>rw[q]at e;cases e;exact .inl (cF q)
 have LG:∀x c,(x,c)∈bt (s.heap.objs.size+1) scope.names []->scope.names.lookup x=some .cell:=λx c e=>by
  rcases mh e with z|z
  ·cases z
  ·exact S.cells _ z rfl
 have Hv:∀x c,(x,c)∈bt (s.heap.objs.size+1) scope.names []->s.heap.objs.size<c:=λx c e=>(HA.empty x c e).2
 have MQ:∀x c,scope.names.lookup x=some .free->cl.lookup x=some c->(bt (s.heap.objs.size+1) scope.names []++cl).lookup x=some c:=λx c e1 e2=>by
  rw[List.lookup_append];cases q:(bt (s.heap.objs.size+1) scope.names []).lookup x with
  |none=>rw[e2];rfl
  |some c'=>have:=LG x c' (cF q);rw[e1]at this;cases this
 refine⟨⟨I.ok.mod,S.kind,I.ok.glob,I.ok.blt,aH _,λx y c e1 e2=>?_,λx hx=>?_,λx c e e2=>?_,I.ok.hd,I.ok.frames,.inl rfl,λb hb=>?_,λb o e=>I.bs b o e,br I.ok.bsz I.sz,λb o e hb=>?_,λb hb z=>?_,I.stack,I.stkFree⟩,
  rfl,I.bare,Un.kept hk,⟨m,hn,λi x v e1 e2 e3=>?_⟩,λx c e=>?_,I.hok.fresh (aH _),λx c e=>?_,λp hp=>absurd (show p∈([]:List (Addr×Obj))from hp) (by simp),I.hok.kept hk,?_⟩
 ·rcases two x c e1 with z1|z1<;>rcases two y c e2 with z2|z2
  ·exact name_of_addr HA.apart z1 z2
  ·exact absurd (Nat.lt_trans (JH y c z2) (Hv x c z1)) (bS _)
  ·exact absurd (Nat.lt_trans (JH x c z1) (Hv y c z2)) (bS _)
  ·exact I.ok.inj x y c (Gj x c z1) (Gj y c z2)
 ·rcases LF x hx with z|z
  ·obtain⟨c,hc⟩:=GP (x,.free) (cF z) rfl;exact⟨c,MQ x c z hc⟩
  ·obtain⟨c,hc⟩:=jV (n:=s.heap.objs.size+1) z;refine⟨c,?_⟩;show (bt (s.heap.objs.size+1) scope.names []++cl).lookup x=some c;rw[List.lookup_append,hc];rfl
 ·have e:(iq scope.names).contains x=true:=e;have hm:scope.names.lookup x=some .cell:=by
   simp only[iq,List.contains_iff_mem,aY,bN,beq_iff_eq]at e;obtain⟨y,⟨y1,y2⟩,rfl⟩:=e;exact S.cells y y1 y2
  rcases two x c e2 with z|z
  ·exact Nat.le_of_lt (Hv x c z)
  ·obtain⟨c',hc⟩:=jV (n:=s.heap.objs.size+1) hm;have e2:(bt (s.heap.objs.size+1) scope.names []++cl).lookup x=some c:=e2;rw[List.lookup_append,hc]at e2;cases e2;exact Nat.le_of_lt (Hv x _ (cF hc))
 ·obtain⟨f0,f1,f2,f3,f4,f5⟩:=hf b hb;refine⟨bg (Gg b hb),λx c e=>?_⟩;rcases two x c e with z|z
  ·exact λw=>absurd (Nat.lt_trans (Hv x c z) (w▸Gg b hb)) (bS _)
  ·exact f4 x c (Gj x c z)
 ·obtain⟨f0,f1,f2,f3,f4,f5⟩:=hf b hb;rcases f3 with z|z
  ·exact I.ok.noex b o e z
  ·exact absurd (bA (aM e) (br I.ok.bsz z)) (bS _)
 ·obtain⟨f0,f1,f2,f3,f4,f5⟩:=hf b hb;rcases aP.mp (I.stkSub b z)with q|q
  ·exact f1 q
  ·exact f2 q
 ·obtain⟨j,c1,c2⟩:=yT e2;obtain⟨x',n1,n2,n3,n4⟩:=S.cap.2 i j c1;have ex:x'=x:=bB (n1.symm.trans e1);subst ex;obtain⟨m',_,hl⟩:=I.loc;obtain⟨u,r,l⟩:=hl j x' v n2 c2 (n4.elim (λz=>.inr (.inl z)) λz=>.inr (.inr z));refine⟨u,r,.inr ⟨?_,?_⟩⟩
  ·rcases e3 with z|z|z
   ·rcases ke (env:=X.env) (names:=scope.names) (x:=x') (k:=.local) z with q|q
    ·rw[n3]at q;cases q
    ·cases q.1
   ·exact .inl z
   ·exact .inr z
  ·rcases l with ⟨kk,_⟩|⟨_,c,ec,ic⟩
   ·rcases n4 with z|z
    ·rw[kk]at z;cases z
    ·rw[kk]at z;cases z
   ·obtain⟨c',MR⟩:=GP (x',.free) (cF n3) rfl;have:=Gj x' c' MR;rw[ec]at this;cases this;obtain⟨o,ho,hd⟩:=ic;exact⟨c,MQ x' c n3 MR,o,hk _ _ ho,hd⟩
 ·rcases two x c e with z|z
  ·exact⟨_,(HA.empty x c z).1⟩
  ·obtain⟨v,o,ho,hd⟩:=I.cell x c (Gj x c z);exact⟨v,o,hk _ _ ho,hd⟩
 ·rcases two x c e with z|z
  ·exact I.hok.fresh (Nat.le_of_lt (Hv x c z))
  ·exact I.freeC x c (Gj x c z)
 ·show (caps cap σ).length=NY.length;unfold caps;rw[bG];exact S.cap.1
def kO(cap:List (Option Nat))(wi:TI)(tg:TG)(tt:TT)(tb:Addr->TS):TE:=λσ H Q=>wi σ H λJ H1=>∀acc,H1 acc=none ->
 ∃W:Nat->Nat->St->Hp->Prop,(∃m,W 0 m (caps cap σ) (upd H1 acc (.lst [])))/\∀i m τ H,W i m τ H ->
  (J.stop i H/\(Ends.mk (λ_ H=>Q (.ref acc) H) (λ_ _=>False) (λ_ _=>False) (λ_ _=>False)).nx τ H)\/(J.go i H/\∃N:St->Hp->Prop,(∀σ' H',N σ' H'->∃m',m'<m/\W (i+1) m' σ' H')/\∀x H',J.yld i H x H' ->
   tg x τ H' λσ2 H2=>jF tt (tb acc) kx {(Ends.mk (λ_ H=>Q (.ref acc) H) (λ_ _=>False) (λ_ _=>False) (λ_ _=>False))with nx:=N,ct:=N,bk:=(Ends.mk (λ_ H=>Q (.ref acc) H) (λ_ _=>False) (λ_ _=>False) (λ_ _=>False)).nx} σ2 H2)
structure Loose(X:Cx)(pins:List (Addr×Obj))(C:Addr):Prop where
 loc:C≠X.env.locals
 cell:∀x c,X.env.cells.lookup x=some c->c≠C
 up:X.s₀.heap.objs.size<=C
 pin:∀p∈X.pn++pins,p.1≠C
theorem Loose.turn{X:Cx}{pins:List (Addr×Obj)}{C:Addr}{σ:St}{H:Hp}{s:af}{h':Heap}(L:Loose X pins C)(I:Inv X pins σ H s)(hn:H C=none)(hs:Heap.SameBut C s.heap h'):Inv X pins σ H {s with heap:=h'}:=
 I.turned (t':=s.toks) (it:=C) (λb o hb e=>(hs.2 b hb).trans e) hn L.loc (.inr L.up) L.cell L.pin
section
variable{X:Cx}{elt Gk it:Expr}{ifs:List Expr}{gs:List cJ}{scope:a9}{pos:Pos}{NY:List Str}{cap:List (Option Nat)}{wi:TI}{tg:TG}{tt:TT}{tb:Addr->TS}
theorem nY{Q:VK}{pins:List (Addr×Obj)}{σ:St}{H:Hp}{s s2:af}{cl:List (Str×Addr)}{II:ae}{E:ae->af->Prop}{use:Option (ae->Sem Unit)}{QQ:ae->af->Prop}
  (hc:X.calm=true) (S:ez X NY cap scope) (JI:∀g'∈gs,g'.is_async=0)
  (Gj:∀x c,cl.lookup x=some c->X.env.cells.lookup x=some c) (GP:∀x∈scope.names,x.2=.free->∃c,cl.lookup x.1=some c)
  (hb:∀cl C s₀ H₀ fp,PG (zB X NY scope cl C s₀ H₀ fp) Gk tg/\PTs (zB X NY scope cl C s₀ H₀ fp) ifs tt/\∀acc,PB (zB X NY scope cl C s₀ H₀ fp) (fE elt (⟨Gk,it,ifs,0⟩::gs) scope pos 0 (.ref acc) (zB X NY scope cl C s₀ H₀ fp).env) (tb acc))
  (h2:PIE X pins σ Gk (λJ H1=>∀acc,H1 acc=none ->
   ∃W:Nat->Nat->St->Hp->Prop,(∃m,W 0 m (caps cap σ) (upd H1 acc (.lst [])))/\∀i m τ H,W i m τ H ->
    (J.stop i H/\(Ends.mk (λ_ H=>Q (.ref acc) H) (λ_ _=>False) (λ_ _=>False) (λ_ _=>False)).nx τ H)\/(J.go i H/\∃N:St->Hp->Prop,(∀σ' H',N σ' H'->∃m',m'<m/\W (i+1) m' σ' H')/\∀x H',J.yld i H x H' ->
     tg x τ H' λσ2 H2=>jF tt (tb acc) kx {(Ends.mk (λ_ H=>Q (.ref acc) H) (λ_ _=>False) (λ_ _=>False) (λ_ _=>False))with nx:=N,ct:=N,bk:=(Ends.mk (λ_ H=>Q (.ref acc) H) (λ_ _=>False) (λ_ _=>False) (λ_ _=>False)).nx} σ2 H2)) II s2)
  (fin:∀(acc C:Addr) (s':af) (m:Str->Option ae) (H':Hp),s'.heap.Ns C m->Loose X pins C->Inv X pins σ H' s'->H' C=none->Q (.ref acc) H'->compPost (ao X.prog X.w) X.A E use QQ (.ref acc) C (.ok .next) s') :
  ak (ao X.prog X.w) X.A (newList []) (λacc s₃=>ak (ao X.prog X.w) X.A (newFunctionEnv scope X.env.globals cl [] X.env.qual none .none (some X.env)) (λJJ s₄=>
   codeAny (ao X.prog X.w) X.A (.compStart (.ListComp elt (⟨Gk,it,ifs,0⟩::gs) scope pos) 0 II acc {JJ with scope:=relabel scope X.env}) (compPost (ao X.prog X.w) X.A E use QQ acc JJ.locals) s₄) E s₃) E s2:=by
 obtain⟨ia,fp,tn,J,H2,e,I2,T,Iv,f2,q⟩:=h2;subst e;have JK:∀b∈fp,b<s2.heap.objs.size:=λb hb=>by
  obtain⟨o,ho,_⟩:=T.obj _ _ Iv b hb;exact aM ho
 refine bZ ?_;have Gf:H2 s2.heap.objs.size=none:=I2.hok.fresh (aH _);have I3:Inv X pins σ (upd H2 s2.heap.objs.size (.lst [])) {s2 with heap:=s2.heap.push {cls:=.type "list",dict:=none,data:=.seq ([]:List ae).toArray}}:=
  I2.laid (t':=s2.toks) (λb u e=>Heap.get?_push_of_some _ e) (aH _) ⟨bU _,[],0,.nil,Heap.get?_push_size _ rfl⟩
 have LH:(s2.heap.push {cls:=.type "list",dict:=none,data:=.seq ([]:List ae).toArray}).objs.size=s2.heap.objs.size+1:=cA ..;generalize MT:({s2 with heap:=s2.heap.push {cls:=.type "list",dict:=none,data:=.seq ([]:List ae).toArray}}:af)=s3 at I3 ⊢;have Gq:s3.heap.objs.size=s2.heap.objs.size+1:=by rw[<-MT];exact LH
 have G3:tn 0 s3.heap:=T.keep _ _ _ Iv λb hb o e=>by rw[<-MT];exact Heap.get?_push_of_some _ e
 have f3:∀b∈fp,dU X pins (upd H2 s2.heap.objs.size (.lst [])) b:=λb hb=>⟨by rw[qg (bg (JK b hb))];exact(f2 b hb).1,(f2 b hb).2⟩
 have JL:∀b∈fp,b<s3.heap.objs.size:=λb hb=>by rw[Gq];exact dD (JK b hb)
 refine CL λh₁ hns₁ Jq HA=>?_
 have IY:=FY (tk:=s3.toks) I3 S Gj GP f3 JL hns₁ Jq HA;have MU:tn 0 h₁:=T.keep _ _ _ G3 λb hb o e=>Jq b o e
 obtain⟨pg,pt,pb⟩:=hb cl s3.heap.objs.size s3 (upd H2 s2.heap.objs.size (.lst [])) fp;have fY:∀b∈fp,dU (zB X NY scope cl s3.heap.objs.size s3 (upd H2 s2.heap.objs.size (.lst [])) fp) [] (upd H2 s2.heap.objs.size (.lst [])) b:=λb hb=>by
  obtain⟨g0,g1,g2,g3,g4,g5⟩:=f3 b hb;refine⟨g0,bg (JL b hb),λz=>?_,.inl hb,(IY.ok.exf b hb).2,λp hp=>absurd (show p∈([]:List (Addr×Obj))from hp) (by simp)⟩;rcases aP.mp (I3.stkSub b z)with w|w
  ·exact g1 w
  ·exact g2 w
 have L:=wF (elt:=elt) (gens:=⟨Gk,it,ifs,0⟩::gs) (scope:=scope) (pos:=pos) (d:=0) (Y:=zB X NY scope cl s3.heap.objs.size s3 (upd H2 s2.heap.objs.size (.lst [])) fp) (acc:=.ref s2.heap.objs.size) hc (λ_ _ z=>z) rfl rfl
  (λg' hg'=>JI g' (List.mem_of_getElem? (i:=0) (by simpa using hg'))) T pg pt (pb s2.heap.objs.size) IY MU fY (q s2.heap.objs.size Gf)
 refine codeAny_mono (Be (elt:=elt) (gens:=⟨Gk,it,ifs,0⟩::gs) (scope:=scope) (pos:=pos) (d:=0) (env:=compEnvC scope (bt (s3.heap.objs.size+1) scope.names []++cl) s3.heap.objs.size X.env) rfl rfl L (T.self _ 0 _ _ _ MU L)) λr s' ⟨e,τ',H',I',q'⟩=>?_
 subst e;obtain⟨m',HH,_⟩:=id I'.loc;have LI:s3.heap.objs.size≠X.env.locals:=Nat.ne_of_gt I3.lt;have LJ:∀x c,X.env.cells.lookup x=some c->c≠s3.heap.objs.size:=λx c e z=>by
  obtain⟨v,qv⟩:=I3.cell x c e;exact absurd qv.lt (by rw[z];exact bS _)
 have J1:Inv X pins σ H' s':=by
  refine I3.call' (ch:=fp) I'.os I'.base I'.hok I'.bare λb hb=>?_
  obtain⟨g0,g1,g2,g3,g4,g5⟩:=f3 b hb;exact⟨g3,g1,g4,g5⟩
 refine fin s2.heap.objs.size s3.heap.objs.size s' m' H' HH ⟨LI,LJ,I3.sz,λp hp z=>?_⟩ J1 I'.free q';have:=aM (I3.pin p hp).1;rw[z]at this;exact bS _ this
theorem Ae(hc:X.calm=true)(S:ez X NY cap scope)(hi:PI X Gk it wi)
  (hb:∀cl C s₀ H₀ fp,PG (zB X NY scope cl C s₀ H₀ fp) Gk tg/\PTs (zB X NY scope cl C s₀ H₀ fp) ifs tt/\∀acc,PB (zB X NY scope cl C s₀ H₀ fp) (fE elt (⟨Gk,it,ifs,0⟩::gs) scope pos 0 (.ref acc) (zB X NY scope cl C s₀ H₀ fp).env) (tb acc))
  (JI:∀g'∈gs,g'.is_async=0)
  (hs:∀x,foldedSetIterable it X.env x=pure x):PE X (.ListComp elt (⟨Gk,it,ifs,0⟩::gs) scope pos) (kO cap wi tg tt tb):=by
 intro pins s σ H Q I h;obtain⟨cl,HB,Gj,GP⟩:=q_ (env:=X.env) (scope:=scope) λx hx hf=>I.ok.has x.1 (S.free x hx hf)
 rw[eval_ListComp];refine wpAny_comprehension_free (use:=none) rfl hs HB S.kind S.names (thn (hi pins s σ H _ I h) λv s1 h1=>thn h1 λII s2 h2=>?_);exact nY (s:=s) (H:=H) (use:=none) hc S JI Gj GP hb h2 λacc C s' m H' hn L I' hC q=>⟨m,hn,λh' Gz=>⟨.ref acc,H',L.turn I' hC Gz,rfl,q⟩⟩
theorem EZ{i:Nat}{x:Str}{pos' spos:Pos}(hN:X.N.Nodup)(Iw:X.N[i]? = some x)(hx:Loc X.env.scope x)(hc:X.calm=true)(S:ez X NY cap scope)(hi:PI X Gk it wi)
  (hb:∀cl C s₀ H₀ fp,PG (zB X NY scope cl C s₀ H₀ fp) Gk tg/\PTs (zB X NY scope cl C s₀ H₀ fp) ifs tt/\∀acc,PB (zB X NY scope cl C s₀ H₀ fp) (fE elt (⟨Gk,it,ifs,0⟩::gs) scope pos 0 (.ref acc) (zB X NY scope cl C s₀ H₀ fp).env) (tb acc))
  (JI:∀g'∈gs,g'.is_async=0)
  (NO:swapsWith (.ListComp elt (⟨Gk,it,ifs,0⟩::gs) scope pos) (some (.Name x pos')) spos.line X.env=pure true)
  (hf:X.fn x=true\/X.env.scope.names.lookup x=some .local)
  (hs:∀x,foldedSetIterable it X.env x=pure x) :
  PS X (.Assign [.Name x pos'] (.ListComp elt (⟨Gk,it,ifs,0⟩::gs) scope pos) spos) (jG (kO cap wi tg tt tb) (f_ i)):=by
 intro pins s σ H D I h;obtain⟨cl,HB,Gj,GP⟩:=q_ (env:=X.env) (scope:=scope) λx hx hf=>I.ok.has x.1 (S.free x hx hf)
 rw[exec_Assign_Name_used _ _ _ _ NO];refine ag (wpAny_standAt (ag ?_));show ak _ _ (do let _ <-comprehension (.ListComp elt (⟨Gk,it,ifs,0⟩::gs) scope pos) scope X.env _ (newList []) false (eval it X.env) (some (assign (.Name x pos') X.env))) _ _ s;refine ag (bK (wpAny_comprehension_free (use:=some (assign (.Name x pos') X.env)) (Q:=λ_ s'=>SP X pins D .next s') rfl hs HB S.kind S.names (thn (hi pins s σ H _ I h) λv s1 h1=>thn h1 λII s2 h2=>?_)) (λ_ s' q=>aA (aA q)) λ_ _ e=>e);refine nY (s:=s) (H:=H) (Q:=λx H1=>f_ i x σ H1 D.nx) (use:=some (assign (.Name x pos') X.env)) hc S JI Gj GP hb h2 λacc C s' m H' hn L I1 hC q1=>?_
 show ak _ _ (assign (.Name x pos') X.env (.ref acc)) _ _ _;refine wpAny_assign_Name (oU (v:=.ref acc) I1 hN Iw hx rfl (λs3 I3 ⟨a,NP,ha⟩=>?_) hf);have NQ:C≠a:=by
  rcases ha with z|z
  ·rw[z];exact L.loc
  ·exact bH (L.cell x a z)
 exact⟨m,hn.sameBut NP NQ,λh' MV=>⟨_,H',L.turn I3 hC MV,q1⟩⟩
end
def TrX(h base:Heap)(e:Addr)(K:Obj->Prop)(fl:ae):Prop:=
 ∃oe vs T oT ts,h.get? e=some oe/\K oe/\oe.data=.fields vs/\vs[1]? = some (.ref T)/\base.get? T=none/\T≠e/\h.get? T=some oT/\oT.data=.fields ts/\ts[3]? = some fl
def eh(base:Heap)(l:List Env)(e:Addr)(K:Obj->Prop)(h:Heap):Prop:=base.StaysIn h/\base.get? e=none/\h.FunFrames base l/\TrX h base e K .none
def lM(base:Heap)(l:List Env)(e:Addr)(K:Obj->Prop)(L:Addr)(h:Heap):Prop:=base.StaysIn h/\base.get? e=none/\h.FunFrames base l/\TrX h base e K (rawInt L)
structure Kept(K:Obj->Prop):Prop where
 of:∀o f,K o->K (Obj.mapFields f o)
theorem yw(f:Array ae->Array ae)(o:Obj):(Obj.mapFields f o).dict=o.dict:=by
 unfold Obj.mapFields
 first
  |rfl
  | (split<;>rfl)
def kZ(cls:ae)(dx:Option Addr):Obj->Prop:=λo=>o.cls=cls/\o.dict=dx
theorem jY(cls:ae)(dx:Option Addr):Kept (kZ cls dx):=⟨λo f ⟨a,b⟩=>⟨(Obj.cls_mapFields _ _).trans a,(yw f o).trans b⟩⟩
section
variable{M:Model}{A:aG}{E:ae->af->Prop}{s:af}{K:Obj->Prop}{base:Heap}{env:Env}{outer l:List Env}{L e T:Addr}{Q:Unit->af->Prop}
theorem jB{b:Addr}{o ob:Obj}{vs:Array ae}(hb:s.heap.get? b=some ob)(hd:ob.data=.fields vs){c:Addr}(hc:s.heap.get? c=some o)(hn:∀ws,o.data≠.fields ws):c≠b:=λq=>by
 rw[q,hb]at hc;cases hc;exact hn vs hd
theorem uh{oe:Obj}{vs:Array ae}{LK:ae}{nx:Bool}(hK:Kept K)(k:K oe)(GQ:A.frames=some (env::outer))(hl:s.heap.FunFrames base (env::outer))(hf:env.frame=some L)(he:s.heap.get? e=some oe)
  (HK:base.StaysIn s.heap) (HC:base.get? e=none) (hd:oe.data=.fields vs) (Gq:1<vs.size) (hq:∀h',lM base (env::outer) e K L h'->s.heap.UpToSlots h'->Q () {s with heap:=h'}) :
  ak M A (do let a <-frameOf env;let pl <-entryPlaceOf L nx;let b <-EntryCells.newEntry LK a .none (rawInt L) .none pl;setField (.ref e) 1 b) Q E s:=by
 have nofr:e∉(env::outer).filterMap (·.frame):=λhm=>by
  obtain⟨_,o,ho,hn⟩:=hl.mem hm;rw[he]at ho;cases ho;exact hn vs hd
 refine ag (wpAny_frameOf_fun GQ hl hf λh1 Ij=>ag (wpAny_entryPlaceOf λpl Hz=>?_));unfold EntryCells.newEntry newFields;refine ag (bZ ?_ (Hz.sizeOk5 _ _ _ _ _));have a1:h1.get? e=some oe:=(Ij.2.1 e nofr).trans he;have b1:base.StaysIn h1:=λb o q=>(Ij.2.1 b λhm=>by rw[(hl.mem hm).1]at q;cases q).trans (HK b o q)
 generalize hO:({cls:=.type "traceback",dict:=none,data:=.fields ([LK,.ref L,.none,rawInt L,.none]++(if pl.isEmpty then bR 6 bV else pl)).toArray}:Obj)=O;have a2:(h1.push O).get? e=some oe:=Heap.get?_push_of_some _ a1;have NR:O.isFreed=false:=by rw[<-hO];rfl
 have ne:h1.objs.size≠e:=Nat.ne_of_gt (aM a1);have d3:=Obj.data_mapFields hd (·.setIfInBounds 1 (a8 h1.objs.size));have keep:∀b o,b≠e->h1.get? b=some o->((h1.push O).update e (Obj.mapFields (·.setIfInBounds 1 (a8 h1.objs.size)))).get? b=some o:=λb o n q=>by
  rw[Heap.get?_update_other _ _ (bH n)];exact Heap.get?_push_of_some _ q
 refine wpAny_setField a2 hd Gq (hq _ ?_ ?_)
 ·refine⟨λb o q=>keep b o (λz=>by rw[z,HC]at q;cases q) (b1 b o q),HC,hl.of_keeps λb o q n=>?_,?_⟩
  ·obtain⟨sl,z⟩:=Ij.2.2 b o q;exact⟨_,keep b _ (jB he hd q n) z,rfl⟩
  ·have a3:=Heap.get?_update_self (Obj.mapFields (·.setIfInBounds 1 (a8 h1.objs.size))) a2 (Obj.isFreed_of_fields d3);have t3:=(Heap.get?_update_other (h1.push O) (Obj.mapFields (·.setIfInBounds 1 (a8 h1.objs.size))) (bH ne)).trans (Heap.get?_push_size h1 NR);refine⟨_,_,h1.objs.size,O,([LK,.ref L,.none,rawInt L,.none]++(if pl.isEmpty then bR 6 bV else pl)).toArray,a3,hK.of _ _ k,d3,by simp[Gq],b1.fresh,ne,t3,by rw[<-hO],?_⟩;simp
 ·intro b o q n;obtain⟨sl,z⟩:=Ij.2.2 b o q;exact⟨sl,keep b _ (jB he hd q n) z⟩
theorem tI{oT:Obj}{ts:Array ae}{v:ae}(hT:s.heap.get? T=some oT)(GZ:oT.data=.fields ts)(nT:base.get? T=none)(HK:base.StaysIn s.heap)(hl:s.heap.FunFrames base l) :
  (∀b,b≠T->(s.heap.update T (Obj.mapFields (·.setIfInBounds 3 v))).get? b=s.heap.get? b)/\base.StaysIn (s.heap.update T (Obj.mapFields (·.setIfInBounds 3 v)))/\(s.heap.update T (Obj.mapFields (·.setIfInBounds 3 v))).FunFrames base l /\
   s.heap.UpToSlots (s.heap.update T (Obj.mapFields (·.setIfInBounds 3 v))):=by
 have oth:∀b,b≠T->(s.heap.update T (Obj.mapFields (·.setIfInBounds 3 v))).get? b=s.heap.get? b:=λb n=>Heap.get?_update_other _ _ (bH n)
 refine⟨oth,λb o q=>(oth b λz=>by rw[z,nT]at q;cases q).trans (HK b o q),hl.of_keeps λb o q n=>⟨o,(oth b (jB hT GZ q n)).trans q,rfl⟩,λb o q n=>⟨o.slots,(oth b (jB hT GZ q n)).trans q⟩⟩
theorem gP{fl:ae}(HK:base.StaysIn s.heap)(HC:base.get? e=none)(hl:s.heap.FunFrames base l)(ht:TrX s.heap base e K fl)(hq:∀h',eh base l e K h'->s.heap.UpToSlots h'->Q () {s with heap:=h'}) :
  ak M A (setFlight (.ref e) none) Q E s:=by
 obtain⟨oe,vs,T,oT,ts,he,k,hd,h1,nT,ne,hT,GZ,h3⟩:=ht;have sz:3<ts.size:=(Array.getElem?_eq_some_iff.mp h3).1;unfold setFlight;refine ag (bp he hd h1 ?_);rw[if_pos (show (a8 T != bV)=true from by simp)];obtain⟨oth,p1,p2,p3⟩:=tI (v:=(none:Option Addr).elim bV λf=>rawInt f) hT GZ nT HK hl;refine wpAny_setField hT GZ sz (hq _ ⟨p1,HC,p2,?_⟩ p3);exact⟨oe,vs,T,_,_,(oth e (bH ne)).trans he,k,hd,h1,nT,ne,Heap.get?_update_self _ hT (Obj.isFreed_of_fields (Obj.data_mapFields GZ _)),Obj.data_mapFields GZ _,by simp[sz]⟩
theorem md(hK:Kept K)(GQ:A.frames=some (env::outer))(hf:env.frame=some L)(F:eh base (env::outer) e K s.heap)(hq:∀h',lM base (env::outer) e K L h'->s.heap.UpToSlots h'->Q () {s with heap:=h'}) :
  ak M A (noteFrame (.ref e) env) Q E s:=by
 obtain⟨HK,HC,hl,oe,vs,T,oT,ts,he,k,hd,h1,nT,ne,hT,GZ,h3⟩:=F;unfold noteFrame;simp only[hf];refine ag (bp he hd h1 ?_);rw[if_pos (show (a8 T != bV)=true from by simp)];refine ag (bp hT GZ h3 ?_);rw[if_neg (show ¬ ((bV==rawInt L)=true)from by simp[rawInt])];obtain⟨oth,p1,p2,p3⟩:=tI (v:=bV) hT GZ nT HK hl;refine ag (wpAny_setField hT GZ (Array.getElem?_eq_some_iff.mp h3).1 ?_);exact uh hK k GQ p2 hf ((oth e (bH ne)).trans he) p1 HC hd (Array.getElem?_eq_some_iff.mp h1).1 λh' H u=>hq h' H (p3.trans u)
theorem uJ{oe:Obj}{vs:Array ae}(hK:Kept K)(k:K oe)(GQ:A.frames=some (env::outer))(hf:env.frame=some L)(HK:base.StaysIn s.heap)(hl:s.heap.FunFrames base (env::outer))(he:s.heap.get? e=some oe)
  (HC:base.get? e=none) (hd:oe.data=.fields vs) (h1:vs[1]? = some .none) (hq:∀h',lM base (env::outer) e K L h'->s.heap.UpToSlots h'->Q () {s with heap:=h'}):ak M A (noteFrame (.ref e) env) Q E s:=by
 unfold noteFrame;simp only[hf];refine ag (bp he hd h1 ?_);rw[if_neg (by decide)];exact uh hK k GQ hl hf he HK HC hd (Array.getElem?_eq_some_iff.mp h1).1 hq
theorem eh.out(F:eh base (env::outer) e K s.heap):eh base outer e K s.heap:=let ⟨a,b,⟨_,_,c⟩,d⟩:=F;⟨a,b,c,d⟩
theorem EW(hK:Kept K)(GQ:A.frames=some (env::outer))(hf:env.frame=some L)(F:eh base (env::outer) e K s.heap)(hq:∀h',eh base outer e K h'->s.heap.UpToSlots h'->Q () {s with heap:=h'}) :
  ak M A (leaving env (.ref e)) Q E s:=by
 unfold leaving;refine ag (md hK GQ hf F λh' ⟨a,b,c,d⟩ u=>gP (s:={s with heap:=h'}) a b c d λh2 F2 u2=>hq h2 ?_ (u.trans u2));exact eh.out (s:={s with heap:=h2}) F2
theorem Fv{oe:Obj}{vs:Array ae}(hK:Kept K)(k:K oe)(GQ:A.frames=some (env::outer))(hf:env.frame=some L)(HK:base.StaysIn s.heap)(hl:s.heap.FunFrames base (env::outer))(he:s.heap.get? e=some oe)
  (HC:base.get? e=none) (hd:oe.data=.fields vs) (h1:vs[1]? = some .none) (hq:∀h',eh base outer e K h'->s.heap.UpToSlots h'->Q () {s with heap:=h'}):ak M A (leaving env (.ref e)) Q E s:=by
 unfold leaving;refine ag (uJ hK k GQ hf HK hl he HC hd h1 λh' ⟨a,b,c,d⟩ u=>gP (s:={s with heap:=h'}) a b c d λh2 F2 u2=>hq h2 ?_ (u.trans u2));exact eh.out (s:={s with heap:=h2}) F2
end
theorem zG.there{P:aF}{w:aB}{H:Hp}{h:Heap}{a:Addr}{o:HO}(x:zG P w H h a o):∃u,h.get? a=some u:=by
 cases o with
 |lst xs=>obtain⟨_,_,_,_,e⟩:=x;exact⟨_,e⟩
 |tup xs=>obtain⟨_,_,_,o,e,_⟩:=x;exact⟨_,e⟩
 |dK kvs=>obtain⟨_,_,_,_,o,_,_,e,_⟩:=x;exact⟨_,e⟩
 |dT kvs=>obtain⟨_,_,_,_,o,_,_,e,_⟩:=x;exact⟨_,e⟩
 |set S n=>obtain⟨o,_,_,_,e,_⟩:=x;exact⟨_,e⟩
 |ins C dx fs=>obtain⟨_,_,_,e,_⟩:=x;exact⟨_,e⟩
 |own y=>obtain⟨_,e⟩:=x;exact⟨_,e⟩
 |xd fs=>obtain⟨_,⟨_,_,_,e,_⟩,_⟩:=x;exact⟨_,e⟩
 |rng lo hi=>obtain⟨_,_,_,e⟩:=x;exact⟨_,e⟩
 |frz ob u=>obtain⟨e,_⟩:=x;exact⟨_,e⟩
 |tbl ps=>exact⟨_,(show h.get? a=some _ from x)⟩
 |met f y=>exact⟨_,(show h.get? a=some _ from x)⟩
 |ext φ=>obtain⟨_,e,_⟩:=x;exact e
theorem HOk.free_of{P:aF}{w:aB}{H:Hp}{h:Heap}{a:Addr}(x:HOk P w H h)(e:h.get? a=none):H a=none:=by
 cases q:H a with
 |none=>rfl
 |some o=>obtain⟨u,z⟩:=(x a o q).there;rw[e]at z;cases z
structure Apart(X:Cx)(pins:List (Addr×Obj))(H:Hp)(b:Addr):Prop where
 new:X.s₀.heap.get? b=none
 free:H b=none
 pin:∀p∈X.pn++pins,p.1≠b
structure cB(X:Cx)(pins:List (Addr×Obj))(H:Hp)(h:Heap)(x:Addr)(cls:ae)(dx:Option Addr):Prop where
 me:Apart X pins H x
 tr:∃oe vs T oT ts,h.get? x=some oe/\oe.cls=cls/\oe.dict=dx/\oe.data=.fields vs/\vs[1]? = some (.ref T)/\T≠x/\h.get? T=some oT/\oT.data=.fields ts/\ts[3]? = some .none/\Apart X pins H T
structure Fly(h₀ h:Heap)(H:Hp)(x:Addr)(cls:ae)(dx:Option Addr):Prop where
 new:h₀.get? x=none
 free:H x=none
 tr:∃oe vs T oT ts,h.get? x=some oe/\oe.cls=cls/\oe.dict=dx/\oe.data=.fields vs/\vs[1]? = some (.ref T)/\T≠x/\h.get? T=some oT/\oT.data=.fields ts/\ts[3]? = some .none/\h₀.get? T=none/\H T=none
def CX1(P:aF)(w:aB):CXT:=λouter H s E e s'=>
 ∃x cls dx H',e=.ref x/\s'.os=s.os/\AllBare s'.gens/\Un (frs outer) [] H H' s.heap s'.heap/\HOk P w H' s'.heap/\Fly s.heap s'.heap H' x cls dx/\E cls dx H'
section
variable{X:Cx}{pins:List (Addr×Obj)}{σ:St}{H:Hp}{s:af}{x T:Addr}{cls:ae}{dx:Option Addr}
theorem Inv.stepN{h':Heap}{t':Nat}{ch:List Addr}(I:Inv X pins σ H s)(hex:X.ex=[])(Ha:∀b∈ch,Apart X pins H b/\b≠X.env.locals/\(∀x c,X.env.cells.lookup x=some c->c≠b)/\b∉X.fs)
  (keep:∀b o,b∉frs X.stack->b≠X.env.locals->b∉X.fs->b∉ch->s.heap.get? b=some o->h'.get? b=some o)
  (slot:∀b o,(b∈frs X.stack\/b=X.env.locals\/b∈X.fs)->s.heap.get? b=some o->∃sl,h'.get? b=some {o with slots:=sl}) (there:∀b o,b∉ch->s.heap.get? b=some o->∃o',h'.get? b=some o') :
  Inv X pins σ H {s with heap:=h',toks:=t'}:=by
 have sub:∀b,b∈frs X.stack->b=X.env.locals\/b∈X.fs:=λb hb=>aP.mp (I.stkSub b hb)
 have Ho:∀b o,b≠X.env.locals->b∉X.fs->b∉ch->s.heap.get? b=some o->h'.get? b=some o:=λb o h1 h2 h3 e=>keep b o (λz=>(sub b z).elim h1 h2) h1 h2 h3 e
 have Kk:∀b o,X.s₀.heap.get? b=some o->b≠X.env.locals:=λb o e=>bg (bA (aM e) I.ok.above)
 have Ic:∀b o,X.s₀.heap.get? b=some o->b∉ch:=λb o e hb=>by
  have:=(Ha b hb).1.new;rw[e]at this;cases this
 have cellK:∀x c,X.env.cells.lookup x=some c->∀v,s.heap.IsCell c v->h'.IsCell c v:=λx c e v ⟨o,ho,hd⟩=>by
  have G2:c∉ch:=λz=>(Ha c z).2.2.1 x c e rfl
  by_cases hc:c∈X.fs
  ·obtain⟨sl,q⟩:=slot c o (.inr (.inr hc)) ho;exact⟨_,q,hd⟩
  ·exact⟨o,Ho c o (I.cne x c e) hc G2 ho,hd⟩
 have Ik:∀b,b∉X.ex:=λb=>by rw[hex];simp
 refine⟨I.ok,I.os,I.bare,⟨λb o e n hb hx=>?_,λb o e n hb hx=>?_,I.base.free,λb o e hx=>?_,I.base.tups,I.base.frzs,I.base.tbls⟩,?_,λx c e=>?_,I.free,I.freeC,λp hp=>?_,λb u e=>?_,I.len⟩
 ·exact Ho b o (Kk b o e) hb (Ic b o e) (I.base.keep b o e n hb hx)
 ·obtain⟨sl,e1⟩:=I.base.slot b o e n hb hx;obtain⟨Ll,e2⟩:=slot b _ (.inr (.inr hb)) e1;exact⟨Ll,e2⟩
 ·obtain⟨o',e1⟩:=I.base.there b o e hx;exact there b o' (Ic b o e) e1
 ·obtain⟨m,hn,hl⟩:=I.loc;obtain⟨oL,es,ep,GJ,LL,r⟩:=id hn;obtain⟨sl,eL⟩:=slot _ _ (.inr (.inl rfl)) GJ;refine⟨m,⟨_,es,ep,eL,LL,r⟩,λi x v e1 e2 e3=>?_⟩;obtain⟨u,ru,l⟩:=hl i x v e1 e2 e3;refine⟨u,ru,?_⟩;rcases l with l|⟨k,c,e,z⟩
  ·exact .inl l
  ·exact .inr ⟨k,c,e,cellK x c e _ z⟩
 ·obtain⟨v,z⟩:=I.cell x c e;exact⟨v,cellK x c e v z⟩
 ·obtain⟨e,n,ne,nf,d⟩:=I.pin p hp;exact⟨Ho p.1 p.2 ne nf (λz=>(Ha p.1 z).1.pin p hp rfl) e,n,ne,nf,d⟩
 ·have NS:∀b,(∃u,H b=some u)->b≠X.env.locals/\b∉X.fs/\b∉ch:=λb ⟨u,e⟩=>by
   refine⟨λz=>?_,λz=>?_,λz=>?_⟩
   ·rw[z,I.free]at e;cases e
   ·obtain⟨_,o,ho,_⟩:=I.ok.funs.mem z;have:=I.base.free b o ho (I.ok.frf b z) (Ik b);rw[e]at this;cases this
   ·have:=(Ha b z).1.free;rw[e]at this;cases this
  refine(I.hok b u e).stay (λc v hc q=>?_) (λ_ q=>q) λ_ _ q=>q
  have IH:∃u,H c=some u:=by
   rcases hc with z|z
   ·exact⟨u,by rw[z];exact e⟩
   ·exact⟨_,z⟩
  obtain⟨n1,n2,n3⟩:=NS c IH;exact Ho c v n1 n2 n3 q
theorem Inv.rec_ne(I:Inv X pins σ H s){b:Addr}{o:Obj}{vs:Array ae}(e:s.heap.get? b=some o)(d:o.data=.fields vs):b≠X.env.locals/\(∀x c,X.env.cells.lookup x=some c->c≠b)/\b∉X.fs/\b∉frs X.stack:=by
 have h1:b≠X.env.locals:=λz=>by
  obtain⟨m,⟨o',es,ep,ho,hd,_⟩,_⟩:=I.loc;rw[<-z,e]at ho;cases ho;rw[d]at hd;cases hd
 have h3:b∉X.fs:=λz=>by
  obtain⟨_,o',ho,hn⟩:=I.funs.mem z;rw[e]at ho;cases ho;exact hn vs d
 refine⟨h1,λx c ec z=>?_,h3,λz=>(aP.mp (I.stkSub b z)).elim h1 h3⟩;obtain⟨v,o',ho,hd⟩:=I.cell x c ec;rw[z,e]at ho;cases ho;rw[d]at hd;cases hd
theorem cB.flying(I:Inv X pins σ H s)(F:cB X pins H s.heap x cls dx):∃T oT ts,eh (PySem.W.hideAll s.heap (x::T::frs X.stack)) X.stack x (kZ cls dx) s.heap/\s.heap.get? T=some oT/\oT.data=.fields ts/\Apart X pins H T:=by
 obtain⟨oe,vs,T,oT,ts,e1,e2,e3,e4,e5,e6,e7,e8,e9,IS⟩:=F.tr;refine⟨T,oT,ts,⟨λb o q=>PySem.W.of_hideAll _ q,PySem.W.hideAll_none _ aQ,?_,oe,vs,T,oT,ts,e1,⟨e2,e3⟩,e4,e5,PySem.W.hideAll_none _ (aO _ aQ),e6,e7,e8,e9⟩,e7,e8,IS⟩;exact PySem.W.funFrames_hide I.stack λenv he a ha=>aO _ (aO _ (List.mem_filterMap.mpr ⟨env,he,ha⟩))
theorem cB.back(I:Inv X pins σ H s)(hex:X.ex=[])(me:Apart X pins H x){ox:Obj}{vs:Array ae}(hx:s.heap.get? x=some ox)(JM:ox.data=.fields vs){oT:Obj}{ts:Array ae}(hT:s.heap.get? T=some oT)(GZ:oT.data=.fields ts)(aT:Apart X pins H T)
  {l:List Env}{h':Heap} (W:eh (PySem.W.hideAll s.heap (x::T::frs X.stack)) l x (kZ cls dx) h') (u:s.heap.UpToSlots h') :
  Inv X pins σ H {s with heap:=h'}/\cB X pins H h' x cls dx:=by
 obtain⟨w1,w2,w3,JN,HZ,T',oT',IT,f1,⟨f2,f3⟩,f4,f5,f6,f7,f8,f9,Iy⟩:=W;obtain⟨NT,NU,NV,Ql⟩:=I.rec_ne hx JM;obtain⟨NW,NZ,N0,Qm⟩:=I.rec_ne hT GZ;have Ko:∀b o,(b∈frs X.stack\/b=X.env.locals\/b∈X.fs)->s.heap.get? b=some o->∀ws,o.data≠.fields ws:=λb o hb e ws d=>by
  obtain⟨n1,n2,n3,n4⟩:=I.rec_ne e d;rcases hb with z|z|z
  ·exact n4 z
  ·exact n1 z
  ·exact n3 z
 have G2:∀b,b∉[x,T]->b∉frs X.stack->b∉(x::T::frs X.stack):=λb h1 h2 h3=>by
  rcases aP.mp h3 with z|h3
  ·exact h1 (by simp[z])
  ·rcases aP.mp h3 with z|h3
   ·exact h1 (by simp[z])
   ·exact h2 h3
 refine⟨?_,me,JN,HZ,T',oT',IT,f1,f2,f3,f4,f5,f7,f8,f9,Iy,?_⟩
 ·refine I.stepN (t':=s.toks) (ch:=[x,T]) hex (λb hb=>?_) (λb o h1 h2 h3 h4 e=>w1 b o (dZ _ e (G2 b h4 h1))) (λb o hb e=>u b o e (Ko b o hb e)) λb o h4 e=>?_
  ·rcases aP.mp hb with z|hb
   ·subst z;exact⟨me,NT,NU,NV⟩
   ·have z:b=T:=by simpa using hb
    subst z;exact⟨aT,NW,NZ,N0⟩
  ·by_cases hb:b∈frs X.stack
   ·obtain⟨sl,q⟩:=u b o e (Ko b o (.inl hb) e);exact⟨_,q⟩
   ·exact⟨o,w1 b o (dZ _ e (G2 b h4 hb))⟩
 ·by_cases MW:T'=T
  ·rw[MW];exact aT
  ·by_cases Jr:T'∈frs X.stack
   ·obtain⟨_,o,ho,hn⟩:=I.stack.mem Jr;obtain⟨sl,q⟩:=u T' o ho hn;rw[q]at f8;have z:({o with slots:=sl}:Obj)=oT':=bB f8;subst z;exact absurd f9 (hn IT)
   ·have Gs:s.heap.get? T'=none:=by
     cases q:s.heap.get? T' with
     |none=>rfl
     |some o=>
      have:(PySem.W.hideAll s.heap (x::T::frs X.stack)).get? T'=some o:=dZ _ q (G2 T' (by simp[f7,MW]) Jr);rw[f6]at this;cases this
    refine⟨?_,I.hok.free_of Gs,λp hp z=>?_⟩
    ·cases q:X.s₀.heap.get? T' with
     |none=>rfl
     |some o=>
      obtain⟨o',e'⟩:=I.base.there T' o q (by rw[hex];simp);rw[Gs]at e';cases e'
    ·have:=(I.pin p hp).1;rw[z,Gs]at this;cases this
theorem my{P:aF}{w:aB}(hP:X.prog=P)(hw:X.w=w)(I:Inv X pins σ H s)(hex:X.ex=[]){E:XK}{e:ae}{s':af}(h:CX1 P w X.stack H s E e s') :
  ∃x cls dx H',e=.ref x/\Inv X pins σ H' s'/\cB X pins H' s'.heap x cls dx/\E cls dx H':=by
 subst hP hw;obtain⟨x,cls,dx,H',rfl,os,bare,un,hok,F,q⟩:=h;have ap:∀b,s.heap.get? b=none->H' b=none->Apart X pins H' b:=λb h1 h2=>by
  refine⟨?_,h2,λp hp z=>?_⟩
  ·cases q:X.s₀.heap.get? b with
   |none=>rfl
   |some o=>
    obtain⟨o',e'⟩:=I.base.there b o q (by rw[hex];simp);rw[h1]at e';cases e'
  ·have:=(I.pin p hp).1;rw[z,h1]at this;cases this
 obtain⟨oe,vs,T,oT,ts,e1,e2,e3,e4,e5,e6,e7,e8,e9,IS,N3⟩:=F.tr;exact⟨x,cls,dx,H',rfl,I.call' (ch:=[]) os un hok bare (λb z=>absurd z (by simp)),⟨ap x F.new F.free,oe,vs,T,oT,ts,e1,e2,e3,e4,e5,e6,e7,e8,e9,ap T IS N3⟩,q⟩
theorem cB.leaves(I:Inv X pins σ H s)(hex:X.ex=[]){env:Env}{outer:List Env}(GR:X.stack=X.env::X.outer)(GQ:X.env.frame=some X.env.locals)(F:cB X pins H s.heap x cls dx){E:XK}(q:E cls dx H)
  {EE:ae->af->Prop}:ak (ao X.prog X.w) X.A (leaving X.env (.ref x)) (λ_ s''=>CX1 X.prog X.w X.outer X.H₀ X.s₀ E (.ref x) s'') EE s:=by
 obtain⟨oe,vs,_,_,_,e1,_,_,e4,_⟩:=id F.tr;obtain⟨T,oT,ts,W,hT,GZ,aT⟩:=cB.flying I F;have GD:=I.ok.frames;rw[GR]at GD W;refine EW (jY _ _) GD GQ W λh' W' u=>?_
 rw[<-GR]at W';obtain⟨I',F'⟩:=cB.back I hex F.me e1 e4 hT GZ aT W' u;obtain⟨JN,HZ,T',oT',IT,f1,f2,f3,f4,f5,f6,f7,f8,f9,Iy⟩:=F'.tr;have hb:=I'.base;rw[hex]at hb;exact⟨x,cls,dx,H,rfl,I'.os,I'.bare,hb,I'.hok,⟨F'.me.new,F'.me.free,JN,HZ,T',oT',IT,f1,f2,f3,f4,f5,f6,f7,f8,f9,Iy.new,Iy.free⟩,q⟩
end
section
variable{P:aF}{w:aB}{K:az}{mg:Str->Option ae}{base:Heap}{N:List Str}{qual:Str}{scope:a9}{f:Addr}{cd:ae}{A:aG}{outer:List Env}{s₀:af}{H₀:Hp}{E:XK}
theorem Ey:Passes (CX1 P w) (eJ (CX1 P w) P w K mg base N qual scope f cd A outer s₀ H₀ E) E:=by
 intro pins σ H s e s' I h;obtain⟨x,cls,dx,H',rfl,I',F,q⟩:=my rfl rfl I rfl h;exact cB.leaves (env:=(eJ (CX1 P w) P w K mg base N qual scope f cd A outer s₀ H₀ E).env) (outer:=outer) I' rfl rfl rfl F q
theorem mC{X:Cx}(hP:X.prog=P)(hw:X.w=w):Passes (CX1 P w) X E0:=by
 intro pins σ H s e s' I h;obtain⟨x,cls,dx,H',rfl,_,_,_,_,_,q⟩:=h;exact q.elim
structure MadeX(X:Cx)(pins:List (Addr×Obj))(H:Hp)(h:Heap)(e:Addr)(cls:ae)(dx:Option Addr):Prop where
 me:Apart X pins H e
 tr:∃oe vs,h.get? e=some oe/\oe.cls=cls/\oe.dict=dx/\oe.data=.fields vs/\vs[1]? = some .none
def Throws(X:Cx)(E:XK):Prop:=∀(pins:List (Addr×Obj)) (σ:St) (H:Hp) (s:af) (e:Addr) (cls:ae) (dx:Option Addr),Inv X pins σ H s->MadeX X pins H s.heap e cls dx->E cls dx H->X.xe (.ref e) s
theorem DG:Throws (eJ (CX1 P w) P w K mg base N qual scope f cd A outer s₀ H₀ E) E:=by
 intro pins σ H s e cls dx I M q;generalize hX:eJ (CX1 P w) P w K mg base N qual scope f cd A outer s₀ H₀ E=X at I M;have hex:X.ex=[]:=by rw[<-hX];rfl
 have GR:X.stack=X.env::X.outer:=by rw[<-hX];rfl
 have GQ:X.env.frame=some X.env.locals:=by rw[<-hX];rfl
 have N4:X.xe=λe s'=>ak (ao X.prog X.w) X.A (leaving X.env e) (λ_ s''=>CX1 X.prog X.w X.outer X.H₀ X.s₀ E e s'') (λe' s''=>CX1 X.prog X.w X.outer X.H₀ X.s₀ E e' s'') s':=by rw[<-hX];rfl
 rw[N4];have GD:=I.ok.frames;have JO:=I.stack;obtain⟨oe,vs,m1,m2,N5,m3,m4⟩:=M.tr;obtain⟨n1,n2,n3,n4⟩:=I.rec_ne m1 m3;have hB:(PySem.W.hideAll s.heap (e::frs X.stack)).StaysIn s.heap:=λb o q=>PySem.W.of_hideAll _ q
 have hF:=PySem.W.funFrames_hide (as:=e::frs X.stack) JO λenv he a ha=>aO _ (List.mem_filterMap.mpr ⟨env,he,ha⟩)
 rw[GR]at GD;have N6:s.heap.FunFrames (PySem.W.hideAll s.heap (e::frs X.stack)) (X.env::X.outer):=by rw[<-GR];exact hF
 refine Fv (jY cls dx) ⟨m2,N5⟩ GD GQ hB N6 m1 (PySem.W.hideAll_none _ aQ) m3 m4 λKp W u=>?_
 obtain⟨w1,w2,w3,JN,HZ,T',oT',IT,f1,⟨f2,f3⟩,f4,f5,f6,f7,f8,f9,Iy⟩:=W;have Ko:∀b o,(b∈frs X.stack\/b=X.env.locals\/b∈X.fs)->s.heap.get? b=some o->∀ws,o.data≠.fields ws:=λb o hb e ws d=>by
  obtain⟨n1,n2,n3,n4⟩:=I.rec_ne e d;rcases hb with z|z|z
  ·exact n4 z
  ·exact n1 z
  ·exact n3 z
 have LM:∀b,b∉[e]->b∉frs X.stack->b∉(e::frs X.stack):=λb h1 h2 h3=>by
  rcases aP.mp h3 with z|h3
  ·exact h1 (by simp[z])
  ·exact h2 h3
 have slot:∀b o,(b∈frs X.stack\/b=X.env.locals\/b∈X.fs)->s.heap.get? b=some o->∃sl,Kp.get? b=some {o with slots:=sl}:=λb o hb e=>u b o e (Ko b o hb e)
 have I':Inv X pins σ H {s with heap:=Kp}:=I.stepN (t':=s.toks) (ch:=[e]) hex (λb hb=>by have z:b=e:=(by simpa using hb);subst z;exact⟨M.me,n1,n2,n3⟩) (λb o h1 _ _ h4 e=>w1 b o (dZ _ e (LM b h4 h1))) slot λb o h4 e=>by
  by_cases hb:b∈frs X.stack
  ·obtain⟨sl,q⟩:=slot b o (.inl hb) e;exact⟨_,q⟩
  ·exact⟨o,w1 b o (dZ _ e (LM b h4 hb))⟩
 have ap:∀b,s.heap.get? b=none->X.s₀.heap.get? b=none/\H b=none:=λb h1=>by
  refine⟨?_,I.hok.free_of h1⟩;cases q:X.s₀.heap.get? b with
  |none=>rfl
  |some o=>
   obtain⟨o',e'⟩:=I.base.there b o q (by rw[hex];simp);rw[h1]at e';cases e'
 have hT:s.heap.get? T'=none:=by
  by_cases Jr:T'∈frs X.stack
  ·obtain⟨_,o,ho,hn⟩:=JO.mem Jr;obtain⟨sl,q⟩:=slot T' o (.inl Jr) ho;rw[q]at f8;have z:({o with slots:=sl}:Obj)=oT':=bB f8;subst z;exact absurd f9 (hn IT)
  ·cases q:s.heap.get? T' with
   |none=>rfl
   |some o=>
    have:(PySem.W.hideAll s.heap (e::frs X.stack)).get? T'=some o:=dZ _ q (LM T' (by simp[f7]) Jr);rw[f6]at this;cases this
 have hb:=I'.base;rw[hex]at hb;exact⟨e,cls,dx,H,rfl,I'.os,I'.bare,hb,I'.hok,⟨M.me.new,M.me.free,JN,HZ,T',oT',IT,f1,f2,f3,f4,f5,f7,f8,f9,Iy,(ap T' hT).1,(ap T' hT).2⟩,q⟩
theorem Inv.more{X:Cx}{pins:List (Addr×Obj)}{σ:St}{H:Hp}{s:af}(I:Inv X pins σ H s)(hex:X.ex=[]){h':Heap}(k:∀b o,s.heap.get? b=some o->h'.get? b=some o):Inv X pins σ H {s with heap:=h'}:=
 I.stepN (t':=s.toks) (ch:=[]) hex (λb hb=>absurd hb (by simp)) (λb o _ _ _ _ e=>k b o e) (λb o _ e=>⟨o.slots,k b o e⟩) λb o _ e=>⟨o,k b o e⟩
theorem Inv.apart{X:Cx}{pins:List (Addr×Obj)}{σ:St}{H:Hp}{s:af}(I:Inv X pins σ H s)(hex:X.ex=[]){e:Addr}(n:s.heap.get? e=none):Apart X pins H e:=by
 refine⟨?_,I.hok.free_of n,λp hp z=>?_⟩
 ·cases q:X.s₀.heap.get? e with
  |none=>rfl
  |some o=>
   obtain⟨o',e'⟩:=I.base.there e o q (by rw[hex];simp);rw[n]at e';cases e'
 ·have:=(I.pin p hp).1;rw[z,n]at this;cases this
end
abbrev dk:List Value:=[.type "ValueError",.type "Exception",.type "BaseException",.type "object"]
def pE(K:az)(C:Addr):Prop:=PySem.W.excIn K C dk "ValueError.__new__" = true
theorem uM{K:az}{h:Heap}{C:Addr}{MX:List ae}{newId:String}(Z:K.In h)(q:PySem.W.excIn K C MX newId=true) :
  ∃bm N nm qn bs hdct sn sub ab col dd k0 k1 k2 k3 k5 mN,h.get? C=some (excClassObj nm qn C N bs bm hdct sn sub ab col dd k0 k1 k2 k3 k5 newId)/\h.Ns N mN/\mN "__init__" = none/\OwnTail h MX bm:=by
 unfold PySem.W.excIn at q;split at q
 ·rename_i dict cdat slots look
  split at q
  ·rename_i C2 N7 j0 j1 j2 j3 nid j5 JP hslots
   simp only[aL,beq_iff_eq,bY]at q;obtain⟨⟨⟨⟨⟨rfl,rfl⟩,Iz⟩,tl⟩,IU⟩,HM⟩:=q;obtain⟨c1,c2,c3,c4,c5,c6,c7,c8,c9,N8,Qn⟩:=cdat;dsimp only at JP Iz IU HM;subst JP Iz;have Il:slots = #[j0,j1,j2,j3,some (.builtin nid),j5]:=by
    obtain⟨sl⟩:=slots;simp only at hslots;rw[hslots]
   subst Il;exact⟨N7,c4,c1,c5,c2,c6,c7,c8,c9,N8,dict,j0,j1,j2,j3,j5,_,Z _ _ look,.of_isNs (PySem.W.isNs_of_in Z IU),PySem.W.nsMap_none_of_in Z IU HM,PySem.W.tail_of_in Z tl⟩
  ·cases q
 ·cases q
section
variable{X:Cx}{C:Addr}{x:Str}{E:XK}{t:TA}{e:Expr}{es:List Expr}{np cpos pos:Pos}
end
structure iW(k:Nat)(A:aG):Prop where
 dp:A.depth+3 * k+5<recursionLimit
 un:A.units+16 * k+200<cLine
 gd:A.guards=some []
theorem cP.u{k:Nat}{A:aG}(r:cP k A):iW k A:=⟨r.dp,r.un,r.gd⟩
structure kE(P:aF)(w:aB)(K:az)(mg:Str->Option ae)(base:Heap)(CX:CXT)(k:Nat)(f:Addr)(fd:FuncData)(ps:List Str)(sp:Sp):Prop where
 len:∀vs H Q E,sp vs H Q E->vs.length=ps.length
 run:∀(A:aG) (outer:List Env) (s:af) (H:Hp) (args:Args) (us:List ae) (vs:List V) (Q:VK) (E:XK),iW k A->ji P w K mg base A outer s H->BindsTo s fd args (ps.zip us)->Vals vs us->sp vs H Q E ->
  codeAny (ao P w) A (.call (.ref f) args) (CR CX outer P w H s Q E) s
section
variable{CX:CXT}{P:aF}{w:aB}{K:az}{mg:Str->Option ae}{base:Heap}{k:Nat}{f:Addr}{fd:FuncData}{ps:List Str}{sp:Sp}
end
section
variable{X:Cx}{CX:CXT}{k:Nat}{f:Addr}{fd:FuncData}{ps:List Str}{sp:Sp}{Hc:List V}{ds:List ae}{E:XK}{x:Str}{p pos:Pos}{e:Expr}{es:List Expr}{t:TA}
theorem Bp{pins:List (Addr×Obj)}{σ:St}{H:Hp}{s:af}{Q:VK}{us:List ae}{vs:List V}(F:kE X.prog X.w X.K X.mg X.base CX k f fd ps sp)(hr:iW k X.A)(hb:Binds X.K fd ps ds)(hd:Vals Hc ds)(hx:Passes CX X E)
  (I:Inv X pins σ H s) (r:Vals vs us) (h:sp (vs++Hc) H Q E):ak (ao X.prog X.w) X.A (call (.ref f) us) (EP X pins σ Q) X.xe s:=by
 have r2:Vals (vs++Hc) (us++ds):=r.append hd;have hl:(us++ds).length=ps.length:=by rw[<-r2.length];exact F.len _ _ _ _ h
 refine wpAny_call (codeAny_mono (F.run X.A X.stack s H ⟨us,[]⟩ (us++ds) (vs++Hc) Q E hr I.env0 (hb s us I.kIn hl) r2 h) λr s' hq=>?_);cases r with
 |error e=>exact hx pins σ H s e s' I hq
 |ok fl=>
  cases fl with
  |ret u=>exact I.after hq
  |next=>exact bq hq
  |brk=>exact bq hq
  |cont=>exact bq hq
theorem Fm(F:kE X.prog X.w X.K X.mg X.base CX k f fd ps sp)(hr:iW k X.A)(hg:Gl X x)(hm:X.mg x=some (.ref f))(hk:de X.K (.ref f)=true)(hb:Binds X.K fd ps ds)(hd:Vals Hc ds)(hx:Passes CX X E)
  (ha:PA X (e::es) t) (Ig:(x==("__debug__" : Str))=false) (he:aV (e::es) X.env=(false,eval e X.env)::aV es X.env) (Hz:(backTo pos (aV es X.env)).any (·.1)=false) :
  PE X (.Call (.Name x p) (e::es) [] pos) (kF sp Hc E t):=by
 intro pins s σ H Q I h;refine wpAny_Call_Name_kw (gS I hg hm ?_ Ig);refine PySem.W.callWith_K (h₀:=X.base) I.ok.mod.kin hk (thn (ha pos pins s σ H _ I h) λus s1 ⟨vs,H1,I1,r,q⟩=>⟨I1.kIn,?_⟩) he Hz;exact Bp F hr hb hd hx I1 r q
end
noncomputable def hV(x:Addr)(cls:ae)(dx:Option Addr):HO:=.ext λh=>∃o vs,h.get? x=some o/\o.cls=cls/\o.dict=dx/\o.data=.fields vs
abbrev Cx.held(X:Cx)(x:Addr):Cx:={X with A:=X.A.mark (some (.ref x)),calm:=false,xe:=λ_ _=>False}
section
variable{X:Cx}{pins:List (Addr×Obj)}{σ:St}{H:Hp}{s:af}
theorem Inv.hold(I:Inv X pins σ H s)(x:Addr):Inv (X.held x) pins σ H s:=
 ⟨⟨I.ok.mod,I.ok.kind,I.ok.glob,I.ok.blt,I.ok.above,I.ok.inj,I.ok.has,I.ok.cab,λz=>absurd z cG,I.ok.frames,I.ok.stk,I.ok.exf,I.ok.bs,I.ok.bsz,I.ok.noex,I.ok.exfs,I.ok.funs,I.ok.frf⟩,
  I.os,I.bare,I.base,I.loc,I.cell,I.free,I.freeC,I.pin,I.hok,I.len⟩
theorem Inv.unhold{x:Addr}(ok:X.Ok)(I:Inv (X.held x) pins σ H s):Inv X pins σ H s:=⟨ok,I.os,I.bare,I.base,I.loc,I.cell,I.free,I.freeC,I.pin,I.hok,I.len⟩
theorem Inv.track(I:Inv X pins σ H s){x:Addr}{o:HO}(hex:X.ex=[])(a:Apart X pins H x)(hl:x≠X.env.locals)(hc:∀y c,X.env.cells.lookup y=some c->c≠x)(ok:zG X.prog X.w (upd H x o) s.heap x o):Inv X pins σ (upd H x o) s:=by
 have nx:∀b u,H b=some u->b≠x:=λb u e z=>by rw[z,a.free]at e;cases e
 refine⟨I.ok,I.os,I.bare,⟨I.base.keep,I.base.slot,λb ob e n h=>?_,I.base.there,λb xs e=>?_,λb ob u e=>?_,λb ps e=>?_⟩,I.loc,I.cell,?_,λy c e=>?_,λp hp=>?_,λb u e=>?_,I.len⟩
 ·rw[qg (λz=>by rw[z,a.new]at e;cases e)];exact I.base.free b ob e n h
 ·have:=I.base.tups b xs e;rw[qg (nx b _ this)];exact this
 ·have:=I.base.frzs b ob u e;rw[qg (nx b _ this)];exact this
 ·obtain⟨more,q⟩:=I.base.tbls b ps e;exact⟨more,by rw[qg (nx b _ q)];exact q⟩
 ·rw[qg (bH hl)];exact I.free
 ·rw[qg (hc y c e)];exact I.freeC y c e
 ·obtain⟨e,n,r⟩:=I.pin p hp;exact⟨e,by rw[qg (a.pin p hp)];exact n,r⟩
 ·by_cases hb:b=x
  ·subst hb;rw[zo]at e;cases e;exact ok
  ·rw[qg hb]at e;refine(I.hok b u e).stay (λc v _ q=>q) (λc q=>?_) λc xs q=>?_
   ·rw[qg (nx c _ q)];exact q
   ·rw[qg (nx c _ q)];exact q
theorem Inv.forget{h':Heap}{m':Str->Option ae}{t':Nat}(I:Inv X pins σ H s)(hn:h'.Ns X.env.locals m')(hs:Heap.SameBut X.env.locals s.heap h'):Inv X pins (σ.map λ_=>none) H {s with heap:=h',toks:=t'}:=by
 have up:∀b o,X.s₀.heap.get? b=some o->b≠X.env.locals:=λb o e=>bg (bA (aM e) I.ok.above)
 refine⟨I.ok,I.os,I.bare,⟨λb o e n hb hx=>?_,λb o e n hb hx=>?_,I.base.free,λb o e hx=>?_,I.base.tups,I.base.frzs,I.base.tbls⟩,⟨m',hn,λj y v' e1 e2 e3=>?_⟩,λy c e=>?_,I.free,I.freeC,λp hp=>?_,λb ob e=>?_,by simpa using I.len⟩
 ·exact(hs.2 b (up b o e)).trans (I.base.keep b o e n hb hx)
 ·obtain⟨sl,e1⟩:=I.base.slot b o e n hb hx;exact⟨sl,(hs.2 b (up b o e)).trans e1⟩
 ·obtain⟨o',e1⟩:=I.base.there b o e hx;exact⟨o',(hs.2 b (up b o e)).trans e1⟩
 ·rw[List.getElem?_map]at e2;cases q:σ[j]? with
  |none=>rw[q]at e2;cases e2
  |some z=>rw[q]at e2;cases e2
 ·obtain⟨w',z⟩:=I.cell y c e;exact⟨w',z.sameBut hs (I.cne y c e)⟩
 ·obtain⟨e,n,ne,nf,d⟩:=I.pin p hp;exact⟨(hs.2 p.1 ne).trans e,n,ne,nf,d⟩
 ·refine(I.hok b ob e).stay (λc w' hc q=>(hs.2 c ?_).trans q) (λ_ q=>q) λ_ _ q=>q
  rintro rfl;rcases hc with rfl|hc
  ·rw[I.free]at e;cases e
  ·rw[I.free]at hc;cases hc
end
def Fo(i:Nat)(K:az)(C:Addr)(n:Nat)(tb:TS)(Eh:XK)(ts:TS):TS:=λD σ H=>tb {D with nx:=D.nx} σ H /\
 ∀(τ:St) (cls:ae) (dx:Option Addr) (H':Hp) (x:Addr),τ.length=n->Eh cls dx H'->H' x=none->cz K cls (.ref C)=some true /\
  ts {nx:=λ_ _=>False,rt:=D.rt} (τ.set i (some (.ref x))) (upd H' x (hV x cls dx))
abbrev Cx.inTry(X:Cx)(pn:List (Addr×Obj))(Et:ae->af->Prop):Cx:={X with pn:=pn,xe:=Et}
theorem Bx{X:Cx}{i:Nat}{C:Addr}{cn n:Str}{np hpos pos:Pos}{body:List Stmt}{b₀:Stmt}{Gh:List Stmt}{tb ts:TS}{Eh:XK}(hex:X.ex=[])(GR:X.stack=X.env::X.outer)(GQ:X.env.frame=some X.env.locals)
  (hN:X.N.Nodup) (hi:X.N[i]? = some n) (hl:X.env.scope.names.lookup n=some .local) (hg:Gl X cn) (hm:X.mg cn=some (.ref C))
  (hb:∀pn Et,Passes (CX1 X.prog X.w) (X.inTry pn Et) Eh->PSs (X.inTry pn Et) body tb) (hs:∀x,PSs (X.held x) (b₀::Gh) ts) (hd:(cn==("__debug__" : Str))=false) :
  PS X (.Try body [.ExceptHandler (some (.Name cn np)) (some n) (b₀::Gh) hpos] [] [] pos) (Fo i X.K C X.N.length tb Eh ts):=by
 intro pins s σ H D I h;obtain⟨h1,h2⟩:=h;refine wpAny_Try_except ?_;have LO:∀Et,(X.inTry (X.pn++pins) Et).Ok:=λEt=>
  ⟨I.ok.mod,I.ok.kind,I.ok.glob,I.ok.blt,I.ok.above,I.ok.inj,I.ok.has,I.ok.cab,I.ok.hd,I.ok.frames,I.ok.stk,I.ok.exf,I.ok.bs,I.ok.bsz,I.ok.noex,I.ok.exfs,I.ok.funs,I.ok.frf⟩
 have toT:∀{Et σ H s},Inv X pins σ H s->Inv (X.inTry (X.pn++pins) Et) [] σ H s:=λ{Et σ H s} J=>
  ⟨LO Et,J.os,J.bare,J.base,J.loc,J.cell,J.free,J.freeC,λp hp=>J.pin p (by simpa using hp),J.hok,J.len⟩
 have ofT:∀{Et Gi σ H s},Inv (X.inTry (X.pn++pins) Et) Gi σ H s->Inv X pins σ H s:=λ{Et Gi σ H s} J=>
  ⟨I.ok,J.os,J.bare,J.base,J.loc,J.cell,J.free,J.freeC,λp hp=>J.pin p (List.mem_append_left _ hp),J.hok,J.len⟩
 have IG:(X.env.scope.kind==.class||(X.env.scope.kind==.module&&X.env.locals != X.env.globals))=false:=by rw[I.ok.kind];rfl
 have hP:Passes (CX1 X.prog X.w) (X.inTry (X.pn++pins) λe s₁=>ak (ao X.prog X.w) X.A (noteFrame e X.env) (λ_ s₂=>ak (ao X.prog X.w) X.A (setFlight e none) (λ_ s₃=>
   ak (ao X.prog X.w) X.A (handleBy e X.env [.ExceptHandler (some (.Name cn np)) (some n) (b₀::Gh) hpos]) (SP X pins D) X.xe s₃) X.xe s₂) X.xe s₁) Eh:=by
  intro Gi σ' H' s' e s'' I' hcx;obtain⟨x,cls,dx,H2,rfl,I2,F2,q⟩:=my (X:=X.inTry (X.pn++pins) _) rfl rfl I' hex hcx;have I3:Inv X pins σ' H2 s'':=ofT I2;have ap:∀{Et b},Apart (X.inTry (X.pn++pins) Et) Gi H2 b->Apart X pins H2 b:=λ{Et b} a=>⟨a.new,a.free,λp hp=>a.pin p (List.mem_append_left _ hp)⟩
  have F3:cB X pins H2 s''.heap x cls dx:=by
   obtain⟨oe,vs,T,oT,ts,e1,e2,e3,e4,e5,e6,e7,e8,e9,IS⟩:=F2.tr;exact⟨ap F2.me,oe,vs,T,oT,ts,e1,e2,e3,e4,e5,e6,e7,e8,e9,ap IS⟩
  obtain⟨oe,vs,_,_,_,e1,_,_,e4,_⟩:=id F3.tr;obtain⟨T,oT,N9,W,hT,GZ,aT⟩:=cB.flying I3 F3;have GD:=I.ok.frames;rw[GR]at GD W;refine md (jY _ _) GD GQ W λh4 ⟨LP,LR,LS,LU⟩ u4=>?_
  refine gP (s:={s'' with heap:=h4}) LP LR LS LU λh5 W5 u5=>?_
  rw[<-GR]at W5;obtain⟨I5,F5⟩:=cB.back I3 hex F3.me e1 e4 hT GZ aT W5 (u4.trans u5);obtain⟨N_,Oa,T5,Ob,Oc,g1,g2,g3,g4,g5,g6,g7,g8,g9,Od⟩:=id F5.tr;obtain⟨Js,JQ⟩:=h2 σ' cls dx H2 x I3.len q F3.me.free;have LT:PySem.W.Looks (ao X.prog X.w) h5 (typeOf (.ref x)) cls:=by
   subst g2;exact(PySem.W.Looks.ld g1).andThen .now
  refine wpAny_handleBy_cons (codeAny_handlers_test (gS (I5.hold x) hg hm ?_ hd)) (by intro z;cases z);refine PySem.W.exm_one (K:=X.K) I5.kIn LT Js _ _ _ _ (λ_ _ e=>e) ?_;refine codeAny_handlers_suite_as ?_;obtain⟨T6,Oe,Of,⟨LV,LX,LY,LZ⟩,L4,IV,L5⟩:=cB.flying I5 F5;refine gP (s:={s'' with heap:=h5}) LV LX LY LZ λh6 W6' u6=>?_
  obtain⟨I6,F6⟩:=cB.back I5 hex F5.me g1 g4 L4 IV L5 W6' u6;obtain⟨MY,Og,_,_,_,k1,k2,k3,k4,_⟩:=id F6.tr;obtain⟨n1,n2,n3,n4⟩:=I6.rec_ne k1 k4;have I7:=I6.track (o:=hV x cls dx) hex F6.me n1 n2 ⟨⟨MY,Og,k1,k2,k3,k4⟩,⟨MY,k1⟩,λha hb ⟨o,ws,z1,z2,z3⟩ kk=>⟨o,ws,kk o z1,z2,z3⟩⟩;refine lD (X:=X.held x) (v:=.ref x) (I7.hold x) hN hi (.inl hl) rfl (λs8 I8=>?_) (.inr hl);refine bK (hs x pins s8 _ _ _ I8 JQ) (λf s9 r9=>?_) λ_ _ z=>bq z
  cases f with
  |ret u=>
   obtain⟨v,σ9,H9,I9,rv,q9⟩:=r9;have I9':=I9.unhold I.ok;obtain⟨m,hn,_⟩:=I9'.loc;exact wpAny_nameGoes hl hn IG λh' m' HH Gz=>⟨v,_,H9,I9'.forget HH Gz,rv,q9⟩
  |next=>obtain⟨_,_,_,z⟩:=r9;exact bq z
  |brk=>obtain⟨_,_,_,z⟩:=r9;exact bq z
  |cont=>obtain⟨_,_,_,z⟩:=r9;exact bq z
 refine thn (hb _ _ hP [] s σ H _ (toT I) h1) λf s1 q=>?_
 cases f with
 |next=>obtain⟨σ1,H1,I1,q1⟩:=q;exact wpAny_execs_nil ⟨σ1,H1,ofT I1,q1⟩
 |brk=>obtain⟨σ1,H1,I1,q1⟩:=q;exact⟨σ1,H1,ofT I1,q1⟩
 |cont=>obtain⟨σ1,H1,I1,q1⟩:=q;exact⟨σ1,H1,ofT I1,q1⟩
 |ret u=>obtain⟨v,σ1,H1,I1,rv,q1⟩:=q;exact⟨v,σ1,H1,ofT I1,rv,q1⟩
end L2
namespace L2
open PySem PySem.Spec PyProof.Rows PySem.W PySem.Calls Builtin Builtin.ObjectAttr Builtin.Getset_descriptor
structure fh(K:Frag)(C:Addr):Prop where
 ga:findIn K (.ref C) "__getattribute__" = some (some (.builtin "BaseException.__getattribute__"))
 gt:findIn K (.ref C) "__getattr__" = some none
 gc:findIn K (.ref C) "__class__" = some (some (.builtin "object.__class__"))
 mb:mroIn K C (.type "BaseException")=some true
 mo:mroIn K C (.type "object")=some true
 cl:∃c dd cd sl,K.lookup C=some ⟨c,dd,.cls cd,sl⟩
section
variable{prog:aF}{w:aB}{A:aG}{E:ae->af->Prop}{h:Heap}{g:Array GenState}{d:Drawn}{t:Nat}{os:OsState}{x C:Addr}{K:Frag}
theorem CI{M:Model}{G5:ae}{Q:Unit->af->Prop}(Z:K.In h)(S:fh K C)(L0:Looks M h (typeOf (.ref x)) (.ref C))(hq:Q () ⟨h,g,d,t,os⟩) :
  ak M A (checkBuiltinCall "BaseException.__getattribute__" ⟨[.ref x,G5],[]⟩) Q E ⟨h,g,d,t,os⟩:=by
 have hk:builtinKind "BaseException.__getattribute__" = some .slot:=by decide +kernel
 have IW:splitId "BaseException.__getattribute__" = some ("BaseException","__getattribute__"):=by decide +kernel
 have L1:=looks_mroIn (M:=M) Z S.mb;have ha:=F.args_bexc_ga (.ref x) G5;simp only[checkBuiltinCall,hk,IW];refine ag ?_;unfold isInstance
 repeat (first|assumption|lk|wp_step)
end
end L2
namespace L2
open PySem PySem.Spec PyProof.Rows
structure fQ(prog:aF)(w:aB)(xs:Array ae)(i l:Addr)(P:Nat->Heap->Prop):Prop where
 fr:∀k h h',P k h->(∀o,h.get? i=some o->h'.get? i=some o)->(∀o,h.get? l=some o->h'.get? l=some o)->P k h'
 nx:∀{A:aG} (k:Nat) (x:ae) (s:af) (Q:ae->af->Prop) (E:ae->af->Prop),P k s.heap->xs[k]? = some x->(∀h',P (k+1) h'->Heap.SameBut i s.heap h'->Q x {s with heap:=h'})->ak (ao prog w) A (cm (.ref i)) Q E s
 en:∀{A:aG} (k:Nat) (s:af) (Q:ae->af->Prop) (E:ae->af->Prop),A.handled=none->P k s.heap->xs[k]? = none ->
  (∀h' e,Heap.ExtBut i s.heap h'->(∃o,h'.get? e=some o/\o.cls=.type "StopIteration")->E (.ref e) {s with heap:=h'})->ak (ao prog w) A (cm (.ref i)) Q E s
 at_:∀k h,P k h->∃o,h.get? i=some o/\∃vs,o.data=.fields vs
theorem Ai{prog:aF}{w:aB}{xs:Array ae}{i l:Addr}:fQ prog w xs i l (λk h=>h.IsListIter i l k/\h.IsList l xs) where
 fr:=λ_ _ _ ⟨a,b⟩ p q=>⟨a.at p,b.at q⟩
 nx:=λk x s Q E ⟨a,b⟩ hx hQ=>wpAny_nextOf_list_item a b hx λh' a' sb=>hQ h' ⟨a',b.at λo e=>(sb.2 l (λz=>by
  obtain⟨_,e1,e2,_⟩:=a;obtain⟨_,f1,f2,_⟩:=b;rw[z,e1]at f1;have e3:=bB f1;rw[<-e3,e2]at f2;exact absurd f2 (by decide))).trans e⟩ sb
 en:=λk s Q E hh ⟨a,b⟩ hx hE=>wpAny_nextOf_list_end hh a b hx hE
 at_:=λ_ _ ⟨⟨o,e,_,d⟩,_⟩=>⟨o,e,_,d⟩
section
variable{prog:aF}{w:aB}{A:aG}{E:ae->af->Prop}{s:af}
theorem C4{it l:Addr}{i:Nat}{items}{x:ae}{Q:ae->af->Prop}(hit:s.heap.IsTupleIter it l i)(hl:s.heap.IsTuple l items)(hx:items[i]? = some x)
  (hQ:∀h',h'.IsTupleIter it l (i+1)->Heap.SameBut it s.heap h'->Q x {s with heap:=h'}):ak (ao prog w) A (cm (.ref it)) Q E s:=by
 obtain⟨oi,gi,ci,di⟩:=id hit;obtain⟨ol,gl,_,nl,dl⟩:=hl;unfold cm;refine ag (wpAny_callSpecial?_slot (name:=aJ "__next__") hit.typeIs F.slot_tuple_iterator_next (cH F.slot_tuple_iterator_next hit.typeIs F.entry_tuple_iterator_next ?_ (F.args_tuple_iterator_next_1 _)));show ak (ao prog w) _ (field (.ref it) 0>>=_) _ _ s;refine ag (bp gi di (x:=.ref l) rfl ?_);show ak (ao prog w) _ (if (a8 l==bV)=true then _ else _) _ _ s;rw[if_neg (show ¬ ((a8 l==.none)=true)from cG)];show ak (ao prog w) _ (field (.ref it) 1>>=_) _ _ s;refine ag (bp gi di (x:=.int i 0) rfl ?_);show ak (ao prog w) _ (seqItems? (.ref l)>>=_) _ _ s;refine ag (wpAny_seqItems gl dl ?_);simp only[Int.toNat_natCast,hx];refine ag (wpAny_setField gi di (by simp) (aA ⟨x,rfl,aA (hQ _ ?_ (Heap.SameBut.update ..))⟩));exact⟨_,Heap.get?_update_self _ gi (Obj.isFreed_of_fields (Obj.data_mapFields di _)),(Obj.cls_mapFields ..).trans ci,by rw[Obj.data_mapFields di];simp[rawInt]⟩
theorem EJ{it l:Addr}{i:Nat}{items}{Q:ae->af->Prop}(hh:A.handled=none)(hit:s.heap.IsTupleIter it l i)(hl:s.heap.IsTuple l items)(hx:items[i]? = none)
  (hE:∀h' e,Heap.ExtBut it s.heap h'->(∃o,h'.get? e=some o/\o.cls=.type "StopIteration")->E (.ref e) {s with heap:=h'}):ak (ao prog w) A (cm (.ref it)) Q E s:=by
 obtain⟨oi,gi,ci,di⟩:=id hit;obtain⟨ol,gl,_,nl,dl⟩:=hl;unfold cm;refine ag (wpAny_callSpecial?_slot (name:=aJ "__next__") hit.typeIs F.slot_tuple_iterator_next (cH F.slot_tuple_iterator_next hit.typeIs F.entry_tuple_iterator_next ?_ (F.args_tuple_iterator_next_1 _)));show ak (ao prog w) _ (field (.ref it) 0>>=_) _ _ s;refine ag (bp gi di (x:=.ref l) rfl ?_);show ak (ao prog w) _ (if (a8 l==bV)=true then _ else _) _ _ s;rw[if_neg (show ¬ ((a8 l==.none)=true)from cG)];show ak (ao prog w) _ (field (.ref it) 1>>=_) _ _ s;refine ag (bp gi di (x:=.int i 0) rfl ?_);show ak (ao prog w) _ (seqItems? (.ref l)>>=_) _ _ s;refine ag (wpAny_seqItems gl dl ?_);simp only[Int.toNat_natCast,hx];refine ag (wpAny_rule (ag (wpAny_setField gi di (by simp) ?_)));show ak (ao prog w) _ (newExc (.type "StopIteration") []>>=_) _ _ _;refine ag ?_;simp only[newExc,newTuple];refine ag (bZ ?_ (by size_fits));refine ag (m:=firstArgMember _ _) (wpAny_of_eq (a:=bV) (by first|rfl|(simp only[firstArgMember];rfl)) ?_);refine bZ ?_ (by size_fits);simp only[raiseNew];refine ag (wpAny_handled ?_)
 first|rw[show A.in1.handled=none from hh]|rw[hh]
 refine ag (aA (wpAny_throw ?_));exact hE _ _ (((Heap.SameBut.update ..).extBut.push _).push _) ⟨_,Heap.get?_push_size _ rfl,rfl⟩
end
theorem FV{prog:aF}{w:aB}{xs:Array ae}{i l:Addr}:fQ prog w xs i l (λk h=>h.IsTupleIter i l k/\h.IsTuple l xs) where
 fr:=λ_ _ _ ⟨a,b⟩ p q=>⟨a.at p,let ⟨o,e,r⟩:=b;⟨o,q o e,r⟩⟩
 nx:=λk x s Q E ⟨a,b⟩ hx hQ=>C4 a b hx λh' a' sb=>hQ h' ⟨a',b.extBut sb.extBut (λz=>by
  obtain⟨_,e1,e2,_⟩:=a;obtain⟨_,f1,f2,_⟩:=b;rw[z,e1]at f1;have e3:=bB f1;rw[<-e3,e2]at f2;exact absurd f2 (by decide))⟩ sb
 en:=λk s Q E hh ⟨a,b⟩ hx hE=>EJ hh a b hx hE
 at_:=λ_ _ ⟨⟨o,e,_,d⟩,_⟩=>⟨o,e,_,d⟩
section
variable{prog:aF}{w:aB}{A:aG}{E:ae->af->Prop}{s:af}{z TI TO i1 i2 l1 l2:Addr}{k:Nat}{xs ys:Array ae}{P1 P2:Nat->Heap->Prop}
structure F_(z TI TO i1 i2 l1 l2:Addr):Prop where
 d:ZipApart z TI TO i1 i2 l1 l2
theorem uU{x y a b:ae}{Q:ae->af->Prop}(D:ZipApart z TI TO i1 i2 l1 l2)(S1:fQ prog w xs i1 l1 P1)(S2:fQ prog w ys i2 l2 P2)
  (hz:IsZip s.heap z TI TO .none) (G_:IsPair s.heap TI (.ref i1) (.ref i2)) (Hq:IsPair s.heap TO a b) (h1:P1 k s.heap) (h2:P2 k s.heap) (hx:xs[k]? = some x) (hy:ys[k]? = some y)
  (hQ:∀h',IsZip h' z TI TO (rawInt s.heap.objs.size)->IsPair h' TO x y->P1 (k+1) h'->P2 (k+1) h'->IsPair h' s.heap.objs.size x y->h'.objs.size=s.heap.objs.size+1 ->
   (∀c o,c≠z->c≠TO->c≠i1->c≠i2->s.heap.get? c=some o->h'.get? c=some o)->Q (.ref s.heap.objs.size) {s with heap:=h'}) :
  ak (ao prog w) A (Builtin.«zip.__next__» ⟨[.ref z],[]⟩) (λfin s'=>∃v,fin=.done (.ret v)/\Q v s') E s:=by
 show ak (ao prog w) _ (field (.ref z) 2>>=_) _ _ _;refine ag (bp hz rfl (x:=.bool false) rfl ?_);show ak (ao prog w) _ (field (.ref z) 3>>=_) _ _ _;refine ag (bp hz rfl (x:=.ref TI) rfl ?_);refine ag (wpAny_seqItems G_ rfl ?_);show ak (ao prog w) _ (Builtin.SmallTypes.ownedTupleIsFree (.ref z)>>=_) _ _ _;refine ag ?_;unfold Builtin.SmallTypes.ownedTupleIsFree;refine ag (bp hz rfl (x:=.none) rfl (aA ?_));simp only[if_true];refine ag (wpAny_rule ?_);refine ag (bp hz rfl (x:=.ref TO) rfl ?_);refine ag (wpAny_setField_rec hz (by simp) λj1 zj1 G1=>?_)
 replace zj1:IsZip j1 z TI TO .ellipsis:=zj1
 refine ag ?_;simp only[List.zipIdx_cons,List.zipIdx_nil,List.forIn_cons,List.forIn_nil];refine ag (ag (wpAny_onRaise ?_));show ak (ao prog w) _ (cm (.ref i1)>>=_) _ _ _;refine ag (S1.nx k x _ _ _ (S1.fr k _ _ h1 (λo e=>G1.extBut _ o D.i1z e) λo e=>G1.extBut _ o D.l1z e) hx λj2 pj2 Hh=>aA ?_);have JR:IsPair j2 TO a b:=Hh.extBut _ _ D.TOi1 (G1.extBut _ _ D.TOz Hq);refine ag (wpAny_seqItems JR rfl ?_);refine ag (wpAny_updateSeq_pair JR λj3 oj3 Hi=>?_)
 replace oj3:IsPair j3 TO x b:=oj3
 refine ag (wpAny_letGo (aA ?_));refine ag (ag (wpAny_onRaise ?_));show ak (ao prog w) _ (cm (.ref i2)>>=_) _ _ _;refine ag (S2.nx k y _ _ _ (S2.fr k _ _ h2 (λo e=>Hi.extBut _ o D.TOi2.symm (Hh.extBut _ o D.i12.symm (G1.extBut _ o D.i2z e))) λo e=>Hi.extBut _ o D.l2TO (Hh.extBut _ o D.l2i1 (G1.extBut _ o D.l2z e))) hy λj4 pj4 Im=>aA ?_);have MZ:IsPair j4 TO x b:=Im.extBut _ _ D.TOi2 oj3;refine ag (wpAny_seqItems MZ rfl ?_);refine ag (wpAny_updateSeq_pair MZ λj5 oj5 H_=>?_)
 replace oj5:IsPair j5 TO x y:=oj5
 refine ag (wpAny_letGo (aA (aA ?_)));refine ag (wpAny_seqItems oj5 rfl ?_);refine ag (wpAny_newTuple ?_);have Gq:j5.objs.size=s.heap.objs.size:=by rw[H_.1,Im.1,Hi.1,Hh.1,G1.1]
 have zj5:IsZip j5 z TI TO .ellipsis:=H_.extBut _ _ D.TOz.symm (Im.extBut _ _ D.i2z.symm (Hi.extBut _ _ D.TOz.symm (Hh.extBut _ _ D.i1z.symm zj1)));have Oh:∀c o,c≠z->c≠TO->c≠i1->c≠i2->s.heap.get? c=some o->j5.get? c=some o:=λc o c1 c2 c3 c4 e=>
  H_.extBut _ _ c2 (Im.extBut _ _ c4 (Hi.extBut _ _ c2 (Hh.extBut _ _ c3 (G1.extBut _ _ c1 e))))
 have Oi:P1 (k+1) j5:=S1.fr _ _ _ pj2 (λo e=>H_.extBut _ o D.TOi1.symm (Im.extBut _ o D.i12 (Hi.extBut _ o D.TOi1.symm e))) λo e=>H_.extBut _ o D.l1TO (Im.extBut _ o D.l1i2 (Hi.extBut _ o D.l1TO e))
 have Oj:P2 (k+1) j5:=S2.fr _ _ _ pj4 (λo e=>H_.extBut _ o D.TOi2.symm e) λo e=>H_.extBut _ o D.l2TO e
 have JS:z<j5.objs.size:=aM zj5;show ak (ao prog w) _ (Builtin.SmallTypes.ownedTupleHandOut (.ref z) (.ref j5.objs.size)>>=_) _ _ _;refine ag ?_;unfold Builtin.SmallTypes.ownedTupleHandOut;have Ol:IsZip (j5.push {cls:=.type "tuple",data:=.seq #[x,y]}) z TI TO .ellipsis:=Heap.get?_push_of_some _ zj5;refine ag (wpAny_setField_rec Ol (by simp) λj7 zj7 L6=>?_)
 replace zj7:IsZip j7 z TI TO (rawInt j5.objs.size):=zj7
 refine wpAny_setField_rec zj7 (by simp) λj8 zj8 sj8=>?_
 replace zj8:IsZip j8 z TI TO (rawInt j5.objs.size):=zj8
 have up:∀c o,c≠z->j5.get? c=some o->j8.get? c=some o:=λc o c1 e=>sj8.extBut _ _ c1 (L6.extBut _ _ c1 (Heap.get?_push_of_some _ e))
 have M6:IsPair j8 j5.objs.size x y:=sj8.extBut _ _ (Nat.ne_of_gt JS) (L6.extBut _ _ (Nat.ne_of_gt JS) (Heap.get?_push_size _ rfl));have M7:j8.objs.size=j5.objs.size+1:=by rw[sj8.1,L6.1,cA]
 rw[Gq]at zj8 M6 M7;refine aA ⟨_,rfl,?_⟩;show Q (.ref j5.objs.size) _;rw[Gq];exact hQ j8 zj8 (up _ _ D.TOz oj5) (S1.fr _ _ _ Oi (λo e=>up _ o D.i1z e) λo e=>up _ o D.l1z e) (S2.fr _ _ _ Oj (λo e=>up _ o D.i2z e) λo e=>up _ o D.l2z e) M6 M7 λc o c1 c2 c3 c4 e=>up c o c1 (Oh c o c1 c2 c3 c4 e)
theorem x_{a b:ae}{Q:PySem.Fin->af->Prop}(hh:A.handled=none)(D:ZipApart z TI TO i1 i2 l1 l2)(S1:fQ prog w xs i1 l1 P1)
  (hz:IsZip s.heap z TI TO .none) (G_:IsPair s.heap TI (.ref i1) (.ref i2)) (Hq:IsPair s.heap TO a b) (h1:P1 k s.heap) (hx:xs[k]? = none)
  (hE:∀h' e,(∀c o,c≠z->c≠TO->c≠i1->c≠i2->s.heap.get? c=some o->h'.get? c=some o)->(∃o,h'.get? e=some o/\o.cls=.type "StopIteration")->E (.ref e) {s with heap:=h'}) :
  ak (ao prog w) A (Builtin.«zip.__next__» ⟨[.ref z],[]⟩) Q E s:=by
 show ak (ao prog w) _ (field (.ref z) 2>>=_) _ _ _;refine ag (bp hz rfl (x:=.bool false) rfl ?_);show ak (ao prog w) _ (field (.ref z) 3>>=_) _ _ _;refine ag (bp hz rfl (x:=.ref TI) rfl ?_);refine ag (wpAny_seqItems G_ rfl ?_);show ak (ao prog w) _ (Builtin.SmallTypes.ownedTupleIsFree (.ref z)>>=_) _ _ _;refine ag ?_;unfold Builtin.SmallTypes.ownedTupleIsFree;refine ag (bp hz rfl (x:=.none) rfl (aA ?_));simp only[if_true];refine ag (wpAny_rule ?_);refine ag (bp hz rfl (x:=.ref TO) rfl ?_);refine ag (wpAny_setField_rec hz (by simp) λj1 zj1 G1=>?_)
 replace zj1:IsZip j1 z TI TO .ellipsis:=zj1
 refine ag ?_;simp only[List.zipIdx_cons,List.zipIdx_nil,List.forIn_cons,List.forIn_nil];refine ag (ag (wpAny_onRaise ?_));show ak (ao prog w) _ (cm (.ref i1)>>=_) _ _ _;refine ag (S1.en k _ _ _ hh (S1.fr k _ _ h1 (λo e=>G1.extBut _ o D.i1z e) λo e=>G1.extBut _ o D.l1z e) hx λj2 e Hh he=>?_);obtain⟨oe,IX,JT⟩:=he;have zj2:IsZip j2 z TI TO .ellipsis:=Hh _ _ D.i1z.symm zj1;have L7:e≠z:=λq=>by subst q;rw[zj2]at IX;cases IX;simp at JT
 refine wpAny_setField_rec zj2 (by simp) λj3 _ Hi=>hE j3 e (λc o c1 _ c3 _ q=>Hi.extBut _ _ c1 (Hh _ _ c3 (G1.extBut _ _ c1 q))) ⟨oe,Hi.extBut _ _ L7 IX,JT⟩
theorem vz{x a b:ae}{Q:PySem.Fin->af->Prop}(hh:A.handled=none)(D:ZipApart z TI TO i1 i2 l1 l2)(S1:fQ prog w xs i1 l1 P1)(S2:fQ prog w ys i2 l2 P2)
  (hz:IsZip s.heap z TI TO .none) (G_:IsPair s.heap TI (.ref i1) (.ref i2)) (Hq:IsPair s.heap TO a b) (h1:P1 k s.heap) (h2:P2 k s.heap) (hx:xs[k]? = some x) (hy:ys[k]? = none)
  (hE:∀h' e,(∀c o,c≠z->c≠TO->c≠i1->c≠i2->s.heap.get? c=some o->h'.get? c=some o)->(∃o,h'.get? e=some o/\o.cls=.type "StopIteration")->E (.ref e) {s with heap:=h'}) :
  ak (ao prog w) A (Builtin.«zip.__next__» ⟨[.ref z],[]⟩) Q E s:=by
 show ak (ao prog w) _ (field (.ref z) 2>>=_) _ _ _;refine ag (bp hz rfl (x:=.bool false) rfl ?_);show ak (ao prog w) _ (field (.ref z) 3>>=_) _ _ _;refine ag (bp hz rfl (x:=.ref TI) rfl ?_);refine ag (wpAny_seqItems G_ rfl ?_);show ak (ao prog w) _ (Builtin.SmallTypes.ownedTupleIsFree (.ref z)>>=_) _ _ _;refine ag ?_;unfold Builtin.SmallTypes.ownedTupleIsFree;refine ag (bp hz rfl (x:=.none) rfl (aA ?_));simp only[if_true];refine ag (wpAny_rule ?_);refine ag (bp hz rfl (x:=.ref TO) rfl ?_);refine ag (wpAny_setField_rec hz (by simp) λj1 zj1 G1=>?_)
 replace zj1:IsZip j1 z TI TO .ellipsis:=zj1
 refine ag ?_;simp only[List.zipIdx_cons,List.zipIdx_nil,List.forIn_cons,List.forIn_nil];refine ag (ag (wpAny_onRaise ?_));show ak (ao prog w) _ (cm (.ref i1)>>=_) _ _ _;refine ag (S1.nx k x _ _ _ (S1.fr k _ _ h1 (λo e=>G1.extBut _ o D.i1z e) λo e=>G1.extBut _ o D.l1z e) hx λj2 pj2 Hh=>aA ?_);have JR:IsPair j2 TO a b:=Hh.extBut _ _ D.TOi1 (G1.extBut _ _ D.TOz Hq);refine ag (wpAny_seqItems JR rfl ?_);refine ag (wpAny_updateSeq_pair JR λj3 oj3 Hi=>?_)
 replace oj3:IsPair j3 TO x b:=oj3
 refine ag (wpAny_letGo (aA ?_));refine ag (ag (wpAny_onRaise ?_));show ak (ao prog w) _ (cm (.ref i2)>>=_) _ _ _;refine ag (S2.en k _ _ _ hh (S2.fr k _ _ h2 (λo e=>Hi.extBut _ o D.TOi2.symm (Hh.extBut _ o D.i12.symm (G1.extBut _ o D.i2z e))) λo e=>Hi.extBut _ o D.l2TO (Hh.extBut _ o D.l2i1 (G1.extBut _ o D.l2z e))) hy λj4 e Im he=>?_);obtain⟨oe,IX,JT⟩:=he;have zj3:IsZip j3 z TI TO .ellipsis:=Hi.extBut _ _ D.TOz.symm (Hh.extBut _ _ D.i1z.symm zj1);have zj4:IsZip j4 z TI TO .ellipsis:=Im _ _ D.i2z.symm zj3;have L7:e≠z:=λq=>by subst q;rw[zj4]at IX;cases IX;simp at JT
 refine wpAny_setField_rec zj4 (by simp) λj5 _ H_=>hE j5 e (λc o c1 c2 c3 c4 q=>H_.extBut _ _ c1 (Im _ _ c4 (Hi.extBut _ _ c2 (Hh.extBut _ _ c3 (G1.extBut _ _ c1 q))))) ⟨oe,H_.extBut _ _ L7 IX,JT⟩
end
section
variable{X:Cx}{pins:List (Addr×Obj)}{σ:St}{H:Hp}{s:af}{h':Heap}{tk:Nat}
theorem Inv.turnNew{ch:List Addr}{p:Addr}{vs:List V}{its:List ae}(I:Inv X pins σ H s)(hf:∀b∈ch,dU X pins H b)(k:∀b o,b∉ch->s.heap.get? b=some o->h'.get? b=some o)
  (hp:s.heap.objs.size<=p) (ht:IsTup h' p its.toArray) (r:Vals vs its) (hz:vs.length<=aR):Inv X pins σ (upd H p (.tup vs)) {s with heap:=h',toks:=tk}:=by
 have IZ:H p=none:=I.hok.fresh hp;have G2:∀b u,H b=some u->b∉ch:=λb u e z=>by have:=(hf b z).1;rw[e]at this;cases this
 have np:∀b u,H b=some u->b≠p:=λb u e z=>by rw[z,IZ]at e;cases e
 refine I.step (g':=s.gens) (d':=s.drawn) (ch:=ch) (λb hb=>?_) (λb o _ _ hc e _=>k b o hc e) (λb o _ _ hc e _=>⟨o.slots,k b o hc e⟩) (λb o hc e n=>?_) (λb o hc e=>⟨o,k b o hc e⟩)
  (λb xs e=>by rw[qg (np b _ e)];exact e) (λb o u e=>by rw[qg (np b _ e)];exact e) (λb ps e=>⟨#[],by rw[qg (np b _ e),e];simp⟩) (λm hm=>?_) (λb u e=>?_) I.bare
 ·obtain⟨f0,f1,f2,f3,f4,f5⟩:=hf b hb;exact⟨f3,f1,f4,f5⟩
 ·rw[qg (bg (bA (aM e) hp))];exact n
 ·obtain⟨o,es,ep,ho,r⟩:=hm;exact⟨o,es,ep,k _ o (λz=>(hf _ z).2.1 rfl) ho,r⟩
 ·by_cases hb:b=p
  ·subst hb;rw[zo]at e;cases e;exact⟨hz,its,r,ht⟩
  ·rw[qg hb]at e;refine(I.hok b u e).stay (λc v hc q=>k c v ?_ q) (λc q=>by rw[qg (np c _ q)];exact q) λc xs q=>by rw[qg (np c _ q)];exact q
   rcases hc with z|z
   ·rw[z];exact G2 b u e
   ·exact G2 c _ z
theorem Inv.turnAll{ch:List Addr}(I:Inv X pins σ H s)(hf:∀b∈ch,dU X pins H b)(k:∀b o,b∉ch->s.heap.get? b=some o->h'.get? b=some o):Inv X pins σ H {s with heap:=h',toks:=tk}:=by
 have G2:∀b u,H b=some u->b∉ch:=λb u e z=>by have:=(hf b z).1;rw[e]at this;cases this
 refine I.step (g':=s.gens) (d':=s.drawn) (ch:=ch) (λb hb=>?_) (λb o _ _ hc e _=>k b o hc e) (λb o _ _ hc e _=>⟨o.slots,k b o hc e⟩) (λb o hc e n=>n) (λb o hc e=>⟨o,k b o hc e⟩)
  (λb xs e=>e) (λb o u e=>e) (λb ps e=>⟨#[],by rw[e];simp⟩) (λm hm=>?_) (λb u e=>?_) I.bare
 ·obtain⟨f0,f1,f2,f3,f4,f5⟩:=hf b hb;exact⟨f3,f1,f4,f5⟩
 ·obtain⟨o,es,ep,ho,r⟩:=hm;exact⟨o,es,ep,k _ o (λz=>(hf _ z).2.1 rfl) ho,r⟩
 ·refine(I.hok b u e).stay (λc v hc q=>k c v ?_ q) (λc q=>q) λc xs q=>q
  rcases hc with z|z
  ·rw[z];exact G2 b u e
  ·exact G2 c _ z
end
def Hw(K:az)(tup:Bool)(H:Hp)(a:Addr)(xs:List V):Prop:=if tup=true then SqT K H a xs else SqL K H a xs
noncomputable def Itz(K:az)(tup:Bool)(l1 l2:Addr):It:=
 ⟨λi H=>∃xs ys x y,Hw K tup H l1 xs/\Hw K tup H l2 ys/\xs[i]? = some x/\ys[i]? = some y,
  λi H v H'=>∃p x y,H p=none/\v=.ref p/\H'=upd H p (.tup [x,y])/\(∀xs,Hw K tup H l1 xs->xs[i]? = some x)/\∀ys,Hw K tup H l2 ys->ys[i]? = some y,
  λi H=>∃xs ys,Hw K tup H l1 xs/\Hw K tup H l2 ys/\(xs.length<=i\/ys.length<=i)⟩
def eZ(tup:Bool)(h:Heap)(i l:Addr)(k:Nat):Prop:=if tup=true then h.IsTupleIter i l k else h.IsListIter i l k
def rm(tup:Bool)(h:Heap)(l:Addr)(xs:Array ae):Prop:=if tup=true then h.IsTuple l xs else h.IsList l xs
theorem jt{prog:aF}{w:aB}{xs:Array ae}{i l:Addr}{tup:Bool}:fQ prog w xs i l (λk h=>eZ tup h i l k/\rm tup h l xs):=by
 cases tup with
 |true=>exact FV
 |false=>exact Ai
theorem eZ.rec{tup:Bool}{h:Heap}{i l:Addr}{k:Nat}(x:eZ tup h i l k):∃o vs,h.get? i=some o/\o.data=.fields vs:=by
 cases tup with
 |true=>obtain⟨o,e,_,d⟩:=(show h.IsTupleIter i l k from x);exact⟨o,_,e,d⟩
 |false=>obtain⟨o,e,_,d⟩:=(show h.IsListIter i l k from x);exact⟨o,_,e,d⟩
theorem eZ.kept{tup:Bool}{h h':Heap}{i l:Addr}{k:Nat}(x:eZ tup h i l k)(p:∀o,h.get? i=some o->h'.get? i=some o):eZ tup h' i l k:=by
 cases tup with
 |true=>exact(show h.IsTupleIter i l k from x).at p
 |false=>exact(show h.IsListIter i l k from x).at p
theorem Inv.sq2{X:Cx}{pins:List (Addr×Obj)}{σ:St}{H:Hp}{s:af}{tup:Bool}{a:Addr}{xs:List V}(I:Inv X pins σ H s)(h:Hw X.K tup H a xs):∃its:List ae,Vals xs its/\rm tup s.heap a its.toArray/\xs.length<=aR/\∃o ns n,s.heap.get? a=some o/\o.data=.seq ns n:=by
 cases tup with
 |true=>
  obtain⟨its,r,p,z⟩:=I.tuple h;obtain⟨o,e,c,n,d⟩:=id p;exact⟨its,r,p,z,o,_,n,e,d⟩
 |false=>
  obtain⟨its,r,p,z⟩:=I.list h;obtain⟨o,n,e,c,c',d⟩:=id p;exact⟨its,r,p.isList,z,o,_,n,e,d⟩
theorem Inv.sq2_inj{X:Cx}{pins:List (Addr×Obj)}{σ:St}{H:Hp}{s:af}{tup:Bool}{a:Addr}{xs ys:List V}(I:Inv X pins σ H s)(h:Hw X.K tup H a xs)(h':Hw X.K tup H a ys):xs=ys:=by
 cases tup with
 |true=>exact I.tuple_inj h h'
 |false=>exact I.list_inj h h'
theorem D5{P:aF}{w:aB}{K:az}{es:List Expr}{ek:Nat}{GA:Pos}{tup:Bool}{z TI TO i1 i2 l1 l2:Addr}(n1:TI≠z)(n2:TO≠z)(n3:i1≠z)(n4:i2≠z)(n5:TI≠TO)(n6:TI≠i1)(n7:TI≠i2)(n8:TO≠i1)(n9:TO≠i2)(M8:i1≠i2)
  (ml:∀b∈[z,TI,TO,i1,i2],l1≠b/\l2≠b):Turn P w K (.Tuple es ek GA) (Itz K tup l1 l2) [z,TI,TO,i1,i2] z (λi h=>IsZip h z TI TO .none/\IsPair h TI (.ref i1) (.ref i2)/\(∃a b,IsPair h TO a b)/\eZ tup h i1 l1 i/\eZ tup h i2 l2 i) where
 mem:=by simp
 obj:=λi h st b hb=>by
  obtain⟨hz,G_,⟨a,c,Hq⟩,h1,h2⟩:=st;obtain⟨o1,v1,e1,d1⟩:=h1.rec;obtain⟨o2,v2,e2,d2⟩:=h2.rec;have G4:b=z\/b=TI\/b=TO\/b=i1\/b=i2:=by simpa using hb
  rcases G4 with q|q|q|q|q
  ·subst q;exact⟨_,hz,λv q=>by cases q⟩
  ·subst q;exact⟨_,G_,λv q=>by cases q⟩
  ·subst q;exact⟨_,Hq,λv q=>by cases q⟩
  ·subst q;exact⟨o1,e1,λv q=>by rw[d1]at q;cases q⟩
  ·subst q;exact⟨o2,e2,λv q=>by rw[d2]at q;cases q⟩
 keep:=λi h h' st k=>by
  obtain⟨hz,G_,⟨a,c,Hq⟩,h1,h2⟩:=st;exact⟨k z (by simp) _ hz,k TI (by simp) _ G_,⟨a,c,k TO (by simp) _ Hq⟩,h1.kept λo e=>k i1 (by simp) o e,h2.kept λo e=>k i2 (by simp) o e⟩
 item:=by
  intro X hP hw hK hc i pins s σ H E I hf st hg;subst hP hw hK;obtain⟨hz,G_,⟨a,c,Hq⟩,h1,h2⟩:=st;obtain⟨xs,ys,x,y,q1,q2,hx,hy⟩:=hg;obtain⟨Hj,r1,p1,z1,_⟩:=I.sq2 q1;obtain⟨Gx,r2,p2,z2,_⟩:=I.sq2 q2;obtain⟨u1,L8,L9⟩:=r1.get hx;obtain⟨u2,Om,Oo⟩:=r2.get hy;have D:ZipApart z TI TO i1 i2 l1 l2:=⟨n1,n2,n3,n4,n5,n6,n7,n8,n9,M8,(ml z (by simp)).1,(ml TO (by simp)).1,(ml i1 (by simp)).1,(ml i2 (by simp)).1,(ml z (by simp)).2,(ml TO (by simp)).2,(ml i1 (by simp)).2,(ml i2 (by simp)).2⟩
  have hT:s.TypeIs (.ref z) "zip":=⟨_,hz,rfl⟩
  unfold pyNext;refine ag (wpAny_attempt (wpAny_callSpecial?_slot (name:=aJ "__next__") hT F.slot_zip_next (cH F.slot_zip_next hT F.entry_zip_next
   (uU (xs:=Hj.toArray) (ys:=Gx.toArray) (k:=i) D (jt (tup:=tup)) (jt (tup:=tup)) hz G_ Hq ⟨h1,p1⟩ ⟨h2,p2⟩ (by simpa using L8) (by simpa using Om) λh' a1 a2 a3 a4 a5 a6 hk=>aA ?_) (F.args_zip_next_1 _))))
  have JG:∀b o,b∉[z,TI,TO,i1,i2]->s.heap.get? b=some o->h'.get? b=some o:=λb o hb e=>hk b o (λq=>hb (by simp[q])) (λq=>hb (by simp[q])) (λq=>hb (by simp[q])) (λq=>hb (by simp[q])) e
  have I1:Inv X pins σ (upd H s.heap.objs.size (.tup [x,y])) {s with heap:=h'}:=I.turnNew (tk:=s.toks) (its:=[u1,u2]) hf JG (aH _) ⟨_,a5,rfl,_,rfl⟩ (.cons L9 (.cons Oo .nil)) (by show 2<=aR;decide);have IZ:H s.heap.objs.size=none:=I.hok.fresh (aH _);have I_:∀b∈[z,TI,TO,i1,i2],b≠s.heap.objs.size:=λb hb q=>by
   have G4:b=z\/b=TI\/b=TO\/b=i1\/b=i2:=by simpa using hb
   obtain⟨o1,v1,e1,d1⟩:=h1.rec;obtain⟨o2,v2,e2,d2⟩:=h2.rec;have:b<s.heap.objs.size:=by
    rcases G4 with q|q|q|q|q
    ·subst q;exact aM hz
    ·subst q;exact aM G_
    ·subst q;exact aM Hq
    ·subst q;exact aM e1
    ·subst q;exact aM e2
   rw[q]at this;exact bS _ this
  have Gs:∀b∈[z,TI,TO,i1,i2],(upd H s.heap.objs.size (.tup [x,y])) b=none:=λb hb=>by rw[qg (I_ b hb)];exact(hf b hb).1
  refine⟨_,rfl,?_⟩;refine wpAny_letOwnedTupleGo_zip (s:={s with heap:=h'}) a1 λIA IB Gz=>?_
  obtain⟨f0,f1,f2,f3,f4,f5⟩:=hf z (by simp);refine⟨.ref s.heap.objs.size,_,I1.turned (t':=s.toks) (it:=z) (λb o hb e=>(Gz.2 b hb).trans e) (Gs z (by simp)) f1 f3 f4 f5,rfl,⟨_,x,y,IZ,rfl,rfl,λzs hq=>by rw[I.sq2_inj hq q1];exact hx,λzs hq=>by rw[I.sq2_inj hq q2];exact hy⟩,?_,Gs⟩;have up:∀b o,b≠z->h'.get? b=some o->IA.get? b=some o:=λb o hb e=>(Gz.2 b hb).trans e
  exact⟨IB,up _ _ n1 (hk _ _ n1 n5 n6 n7 G_),⟨_,_,up _ _ n2 a2⟩,a3.1.kept λo e=>up _ o n3 e,a4.1.kept λo e=>up _ o n4 e⟩
 done:=by
  intro X hP hw hK hc i pins s σ H E I hf st hg;subst hP hw hK;obtain⟨hz,G_,⟨a,c,Hq⟩,h1,h2⟩:=st;obtain⟨xs,ys,q1,q2,hx⟩:=hg;obtain⟨Hj,r1,p1,z1,_⟩:=I.sq2 q1;have D:ZipApart z TI TO i1 i2 l1 l2:=⟨n1,n2,n3,n4,n5,n6,n7,n8,n9,M8,(ml z (by simp)).1,(ml TO (by simp)).1,(ml i1 (by simp)).1,(ml i2 (by simp)).1,(ml z (by simp)).2,(ml TO (by simp)).2,(ml i1 (by simp)).2,(ml i2 (by simp)).2⟩
  have hT:s.TypeIs (.ref z) "zip":=⟨_,hz,rfl⟩
  have hl:=r1.length;unfold pyNext;by_cases hle:xs.length<=i
  ·skip
   refine ag (wpAny_attempt (wpAny_callSpecial?_slot (name:=aJ "__next__") hT F.slot_zip_next (cH F.slot_zip_next hT F.entry_zip_next
    (x_ (xs:=Hj.toArray) (k:=i) (I.ok.hd hc) D (jt (tup:=tup)) hz G_ Hq ⟨h1,p1⟩ (by simp;lia) λh' e hk he=>?_) (F.args_zip_next_1 _))))
   obtain⟨o,ho,HB⟩:=he;refine ag (wpAny_isInstance (T:="StopIteration") (b:=true) ⟨o,ho,HB⟩ isSubtype_stop ?_);exact aA ⟨rfl,I.turnAll (tk:=s.toks) hf λb o hb e=>hk b o (λq=>hb (by simp[q])) (λq=>hb (by simp[q])) (λq=>hb (by simp[q])) (λq=>hb (by simp[q])) e⟩
  ·obtain⟨Gx,r2,p2,z2,_⟩:=I.sq2 q2;have Kq:=r2.length;obtain⟨x1,Js⟩:∃x1,Hj[i]? = some x1:=⟨_,List.getElem?_eq_getElem (by lia)⟩
   refine ag (wpAny_attempt (wpAny_callSpecial?_slot (name:=aJ "__next__") hT F.slot_zip_next (cH F.slot_zip_next hT F.entry_zip_next
    (vz (xs:=Hj.toArray) (ys:=Gx.toArray) (k:=i) (x:=x1) (I.ok.hd hc) D (jt (tup:=tup)) (jt (tup:=tup)) hz G_ Hq ⟨h1,p1⟩ ⟨h2,p2⟩ (by simpa using Js) (by simp;lia) λh' e hk he=>?_) (F.args_zip_next_1 _))))
   obtain⟨o,ho,HB⟩:=he;refine ag (wpAny_isInstance (T:="StopIteration") (b:=true) ⟨o,ho,HB⟩ isSubtype_stop ?_);exact aA ⟨rfl,I.turnAll (tk:=s.toks) hf λb o hb e=>hk b o (λq=>hb (by simp[q])) (λq=>hb (by simp[q])) (λq=>hb (by simp[q])) (λq=>hb (by simp[q])) e⟩
 self:=λ_ _ _ _ _ st h=>wpAny_pyIter_zip st.1 h
abbrev zj1(h:Heap)(l1:Addr):Heap:=h.push {cls:=.type "tuple_iterator",data:=.fields #[.ref l1,.int 0 0]}
abbrev zj2(h:Heap)(l1 l2:Addr):Heap:=(zj1 h l1).push {cls:=.type "tuple_iterator",data:=.fields #[.ref l2,.int 0 0]}
abbrev zj3(h:Heap)(l1 l2:Addr):Heap:=(zj2 h l1 l2).push {cls:=.type "tuple",data:=.seq #[.ref h.objs.size,.ref (zj1 h l1).objs.size]}
abbrev zj4(h:Heap)(l1 l2:Addr):Heap:=(zj3 h l1 l2).push {cls:=.type "tuple",data:=.seq #[.none,.none]}
abbrev zj5(h:Heap)(l1 l2:Addr):Heap:=(zj4 h l1 l2).push {cls:=.type "zip",data:=.fields #[.none,.bool false,.bool false,.ref (zj2 h l1 l2).objs.size,.ref (zj3 h l1 l2).objs.size]}
theorem yj(l1 l2:Addr)(xs ys:Array ae) :
  Meets (Builtin.«zip.__new__» ⟨[.type "zip",.ref l1,.ref l2],[]⟩) (λ_ R s=>s.heap.IsTuple l1 xs/\s.heap.IsTuple l2 ys/\R (.ok (.ret (.ref (zj4 s.heap l1 l2).objs.size))) {s with heap:=zj5 s.heap l1 l2}):=
 .of_wp λprog w A R s h=>by
  obtain⟨hp,g,d,tk,os⟩:=s;obtain⟨JU,Kq,h⟩:=h;have Gj:=sub_zip;have Oq:Heap.IsTuple (af.heap ⟨hp,g,d,tk,os⟩) l1 xs:=JU;have Ot:Heap.IsTuple (af.heap ⟨hp.push {cls:=.type "tuple_iterator",data:=.fields #[.ref l1,.int 0 0]},g,d,tk,os⟩) l2 ys:=let ⟨o,e,r⟩:=Kq;⟨o,Heap.get?_push_of_some _ e,r⟩
  wp_walk using wpAny_pyIter_tuple Oq,wpAny_pyIter_tuple Ot
  exact⟨_,rfl,h⟩
section
variable{prog:aF}{w:aB}{A:aG}{E:ae->af->Prop}{s:af}
theorem vP{l1 l2:Addr}{xs ys:Array ae}{Q:ae->af->Prop}(JU:s.heap.IsTuple l1 xs)(Kq:s.heap.IsTuple l2 ys)
  (h:∀h',IsZip h' (s.heap.objs.size+4) (s.heap.objs.size+2) (s.heap.objs.size+3) .none->IsPair h' (s.heap.objs.size+2) (.ref s.heap.objs.size) (.ref (s.heap.objs.size+1)) ->
   IsPair h' (s.heap.objs.size+3) .none .none->h'.IsTupleIter s.heap.objs.size l1 0->h'.IsTupleIter (s.heap.objs.size+1) l2 0->h'.objs.size=s.heap.objs.size+5 ->
   (∀c o,s.heap.get? c=some o->h'.get? c=some o)->Q (.ref (s.heap.objs.size+4)) {s with heap:=h'}):ak (ao prog w) A (call (.type "zip") [.ref l1,.ref l2]) Q E s:=by
 refine callType_new F.called_zip (by decide) (F.typeCall_zip_2 _ _) (F.newCall_zip_2 _ _) (λobj=>F.args_object_init_3 obj _ _) F.entry_zip_new (yj l1 l2 xs ys) ⟨JU,Kq,?_⟩;have z1:(zj1 s.heap l1).objs.size=s.heap.objs.size+1:=cA ..;have z2:(zj2 s.heap l1 l2).objs.size=s.heap.objs.size+2:=by rw[cA,z1]
 have z3:(zj3 s.heap l1 l2).objs.size=s.heap.objs.size+3:=by rw[cA,z2]
 have z4:(zj4 s.heap l1 l2).objs.size=s.heap.objs.size+4:=by rw[cA,z3]
 have z5:(zj5 s.heap l1 l2).objs.size=s.heap.objs.size+5:=by rw[cA,z4]
 have g5:(zj5 s.heap l1 l2).get? (zj4 s.heap l1 l2).objs.size=some _:=Heap.get?_push_size _ rfl;have g4:(zj5 s.heap l1 l2).get? (zj3 s.heap l1 l2).objs.size=some _:=Heap.get?_push_of_some _ (Heap.get?_push_size _ rfl);have g3:(zj5 s.heap l1 l2).get? (zj2 s.heap l1 l2).objs.size=some _:=Heap.get?_push_of_some _ (Heap.get?_push_of_some _ (Heap.get?_push_size _ rfl));have g2:(zj5 s.heap l1 l2).get? (zj1 s.heap l1).objs.size=some _:=Heap.get?_push_of_some _ (Heap.get?_push_of_some _ (Heap.get?_push_of_some _ (Heap.get?_push_size _ rfl)));have g1:(zj5 s.heap l1 l2).get? s.heap.objs.size=some _:=Heap.get?_push_of_some _ (Heap.get?_push_of_some _ (Heap.get?_push_of_some _ (Heap.get?_push_of_some _ (Heap.get?_push_size _ rfl))));show _/\_;rw[z2,z3,z4]at g5;rw[z1,z2]at g3;rw[z3]at g4;rw[z1]at g2;rw[z4];exact⟨⟨_,g5,rfl⟩,h _ g5 g3 g4 ⟨_,g1,rfl,rfl⟩ ⟨_,g2,rfl,rfl⟩ z5 λc o x=>Heap.get?_push_of_some _ (Heap.get?_push_of_some _ (Heap.get?_push_of_some _ (Heap.get?_push_of_some _ (Heap.get?_push_of_some _ x))))⟩
end
def CQ(K:az)(ta:TA):TI:=λσ H R=>ta σ H λvs H1=>∃(tup:Bool) (l1 l2:Addr),vs=[.ref l1,.ref l2]/\(∃xs,Hw K tup H1 l1 xs)/\(∃ys,Hw K tup H1 l2 ys)/\R (Itz K tup l1 l2) H1
theorem yv{X:Cx}{es:List Expr}{ek:Nat}{GA p pos:Pos}{a b:Expr}{ta:TA}(hg:Gl X "zip")(hm:X.mg "zip" = none)(hv:bT "zip" = some (.type "zip"))(ha:PA X [a,b] ta)
  (hs:aV [a,b] X.env=[(false,eval a X.env),(false,eval b X.env)]) (IJ:aV [b] X.env=[(false,eval b X.env)]):PI X (.Tuple es ek GA) (.Call (.Name "zip" p) [a,b] [] pos) (CQ X.K ta):=by
 intro pins s σ H R I h;refine Call_ (fm (hn:=by decide) (hd:=by decide) I hg hm hv (fJ (thn (ha pos pins s σ H _ I h) λus s1 ⟨vs,H1,I1,r1,q1⟩=>?_) (by rw[hs,IJ]) (by rw[IJ];rfl)));obtain⟨tup,l1,l2,e,⟨xs,q2⟩,⟨ys,q3⟩,q⟩:=q1;subst e;cases r1 with
 |cons r rr=>
  cases rr with
  |cons r' rr=>
   cases rr;cases r;cases r';obtain⟨Hj,v1,p1,_,o1,Qo,m1,e1,d1⟩:=I1.sq2 q2;obtain⟨Gx,v2,p2,_,o2,Qp,m2,e2,d2⟩:=I1.sq2 q3;have Ks:l1<s1.heap.objs.size:=aM e1;have Ou:l2<s1.heap.objs.size:=aM e2;have above:∀b:Addr,b∈[s1.heap.objs.size+4,s1.heap.objs.size+2,s1.heap.objs.size+3,s1.heap.objs.size,s1.heap.objs.size+1]->s1.heap.objs.size<=b:=λb hb=>by
    have G4:b=s1.heap.objs.size+4\/b=s1.heap.objs.size+2\/b=s1.heap.objs.size+3\/b=s1.heap.objs.size\/b=s1.heap.objs.size+1:=by simpa using hb
    rcases G4 with q|q|q|q|q
    ·rw[q];exact Nat.le_add_right _ _
    ·rw[q];exact Nat.le_add_right _ _
    ·rw[q];exact Nat.le_add_right _ _
    ·rw[q];exact aH _
    ·rw[q];exact Nat.le_add_right _ _
   have fin:∀h',IsZip h' (s1.heap.objs.size+4) (s1.heap.objs.size+2) (s1.heap.objs.size+3) .none->IsPair h' (s1.heap.objs.size+2) (.ref s1.heap.objs.size) (.ref (s1.heap.objs.size+1)) ->
     IsPair h' (s1.heap.objs.size+3) .none .none->eZ tup h' s1.heap.objs.size l1 0->eZ tup h' (s1.heap.objs.size+1) l2 0->(∀c o,s1.heap.get? c=some o->h'.get? c=some o) ->
     ak (ao X.prog X.w) X.A (pyIter (.ref (s1.heap.objs.size+4))) (PIE X pins σ (.Tuple es ek GA) R) X.xe {s1 with heap:=h'}:=λh' a1 a2 a3 a4 a5 k=>by
    have I2:Inv X pins σ H1 {s1 with heap:=h'}:=I1.kept (t':=s1.toks) k;refine wpAny_pyIter_zip a1 ?_;refine⟨_,_,_,_,H1,rfl,I2,D5 (P:=X.prog) (w:=X.w) (K:=X.K) (z:=s1.heap.objs.size+4) (TI:=s1.heap.objs.size+2) (TO:=s1.heap.objs.size+3) (i1:=s1.heap.objs.size) (i2:=s1.heap.objs.size+1) (l1:=l1) (l2:=l2) (tup:=tup) (show (s1.heap.objs.size+2:Nat)≠s1.heap.objs.size+4 by lia) (show (s1.heap.objs.size+3:Nat)≠s1.heap.objs.size+4 by lia) (show (s1.heap.objs.size:Nat)≠s1.heap.objs.size+4 by lia) (show (s1.heap.objs.size+1:Nat)≠s1.heap.objs.size+4 by lia) (show (s1.heap.objs.size+2:Nat)≠s1.heap.objs.size+3 by lia) (show (s1.heap.objs.size+2:Nat)≠s1.heap.objs.size by lia) (show (s1.heap.objs.size+2:Nat)≠s1.heap.objs.size+1 by lia) (show (s1.heap.objs.size+3:Nat)≠s1.heap.objs.size by lia) (show (s1.heap.objs.size+3:Nat)≠s1.heap.objs.size+1 by lia) (show (s1.heap.objs.size:Nat)≠s1.heap.objs.size+1 by lia) (λb hb=>?_),⟨a1,a2,⟨_,_,a3⟩,a4,a5⟩,λb hb=>?_,q⟩
    ·have:=above b hb;exact⟨bg (bA Ks this),bg (bA Ou this)⟩
    ·have:=above b hb;exact I1.fpOk this (I1.hok.fresh this)
   cases tup with
   |true=>exact vP p1 p2 λh' a1 a2 a3 a4 a5 _ k=>fin h' a1 a2 a3 a4 a5 k
   |false=>exact call_zip_2 p1 p2 λh' a1 a2 a3 a4 a5 _ k=>fin h' a1 a2 a3 a4 a5 k
theorem E3{K:az}{T:String}:b_ K (.type T) (.type T)=some true:=by unfold b_;rw[if_pos (by simp)]
theorem BI{K:az}{a T:String}{b:Bool}(Gu:(ae.type a==ae.type T)=false)(hm:PySem.W.kitMeta T=true)(hf:(fastBuiltinMro a).map (·.contains (.type T))=some b):b_ K (.type a) (.type T)=some b:=by
 unfold b_ PySem.W.kitCls PySem.W.subIn;rw[if_neg (by rw[Gu];exact cG)];dsimp only;rw[if_pos hm];exact hf
noncomputable def ig(a T:String):Bool:=a==T||(a == "bool" && T == "int")
theorem z_{K:az}{a T:String}(ha:a∈["NoneType","bool","int","str","list","tuple","dict"])(hT:T∈["int","bool","str","list","tuple"]):b_ K (.type a) (.type T)=some (ig a T):=by
 simp only[aP,cY,or_false]at ha hT;rcases ha with rfl|rfl|rfl|rfl|rfl|rfl|rfl<;>rcases hT with rfl|rfl|rfl|rfl|rfl<;>first|exact E3|exact BI (by decide +kernel) (by decide +kernel) (by decide +kernel)
noncomputable def ltP(p q:Int×Int):Bool:=if p.1=q.1 then decide (p.2<q.2)else decide (p.1<q.1)
section
variable{prog:aF}{w:aB}{A:aG}{E:ae->af->Prop}{s:af}
end
theorem EN{h:Heap}{a:Addr}{m m':Str->Option ae}(x:h.Ns a m)(y:h.Ns a m'):m=m':=by
 obtain⟨o,es,ep,e1,e2,_,e4⟩:=x;obtain⟨o',Jl,Jm,f1,f2,_,f4⟩:=y;rw[e1]at f1;cases f1;rw[e2]at f2;cases f2;funext n;rw[<-e4,<-f4]
theorem Inv.newList{X:Cx}{pins:List (Addr×Obj)}{σ:St}{H:Hp}{s s':af}{D:Addr}{out:List V}{its:List ae}{c:Nat}(I:Inv X pins σ H s)(Hl:s'.os=s.os)(hg:s'.gens=s.gens)
  (k:∀b o,b≠X.env.locals->s.heap.get? b=some o->s'.heap.get? b=some o) (ns:∀m,s.heap.Ns X.env.locals m->s'.heap.Ns X.env.locals m) (hD:s.heap.get? D=none) (Qq:D≠X.env.locals)
  (hl:s'.heap.get? D=some {cls:=.type "list",data:=.seq its.toArray c}) (r:Vals out its) (hz:out.length<=aR):Inv X pins σ (upd H D (.lst out)) s':=by
 obtain⟨h',g',d',t',o'⟩:=s';have eo:o'=s.os:=Hl;have eg:g'=s.gens:=hg;subst eo eg;have IZ:H D=none:=I.hok.free_of hD;have np:∀b u,H b=some u->b≠D:=λb u e z=>by rw[z,IZ]at e;cases e
 obtain⟨m0,n0,_⟩:=id I.loc;obtain⟨oL,es,ep,GJ,_⟩:=id n0;obtain⟨L_,Jl,Jm,Ja,_⟩:=ns _ n0;refine I.step (g':=s.gens) (d':=d') (ch:=[]) (λb hb=>absurd hb (by simp)) (λb o hL _ _ e _=>k b o hL e) (λb o hL _ _ e _=>⟨o.slots,k b o hL e⟩) (λb o _ e n=>?_) (λb o _ e=>?_)
  (λb xs e=>by rw[qg (np b _ e)];exact e) (λb o u e=>by rw[qg (np b _ e)];exact e) (λb ps e=>⟨#[],by rw[qg (np b _ e),e];simp⟩) ns (λb u e=>?_) I.bare
 ·rw[qg (λz=>by rw[z,hD]at e;cases e)];exact n
 ·by_cases hL:b=X.env.locals
  ·exact⟨L_,by rw[hL];exact Ja⟩
  ·exact⟨o,k b o hL e⟩
 ·by_cases hb:b=D
  ·subst hb;rw[zo]at e;cases e;exact⟨hz,its,c,r,hl⟩
  ·rw[qg hb]at e;have nl:∀c,(∃u,H c=some u)->c≠X.env.locals:=λc ⟨u,e⟩ z=>by rw[z,I.free]at e;cases e
   refine(I.hok b u e).stay (λc v hc q=>k c v (nl c ?_) q) (λc q=>by rw[qg (np c _ q)];exact q) λc xs q=>by rw[qg (np c _ q)];exact q
   rcases hc with z|z
   ·exact⟨u,by rw[z];exact e⟩
   ·exact⟨_,z⟩
section
variable{prog:aF}{w:aB}{A:aG}{E:ae->af->Prop}{s:af}
theorem Dw{a:Addr}{vs:List ae}{P:Fin->af->Prop}(GJ:s.heap.get? a=some (a7 "list" vs.toArray 0))(h2:vs.length<2)(h:P (.done (.ret .none)) {s with heap:=sortedHeap s.heap a vs vs.toArray}) :
  ak (ao prog w) A (Builtin.«list.sort» ⟨[.ref a],[]⟩) P E s:=by
 rw[list_sort_plain];refine ag (listItems_at  GJ rfl ?_);refine ag (listUpdate_at  GJ rfl ?_ (by rw[aU,bJ];lia) (bU _));obtain⟨e1,JV⟩:∃e1,(s.heap.update a (bx λ_=>#[])).get? a=some (a7 "list" #[] e1):=⟨_,get?_update_seq GJ (λ_=>#[])⟩
 refine ag (seqEpoch_at JV rfl ?_);refine ag (wpAny_newTuple ?_ (by show vs.length<=_;rw[bJ];lia));refine ag (wpAny_newList ?_ (bU _));refine b6 ?_;have Gg:a<s.heap.objs.size:=aM GJ;have JW:(((s.heap.update a (bx λ_=>#[])).push (a7 "tuple" vs.toArray 0)).push (a7 "list" #[] 0)).get? a=some (a7 "list" #[] e1):=by
  rw[Heap.get?_push_ne _ _ _ (by rw[size_push',Heap.size_update];exact bg (dD Gg)),Heap.get?_push_ne _ _ _ (by rw[Heap.size_update];exact bg Gg)];exact JV
 show ak (ao prog w) _ _ _ _ {s with heap:=((s.heap.update a (bx λ_=>#[])).push (a7 "tuple" vs.toArray 0)).push (a7 "list" #[] 0)};dsimp only;have IA:vs.toArray.size<2:=by rw[aU];exact h2
 rw[if_pos IA,if_pos IA];refine ag (aA ?_);rw[StateT.run_pure];refine ag (aA ?_);dsimp only;refine ag (seqEpoch_at JW rfl ?_);have JX:(ah (aK.mk' general' (vs.toArray.zip vs.toArray) #[] 7 none)).map (·.2)=vs.toArray:=by
  show (vs.toArray.zip vs.toArray).map (·.2)=vs.toArray;apply Array.toList_inj.mp;simp[List.map_snd_zip]
 refine ag (listUpdate_at JW rfl ?_ (bU _) (by rw[JX,aU,bJ];lia));simp only[bne_self_eq_false,bL,if_false];refine aA ?_;rw[JX];exact h
theorem w9{l:Addr}{vs:List ae}{Q:ae->af->Prop}(hl:s.heap.IsList l vs.toArray)(h2:vs.length<2)(h:Q (.ref (s.heap.objs.size+1)) {s with heap:=sortedAll s.heap vs vs.toArray}):ak (ao prog w) A (call (.builtin "sorted") [.ref l]) Q E s:=by
 refine Calls.call_function_entry kind_sorted plain_sorted entry_sorted (args_sorted1 _) ?_;unfold Builtin.«sorted»;refine ag (m:=checkCount "sorted" 1 1 _) (aA ?_);refine ag (collect_list hl ?_ (by rw[bJ];lia));refine ag (wpAny_newList ?_ (by rw[bJ];lia));have Gq:((s.heap.push (a7 "list" #[] 0)).update s.heap.objs.size (bx (· ++ vs.toArray))).objs.size=s.heap.objs.size+1:=by rw[Heap.size_update,size_push']
 have GJ:(((s.heap.push (a7 "list" #[] 0)).update s.heap.objs.size (bx (· ++ vs.toArray))).push (a7 "list" vs.toArray 0)).get? (s.heap.objs.size+1)=some (a7 "list" vs.toArray 0):=by rw[<-Gq];exact Heap.get?_push_size _ rfl
 show ak _ _ _ _ _ {s with heap:=((s.heap.push (a7 "list" #[] 0)).update s.heap.objs.size (bx (· ++ vs.toArray))).push (a7 "list" vs.toArray 0)};rw[Gq];refine ag (b6 (cH slot_list_sort ⟨_,GJ,rfl⟩ entry_list_sort ?body (args_list_sort _)))
 case body=>
  exact Dw GJ h2 ⟨_,rfl,aA ⟨_,rfl,h⟩⟩
end
section
variable{X:Cx}{pins:List (Addr×Obj)}{σ:St}{H:Hp}{s:af}
theorem Inv.big(I:Inv X pins σ H s):sysModules<s.heap.objs.size:=by
 obtain⟨o,_,_,e,_⟩:=I.mod.glob;exact Nat.lt_of_le_of_lt (by decide) (aM (I.bk _ _ e))
theorem B_{pos:Pos}:PE X (.Dict [] [] pos) (λ_ H Q=>∀p,H p=none->Q (.ref p) (upd H p (.dK []))):=λpins s σ H Q I h=>
 wpAny_Dict_empty ⟨.ref s.heap.objs.size,_,I.laid (a:=s.heap.objs.size) (o:=.dK []) (t':=s.toks) (λ_ _ q=>Heap.get?_push_of_some _ q) (aH _) ⟨bU _,beq_eq_false_iff_ne.mpr (bH (bg I.big)),[],.nil,Heap.DictOf.new s.heap⟩,rfl,h _ (I.hok.fresh (aH _))⟩
theorem xI{A:aG}{bs:List Bool}{us:List ae}(r:Vals (bs.map V.bl) us):us=bs.map ae.bool:=by
 induction bs generalizing us with
 |nil=>cases r;rfl
 |cons b bs ih=>cases r with
  |cons h t=>rw[ih t,show _=ae.bool b from h];rfl
end
section
variable{X:Cx}
def sL(r r' HN:R2)(ta tb tc td:TE):TE:=λσ H Q=>ta σ H λx H1=>tb σ H1 λy H2=>r x y H2 λz H3=>∃k,z=.bl k /\
 (if k=true then tc σ H3 λw' H4=>r' y w' H4 λz H5=>∃k,z=.bl k/\(if k=true then td σ H5 λJY H6=>HN w' JY H6 Q else Q (.bl false) H5)else Q (.bl false) H3)
theorem Cy{a b c d:Expr}{ta tb tc td:TE}{pos:Pos}{op Gn Gp:CmpOp}{r r' HN:R2}(ho:OpR X (bh op) r)(G':OpR X (bh Gn) r')(Jb:OpR X (bh Gp) HN)(ha:PE X a ta)(hb:PE X b tb)(hc:PE X c tc)(hd:PE X d td)
  (hm:lastMarks [op,Gn,Gp] [b,c,d]=false):PE X (.Compare a [op,Gn,Gp] [b,c,d] pos) (sL r r' HN ta tb tc td):=by
 intro pins s σ H Q I h;refine Compare_chain (thn (ha pins s σ H _ I h) λv s1 ⟨x,H1,I1,r1,q1⟩=>chain_link (thn (hb pins s1 σ H1 _ I1 q1) λu s2 ⟨y,H2,I2,r2,q2⟩=>
  thn (ho pins s2 σ H2 x y v u _ I2 r1 r2 q2) λd s3 ⟨z,H3,I3,r3,k,e,q3⟩=>?_)) hm
 subst e;cases r3;refine bP ?_;cases k with
 |false=>exact ite_ff ⟨.bl false,H3,I3,rfl,q3⟩
 |true=>
  refine ite_tt (chain_link (thn (hc pins s3 σ H3 _ I3 q3) λw' s4 ⟨z',H4,I4,r4,q4⟩=>thn (G' pins s4 σ H4 y z' u w' _ I4 r2 r4 q4) λd' s5 ⟨z2,H5,I5,r5,k2,e2,q5⟩=>?_));subst e2;cases r5;refine bP ?_;cases k2 with
  |false=>exact ite_ff ⟨.bl false,H5,I5,rfl,q5⟩
  |true=>exact ite_tt (chain_last (thn (hd pins s5 σ H5 _ I5 q5) λJY s6 ⟨z3,H6,I6,r6,q6⟩=>Jb pins s6 σ H6 z' z3 w' JY Q I6 r4 r6 q6))
def yS(K:az):R2:=λx y H Q=>∃a b xs ys,x=.ref a/\y=.ref b/\SqT K H a xs/\SqT K H b ys/\xs.length+ys.length<=aR /\
 (xs=[]->Q (.ref b) H)/\(xs≠[]->ys=[]->Q (.ref a) H)/\(xs≠[]->ys≠[]->∀p,H p=none->Q (.ref p) (upd H p (.tup (xs++ys))))
theorem wX:OpR X (bO .Add) (yS X.K):=by
 intro pins s σ H x y v u Q I rx ry h;obtain⟨a,b,xs,ys,rfl,rfl,ha,hb,hz,q0,q1,q2⟩:=h;by_cases hx:xs=[]
 ·subst hx;cases rx;cases ry;obtain⟨its,r1,p1,_⟩:=I.tuple ha;obtain⟨Gx,r2,p2,_⟩:=I.tuple hb;cases r1;obtain⟨⟨cls,dd,data,sl⟩,ho,hc,n,hd⟩:=id p1;obtain⟨⟨IL,HW,data2,HX⟩,Hd,GX,n2,hd2⟩:=id p2;simp only at hc hd GX hd2;subst hc hd GX hd2;exact concat_meets ⟨_,ho,rfl⟩ ⟨_,Hd,rfl⟩ noFill_tuple_add seq_tuple_add PySem.F.slot_tuple_add PySem.F.entry_tuple_add (PySem.F.args_tuple_add_2 _ _)
   (tuple_addW0 a b _ Gx.toArray n n2 dd HW sl HX (by simp)) ⟨ho,Hd,⟨.ref b,H,I,rfl,q0 rfl⟩⟩
 ·exact vM pins s σ H (.ref a) (.ref b) v u Q I rx ry ⟨a,b,xs,ys,rfl,rfl,ha,hb,hx,hz,q1 hx,q2 hx⟩
end
noncomputable def Ite(K:az)(l:Addr):It:=
 ⟨λi H=>∃xs x,SqL K H l xs/\xs[i]? = some x,
  λi H v H'=>∃p x,H p=none/\v=.ref p/\H'=upd H p (.tup [.int i,x])/\∀xs,SqL K H l xs->xs[i]? = some x,
  λi H=>∃xs,SqL K H l xs/\xs.length<=i⟩
theorem xO{P:aF}{w:aB}{K:az}{es:List Expr}{ek:Nat}{GA:Pos}{e it l:Addr}(n1:e≠it)(n2:l≠e)(n3:l≠it) :
  Turn P w K (.Tuple es ek GA) (Ite K l) [e,it] e (λi h=>(∃old,IsEnum h e it ((i:Nat):Int) old)/\h.IsListIter it l i) where
 mem:=by simp
 obj:=λi h st b hb=>by
  obtain⟨⟨old,hz⟩,o1,e1,_,d1⟩:=st;have G4:b=e\/b=it:=by simpa using hb
  rcases G4 with q|q
  ·subst q;exact⟨_,hz,λv q=>by cases q⟩
  ·subst q;exact⟨o1,e1,λv q=>by rw[d1]at q;cases q⟩
 keep:=λi h h' st k=>by
  obtain⟨⟨old,hz⟩,h1⟩:=st;exact⟨⟨old,k e (by simp) _ hz⟩,h1.at λo q=>k it (by simp) o q⟩
 item:=by
  intro X hP hw hK hc i pins s σ H E I hf st hg;subst hP hw hK;obtain⟨⟨old,hz⟩,h1⟩:=st;obtain⟨xs,x,q1,hx⟩:=hg;obtain⟨its,r1,p1,z1⟩:=I.list q1;obtain⟨u1,L8,L9⟩:=r1.get hx;refine wpAny_pyNext_enum_item hz h1 p1.isList (x:=u1) (by simpa using L8) n1 λh' a1 a2 a3 a4 hk=>?_
  have JG:∀b o,b∉[e,it]->s.heap.get? b=some o->h'.get? b=some o:=λb o hb q=>hk b o (λz=>hb (by simp[z])) (λz=>hb (by simp[z])) q
  have I1:Inv X pins σ (upd H s.heap.objs.size (.tup [.int i,x])) {s with heap:=h',toks:=s.toks+1}:=I.turnNew (tk:=s.toks+1) (its:=[.int i s.toks,u1]) hf JG (aH _) ⟨_,a3,rfl,_,rfl⟩ (.cons ⟨_,rfl⟩ (.cons L9 .nil)) (by show 2<=aR;decide);have IZ:H s.heap.objs.size=none:=I.hok.fresh (aH _);have I_:∀b∈[e,it],b≠s.heap.objs.size:=λb hb q=>by
   have G4:b=e\/b=it:=by simpa using hb
   obtain⟨o1,e1,_,d1⟩:=h1;have:b<s.heap.objs.size:=by
    rcases G4 with q|q
    ·subst q;exact aM hz
    ·subst q;exact aM e1
   rw[q]at this;exact bS _ this
  have Gs:∀b∈[e,it],(upd H s.heap.objs.size (.tup [.int i,x])) b=none:=λb hb=>by rw[qg (I_ b hb)];exact(hf b hb).1
  refine⟨_,rfl,?_⟩;refine wpAny_letOwnedTupleGo_enum (s:={s with heap:=h',toks:=s.toks+1}) a1 λIA IB Gz=>?_
  obtain⟨f0,f1,f2,f3,f4,f5⟩:=hf e (by simp);refine⟨.ref s.heap.objs.size,_,I1.turned (t':=s.toks+1) (it:=e) (λb o hb q=>(Gz.2 b hb).trans q) (Gs e (by simp)) f1 f3 f4 f5,rfl,⟨_,x,IZ,rfl,rfl,λzs hq=>by rw[I.list_inj hq q1];exact hx⟩,⟨⟨u1,?_⟩,a2.at λo q=>(Gz.2 it (bH n1)).trans q⟩,Gs⟩
  ·have:((i+1:Nat):Int)=(i:Int)+1:=by push_cast;rfl
   rw[this];exact IB
 done:=by
  intro X hP hw hK hc i pins s σ H E I hf st hg;subst hP hw hK;obtain⟨⟨old,hz⟩,h1⟩:=st;obtain⟨xs,q1,hx⟩:=hg;obtain⟨its,r1,p1,z1⟩:=I.list q1;have hl:=r1.length;exact wpAny_pyNext_enum_end (I.ok.hd hc) hz h1 p1.isList (by simp;lia) λh' eb=>⟨rfl,I.turnAll (tk:=s.toks) hf λb o hb q=>eb b o (λz=>hb (by simp[z])) q⟩
 self:=λ_ _ _ _ _ st h=>by
  obtain⟨⟨old,hz⟩,_⟩:=st;exact wpAny_pyIter_enum hz h
def v7(K:az)(ta:TA):TI:=λσ H R=>ta σ H λvs H1=>∃(l:Addr),vs=[.ref l]/\(∃xs,SqL K H1 l xs)/\R (Ite K l) H1
theorem BJ{X:Cx}{es:List Expr}{ek:Nat}{GA p pos:Pos}{a:Expr}{ta:TA}(hg:Gl X "enumerate")(hm:X.mg "enumerate" = none)(hv:bT "enumerate" = some (.type "enumerate"))(ha:PA X [a] ta)
  (hs:aV [a] X.env=[(false,eval a X.env)]):PI X (.Tuple es ek GA) (.Call (.Name "enumerate" p) [a] [] pos) (v7 X.K ta):=by
 intro pins s σ H R I h;refine Call_ (fm (hn:=by decide) (hd:=by decide) I hg hm hv (fJ (thn (ha pos pins s σ H _ I h) λus s1 ⟨vs,H1,I1,r1,q1⟩=>?_) (by rw[hs];rfl) (by rfl)));obtain⟨l,e,⟨xs,q2⟩,q⟩:=q1;subst e;cases r1 with
 |cons r rr=>
  cases rr;cases r;obtain⟨Hj,v1,p1,_⟩:=I1.list q2;have Ks:l<s1.heap.objs.size:=by obtain⟨_,e,_⟩:=p1.isList;exact aM e
  refine call_enumerate_list p1.isList λh' hE hI Gq k=>?_
  have I2:Inv X pins σ H1 {s1 with heap:=h'}:=I1.kept (t':=s1.toks) k;refine wpAny_pyIter_enum hE ?_;refine⟨_,_,_,_,H1,rfl,I2,xO (P:=X.prog) (w:=X.w) (K:=X.K) (e:=s1.heap.objs.size+1) (it:=s1.heap.objs.size) (l:=l) (Nat.succ_ne_self _) (bg (dD Ks)) (bg Ks),⟨⟨_,hE⟩,hI⟩,λb hb=>?_,q⟩;have G4:b=s1.heap.objs.size+1\/b=s1.heap.objs.size:=by simpa using hb
  have:s1.heap.objs.size<=b:=by
   rcases G4 with q|q
   ·rw[q];exact Nat.le_succ _
   ·rw[q];exact aH _
  exact I1.fpOk this (I1.hok.fresh this)
end L2
namespace L2
open PySem PySem.Spec PyProof.Rows PySem.SeqAt
mutual
inductive fb(K:az)(H:Hp):V->PyData->Prop
 |non:fb K H .non .none
 |bl (b:Bool):fb K H (.bl b) (.bool b)
 |int (i:Int):fb K H (.int i) (.int i)
 |str (x:Str):fb K H (.str x) (.str x)
 |lst {a:Addr}{xs:List V}{ds:List PyData}:SqL K H a xs->iF K H xs ds->fb K H (.ref a) (.list ds)
 |tup {a:Addr}{xs:List V}{ds:List PyData}:SqT K H a xs->iF K H xs ds->fb K H (.ref a) (.tuple ds)
inductive iF(K:az)(H:Hp):List V->List PyData->Prop
 |nil:iF K H [] []
 |cons {x:V}{xs:List V}{d:PyData}{ds:List PyData}:fb K H x d->iF K H xs ds->iF K H (x::xs) (d::ds)
end
section
variable{X:Cx}{pins:List (Addr×Obj)}{σ:St}{H:Hp}{s:af}
theorem Inv.reads(I:Inv X pins σ H s){x:V}{d:PyData}(h:fb X.K H x d):∀{u:ae},RelV x u->∃as,Reads s.heap u d as:=
 h.rec (motive_1:=λx d _=>∀{u:ae},RelV x u->∃as,Reads s.heap u d as) (motive_2:=λxs ds _=>∀{us:List ae},Vals xs us->∃as,ReadsAll s.heap us ds as) (λr=>by cases r;exact⟨_,.none⟩) (λb _ r=>by cases r;exact⟨_,.bool b⟩) (λi _ r=>by obtain⟨t,rfl⟩:=r;exact⟨_,.int i t⟩) (λx _ r=>by obtain⟨t,rfl⟩:=r;exact⟨_,.str x t⟩)
  (λh _ g _ r=>by
   cases r;obtain⟨its,rv,pl,_⟩:=I.list h;obtain⟨as,ra⟩:=g rv;obtain⟨o,ho,hc,n,hd⟩:=pl.isList;exact⟨_,Reads.list ho hc hd (by simpa using ra)⟩)
  (λh _ g _ r=>by
   cases r;obtain⟨its,rv,pl,_⟩:=I.tuple h;obtain⟨as,ra⟩:=g rv;obtain⟨o,ho,hc,n,hd⟩:=pl;exact⟨_,Reads.tuple ho hc hd (by simpa using ra)⟩)
  (λr=>by cases r;exact⟨_,.nil⟩) (λ_ _ a b _ r=>by
   cases r with
   |cons r1 r2=>
    obtain⟨as,ra⟩:=a r1;obtain⟨bs,rb⟩:=b r2;exact⟨_,.cons ra rb⟩)
end
section
variable{X:Cx}
end
end L2
namespace L2
open PySem PySem.Spec PyProof.Rows
section
variable{lt:Nat->Nat->Bool}
def Asc(lt:Nat->Nat->Bool)(p:Array Nat)(m:Nat):Prop:=∀i j,i<j->j<m->lt (p.getD j 0) (p.getD i 0)=false
end
section
variable{lt:Nat->Nat->Bool}
structure Part(lt:Nat->Nat->Bool)(p:Array Nat)(r:Nat×Array Nat):Prop where
 perm:r.2.Perm p
 size:r.2.size=p.size
 lo:1<=r.1
 hi:r.1<=p.size
 asc:Asc lt r.2 r.1
end
end L2
namespace HT
open PySem PySem.Spec PyProof.Rows L2
section
variable{prog:aF}{w:aB}{A:aG}{E:ae->af->Prop}{s:af}
theorem Fz{t sl:Addr}{items:Array ae}{vl vu:ae}{lo hi:Option Int}{Q:ae->af->Prop}(ht:IsTup s.heap t items)(hs:s.heap.IsSliceOf sl vl vu .none)(pl:IsPart vl lo)(pu:IsPart vu hi)
  (h0:sIx items.size 0 lo=0) (h1:sIx items.size items.size hi=items.size) (h:Q (.ref t) s):ak (ao prog w) A (getItem (.ref t) (.ref sl)) Q E s:=by
 have sk:s.TypeIs (.ref sl) "slice":=by obtain⟨o,a,b,_⟩:=id hs;exact⟨o,a,b⟩
 unfold getItem
 try with_reducible refine b6 ?_
 first|refine ag (aA ?_)|skip
 have ty:=ht.typeIs;apply ag;apply wpAny_sequenceKey ty (by decide);apply ag;apply wpAny_callSpecial?_slot (name:=aJ "__getitem__") ty slot_tuple_getitem;refine cH slot_tuple_getitem ty entry_tuple_getitem ?_ (args_tuple_getitem _ _);show ak _ _ (Builtin.Tuple.tupleItemsOf (.ref t)>>=_) _ _ s;apply ag;apply tupleItemsOf_ ht;apply ag;apply wpAny_typeOf sk;rw[if_pos (by decide)];apply ag;apply tF hs pl pu;have yes:(((sIx items.size 0 lo:Nat):Int)==0&&(1:Int)==1&&(sIx items.size items.size hi-sIx items.size 0 lo)==items.size)=true:=by
  rw[h0,h1];simp
 show ak _ _ (if (((sIx items.size 0 lo:Nat):Int)==0&&(1:Int)==1&&(sIx items.size items.size hi-sIx items.size 0 lo)==items.size)=true then _ else _) _ _ s;rw[if_pos yes];apply ag;unfold Builtin.Tuple.tupleIsExact;refine ag (wpAny_typeOf ty (aA ?_));rw[if_pos (by rfl)];exact ag (wpAny_rule (aA ⟨_,rfl,aA h⟩))
end
end HT
namespace L2
open PySem PySem.Spec PyProof.Rows
def yx(K:az):V->Option Int->Option Int->Hp->VK->Prop:=λx lo hi H Q=>∃a xs,x=.ref a/\SqT K H a xs/\HT.sIx xs.length 0 lo=0/\HT.sIx xs.length xs.length hi=xs.length/\Q x H
theorem Dm{X:Cx}:SlR X (yx X.K):=by
 intro pins s σ H x v vl vu lo hi sl Q I rx hs pl pu ⟨a,xs,e,hx,h0,h1,q⟩;subst e;have Ov:=rx;cases rx;obtain⟨its,r,ht,hz⟩:=I.tuple hx;have hl:its.toArray.size=xs.length:=by rw[aU];exact r.length.symm
 exact⟨"tuple",_,slot_tuple_getitem.lookup,ht.typeIs,HT.Fz ht hs pl pu (by rw[hl];exact h0) (by rw[hl];exact h1) ⟨.ref a,H,I,Ov,q⟩⟩
def y_(K:az)(C:Addr)(n:Nat)(tb:TS)(Eh:XK)(ts:TS):TS:=λD σ H=>tb {D with nx:=D.nx} σ H /\
 ∀(τ:St) (cls:ae) (dx:Option Addr) (H':Hp),τ.length=n->Eh cls dx H'->cz K cls (.ref C)=some true/\ts {nx:=λ_ _=>False,rt:=D.rt} τ H'
theorem wQ{X:Cx}{C:Addr}{cn:Str}{np hpos pos:Pos}{body:List Stmt}{b₀:Stmt}{Gh:List Stmt}{tb ts:TS}{Eh:XK}(hex:X.ex=[])(GR:X.stack=X.env::X.outer)(GQ:X.env.frame=some X.env.locals)
  (hg:Gl X cn) (hm:X.mg cn=some (.ref C))
  (hb:∀pn Et,Passes (CX1 X.prog X.w) (X.inTry pn Et) Eh->PSs (X.inTry pn Et) body tb) (hs:∀x,PSs (X.held x) (b₀::Gh) ts) (hd:(cn==("__debug__" : Str))=false) :
  PS X (.Try body [.ExceptHandler (some (.Name cn np)) none (b₀::Gh) hpos] [] [] pos) (y_ X.K C X.N.length tb Eh ts):=by
 intro pins s σ H D I h;obtain⟨h1,h2⟩:=h;refine wpAny_Try_except ?_;have LO:∀Et,(X.inTry (X.pn++pins) Et).Ok:=λEt=>
  ⟨I.ok.mod,I.ok.kind,I.ok.glob,I.ok.blt,I.ok.above,I.ok.inj,I.ok.has,I.ok.cab,I.ok.hd,I.ok.frames,I.ok.stk,I.ok.exf,I.ok.bs,I.ok.bsz,I.ok.noex,I.ok.exfs,I.ok.funs,I.ok.frf⟩
 have toT:∀{Et σ H s},Inv X pins σ H s->Inv (X.inTry (X.pn++pins) Et) [] σ H s:=λ{Et σ H s} J=>
  ⟨LO Et,J.os,J.bare,J.base,J.loc,J.cell,J.free,J.freeC,λp hp=>J.pin p (by simpa using hp),J.hok,J.len⟩
 have ofT:∀{Et Gi σ H s},Inv (X.inTry (X.pn++pins) Et) Gi σ H s->Inv X pins σ H s:=λ{Et Gi σ H s} J=>
  ⟨I.ok,J.os,J.bare,J.base,J.loc,J.cell,J.free,J.freeC,λp hp=>J.pin p (List.mem_append_left _ hp),J.hok,J.len⟩
 have hP:Passes (CX1 X.prog X.w) (X.inTry (X.pn++pins) λe s₁=>ak (ao X.prog X.w) X.A (noteFrame e X.env) (λ_ s₂=>ak (ao X.prog X.w) X.A (setFlight e none) (λ_ s₃=>
   ak (ao X.prog X.w) X.A (handleBy e X.env [.ExceptHandler (some (.Name cn np)) none (b₀::Gh) hpos]) (SP X pins D) X.xe s₃) X.xe s₂) X.xe s₁) Eh:=by
  intro Gi σ' H' s' e s'' I' hcx;obtain⟨x,cls,dx,H2,rfl,I2,F2,q⟩:=my (X:=X.inTry (X.pn++pins) _) rfl rfl I' hex hcx;have I3:Inv X pins σ' H2 s'':=ofT I2;have ap:∀{Et b},Apart (X.inTry (X.pn++pins) Et) Gi H2 b->Apart X pins H2 b:=λ{Et b} a=>⟨a.new,a.free,λp hp=>a.pin p (List.mem_append_left _ hp)⟩
  have F3:cB X pins H2 s''.heap x cls dx:=by
   obtain⟨oe,vs,T,oT,ts,e1,e2,e3,e4,e5,e6,e7,e8,e9,IS⟩:=F2.tr;exact⟨ap F2.me,oe,vs,T,oT,ts,e1,e2,e3,e4,e5,e6,e7,e8,e9,ap IS⟩
  obtain⟨oe,vs,_,_,_,e1,_,_,e4,_⟩:=id F3.tr;obtain⟨T,oT,N9,W,hT,GZ,aT⟩:=cB.flying I3 F3;have GD:=I.ok.frames;rw[GR]at GD W;refine md (jY _ _) GD GQ W λh4 ⟨LP,LR,LS,LU⟩ u4=>?_
  refine gP (s:={s'' with heap:=h4}) LP LR LS LU λh5 W5 u5=>?_
  rw[<-GR]at W5;obtain⟨I5,F5⟩:=cB.back I3 hex F3.me e1 e4 hT GZ aT W5 (u4.trans u5);obtain⟨N_,Oa,T5,Ob,Oc,g1,g2,g3,g4,g5,g6,g7,g8,g9,Od⟩:=id F5.tr;obtain⟨Js,JQ⟩:=h2 σ' cls dx H2 I3.len q;have LT:PySem.W.Looks (ao X.prog X.w) h5 (typeOf (.ref x)) cls:=by
   subst g2;exact(PySem.W.Looks.ld g1).andThen .now
  refine wpAny_handleBy_cons (codeAny_handlers_test (gS (I5.hold x) hg hm ?_ hd)) (by intro z;cases z);refine PySem.W.exm_one (K:=X.K) I5.kIn LT Js _ _ _ _ (λ_ _ e=>e) ?_;refine codeAny_handlers_suite ?_;obtain⟨T6,Oe,Of,⟨LV,LX,LY,LZ⟩,L4,IV,L5⟩:=cB.flying I5 F5;refine gP (s:={s'' with heap:=h5}) LV LX LY LZ λh6 W6' u6=>?_
  obtain⟨I6,F6⟩:=cB.back I5 hex F5.me g1 g4 L4 IV L5 W6' u6;refine bK (hs x pins _ _ _ _ (I6.hold x) JQ) (λf s9 r9=>?_) λ_ _ z=>bq z
  cases f with
  |ret u=>
   obtain⟨v,σ9,H9,I9,rv,q9⟩:=r9;exact⟨v,_,H9,I9.unhold I.ok,rv,q9⟩
  |next=>obtain⟨_,_,_,z⟩:=r9;exact bq z
  |brk=>obtain⟨_,_,_,z⟩:=r9;exact bq z
  |cont=>obtain⟨_,_,_,z⟩:=r9;exact bq z
 refine thn (hb _ _ hP [] s σ H _ (toT I) h1) λf s1 q=>?_
 cases f with
 |next=>obtain⟨σ1,H1,I1,q1⟩:=q;exact wpAny_execs_nil ⟨σ1,H1,ofT I1,q1⟩
 |brk=>obtain⟨σ1,H1,I1,q1⟩:=q;exact⟨σ1,H1,ofT I1,q1⟩
 |cont=>obtain⟨σ1,H1,I1,q1⟩:=q;exact⟨σ1,H1,ofT I1,q1⟩
 |ret u=>obtain⟨v,σ1,H1,I1,rv,q1⟩:=q;exact⟨v,σ1,H1,ofT I1,rv,q1⟩
section
variable{X:Cx}
end
section
variable{X:Cx}{tg:Expr}
end
end L2
namespace L2
open PySem PySem.Spec PySem.W PyProof.Rows
open PySem.Builtin PySem.Builtin.ObjectAttr
structure dn(K:Frag)(C fI:Addr)(fs:List Str):Prop where
 see:fh K C
 ob:∃Ap nm q N bs sn sub ab col dd k0 k1 k2 k3 k5,K.lookup C=some (excClassObj nm q C N bs (.ref Ap::dk) true sn sub ab col dd k0 k1 k2 k3 k5 "ValueError.__new__")/\excIn K Ap dk "ValueError.__new__" = true
 ini:findIn K (.ref C) "__init__" = some (some (.ref fI))
 sa:findIn K (.ref C) "__setattr__" = some (some (.builtin "object.__setattr__"))
 fld:∀f∈fs,findIn K (.ref C) f=some none
section
variable{prog:aF}{w:aB}{A:aG}{E:ae->af->Prop}{h:Heap}{g:Array GenState}{d:Drawn}{t:Nat}{os:OsState}{x C fI:Addr}{K:Frag}{fs:List Str}{f:Str}{mA:Str->Option ae}{v:ae}
theorem EF{tk:Tok}{Q:Fin->af->Prop}(Z:K.In h)(S:dn K C fI fs)(hf:f∈fs)(I:h.Inst x C mA)(hv:mA f=some v)(hh:handedOut v=pure v)(hq:Q (.done (.ret v)) ⟨h,g,d,t,os⟩) :
  ak (ao prog w) A (Builtin.«object.__getattribute__» ⟨[.ref x,.str f tk],[]⟩) Q E ⟨h,g,d,t,os⟩:=by
 obtain⟨o,hx,hc,Jt,hd⟩:=I;rcases hd with ⟨_,L'⟩|⟨dx,HD,Gu,hns⟩
 ·rw[L' f]at hv;cases hv
 obtain⟨Ap,nm,q,N,bs,sn,sub,ab,col,dd,k0,k1,k2,k3,k5,Jc,_⟩:=S.ob;have hC:=Z _ _ Jc;have L0:Looks (ao prog w) h (typeOf (.ref x)) (.ref C):=hc▸(Looks.ld hx).andThen .now;have L2:=looks_findIn (M:=ao prog w) Z (S.fld f hf);unfold Builtin.«object.__getattribute__»
 repeat (any_goals (first|assumption|with_reducible refine L0.at ?_|with_reducible refine ag (L0.at ?_)|with_reducible refine L2.at ?_|with_reducible refine ag (L2.at ?_)|wp_step))
 split
 ·rename_i c GO
  exact absurd GO (Jt c)
 unfold instanceDict
 repeat (first|(with_reducible refine wpAny_loadPart_at hx ?_;rw[hc])|with_reducible refine wpAny_loadPart_at hC ?_|wp_step)
 rw[HD];refine aA ?_;refine wpAny_nsGet hns.ns ?_;rw[hv]
 repeat wp_step
 exact hq
theorem xC{tk:Tok}{fill expr:Bool}{Q:ae->af->Prop}(Z:K.In h)(S:dn K C fI fs)(hf:f∈fs)(I:h.Inst x C mA)(hv:mA f=some v)(hh:handedOut v=pure v)(hq:Q v ⟨h,g,d,t,os⟩) :
  ak (ao prog w) A (getAttrBy (.ref x) (.str f tk) fill expr) Q E ⟨h,g,d,t,os⟩:=by
 obtain⟨o,hx,hc,_⟩:=id I;have L0:Looks (ao prog w) h (typeOf (.ref x)) (.ref C):=hc▸(Looks.ld hx).andThen .now;have f3:=F.attr_ValueError.ga.bind (.ref x);have Qr:(expr&&onTheHeap (ae.builtin "BaseException.__getattribute__"))=false:=by cases expr<;>rfl
 have JQ:(ae.builtin "BaseException.__getattribute__" == ae.builtin "object.__getattribute__")=false:=by decide +kernel
 have Js:(onTheHeap (a8 C)&&ae.builtin "BaseException.__getattribute__" == ae.builtin "object.__getattribute__")=false:=by rw[JQ];rfl
 have L2:=looks_findIn (M:=ao prog w) Z S.see.ga;have L3:=looks_findIn (M:=ao prog w) Z S.see.gt
 repeat (any_goals (first|assumption|with_reducible refine L0.at ?_|with_reducible refine ag (L0.at ?_)|with_reducible refine L2.at ?_|with_reducible refine ag (L2.at ?_)|with_reducible refine L3.at ?_|with_reducible refine ag (L3.at ?_)|wp_step))
 refine codeAny_call_builtin F.attr_ValueError.ga.plain F.entry_bexc_ga (CI Z S.see L0 (EF Z S hf I hv hh ?_))
 repeat (any_goals (first|assumption|wp_step))
theorem yq{expr:Bool}{Q:ae->af->Prop}(Z:K.In h)(S:dn K C fI fs)(hf:f∈fs)(I:h.Inst x C mA)(hv:mA f=some v)(hh:handedOut v=pure v)(hq:Q v ⟨h,g,d,t+1,os⟩) :
  ak (ao prog w) A (getAttr (.ref x) f expr) Q E ⟨h,g,d,t,os⟩:=by
 unfold getAttr
 repeat (any_goals (first|assumption|with_reducible apply xC Z S hf I hv hh|wp_step))
theorem ui{tk:Tok}{Q:Fin->af->Prop}{ns:List Str}(Z:K.In h)(S:dn K C fI fs)(hf:f∈fs)(M9:x≠C)(I:h.Inst x C mA)
  (hq:∀h' GL,h'.Inst x C (λy=>if y=f then some v else mA y)->(∀b o,b≠x->(∀o₀ dx,h.get? x=some o₀->o₀.dict=some dx->b≠dx)->h.get? b=some o->h'.get? b=some o) ->
   (∀o₀,h.get? x=some o₀->∃o₁,h'.get? x=some o₁/\o₁.cls=o₀.cls/\o₁.data=o₀.data/\o₁.slots=o₀.slots/\(∀dx,o₀.dict=some dx->o₁.dict=some dx)/\(o₀.dict=none->∃dx,o₁.dict=some dx/\h.get? dx=none))->Q (.done (.ret .none)) ⟨h',g,d,GL,os⟩)
  (hw:Within mA ns) (Gq:ns.length<=1000) :
  ak (ao prog w) A (Builtin.«object.__setattr__» ⟨[.ref x,.str f tk,v],[]⟩) Q E ⟨h,g,d,t,os⟩:=by
 obtain⟨o,hx,hc,Jt,hd⟩:=I;obtain⟨Ap,nm,q,N,bs,sn,sub,ab,col,dd,k0,k1,k2,k3,k5,Jc,_⟩:=S.ob;have hC:=Z _ _ Jc;have L0:Looks (ao prog w) h (typeOf (.ref x)) (.ref C):=hc▸(Looks.ld hx).andThen .now;have L2:=looks_findIn (M:=ao prog w) Z (S.fld f hf);have JZ:=PySem.F.store_ValueError.passes (.ref x);unfold Builtin.«object.__setattr__»
 repeat (first|rw[refuse_eq]|(rw[refuseLoop_ref,refuseLoop_ref,JZ])|(with_reducible refine wpAny_loadPart_at hx ?_;rw[hc])|with_reducible refine wpAny_mroOf_exc hC ?_|with_reducible refine L2.at ?_|with_reducible refine ag (L2.at ?_)|wp_step)
 rcases hd with ⟨M_,L'⟩|⟨dx,HD,Gu,hns⟩
 ·rw[M_,if_neg (by simp[typeHasDict])];split
  ·rename_i GO;cases GO
  split
  ·rename_i c GO
   exact absurd GO (Jt c)
  have up:(h.push {cls:=.type "dict",data:=.dict #[]}).get? x=some o:=Heap.get?_push_of_some _ hx;have ne:x≠h.objs.size:=bg (aM hx);refine ag (wpAny_alloc' (ag (wpAny_update' up (aA ?_))));generalize hG:(h.push {cls:=.type "dict",data:=.dict #[]}).update x (λo=>{cls:=o.cls,dict:=some h.objs.size,data:=o.data,slots:=o.slots})=G;have dG:G.get? h.objs.size=some {cls:=.type "dict",data:=.dict #[]}:=by
   rw[<-hG];exact(Heap.get?_update_ne _ _ _ _ ne.symm).trans (Heap.get?_push_at rfl rfl)
  have nG:G.Ns h.objs.size (λ_=>none):=⟨_,#[],_,dG,rfl,λe he=>absurd he (by simp),λ_=>rfl⟩
  have xG:G.get? x=some {cls:=o.cls,dict:=some h.objs.size,data:=o.data,slots:=o.slots}:=by
   rw[<-hG];refine Heap.get?_update_self _ up ?_;have nf:=(Heap.get?_some_iff.mp hx).2;obtain⟨oc,od,Ow,osl⟩:=o;cases Ow<;>first|rfl|exact nf
  have oG:∀b ob,b≠x->h.get? b=some ob->G.get? b=some ob:=λb ob hb e=>by
   rw[<-hG];exact(Heap.get?_update_ne _ _ _ _ hb).trans (Heap.get?_push_of_some _ e)
  show ak _ _ (storeInDict h.objs.size (.str f tk) f v) _ _ _;unfold storeInDict newKeyGuard;refine ag (aA (ag (wpAny_nsSet1 (Heap.Ns1.of_empty nG) λh' HH hs=>?_)));obtain⟨oD,Ox,Oy,Ma,Mb,Mc⟩:=HH.count (Within.cons f v Within.nil);refine ag (wpAny_lookBehind Ma (by rw[Mb];exact pastItsLine_dict (br Mc (by rw[bM,List.length_nil,bJ];lia))) ?_);have x':=(hs.2 x ne).trans xG
  wp_walk
  refine hq h' _ ⟨_,x',hc,Jt,.inr ⟨h.objs.size,rfl,ne.symm,?_⟩⟩ (λb ob hb _ e=>(hs.2 b (bg (aM e))).trans (oG b ob hb e)) λo₀ h₀=>?_
  ·obtain⟨o',es,ep,e1,e2,e3,eu,e4⟩:=HH;exact⟨o',es,ep,e1,e2,e3,eu,λy=>by rw[e4 y];by_cases hy:y=f<;>simp[hy,L']⟩
  ·obtain rfl:o=o₀:=bB (hx.symm.trans h₀);exact⟨_,x',rfl,rfl,rfl,(λdx e=>by rw[M_]at e;cases e),λ_=>⟨_,rfl,Heap.get?_none_of_le (aH _)⟩⟩
 ·rw[HD];refine aA ?_;show ak _ _ (storeInDict dx (.str f tk) f v) _ _ _;unfold storeInDict newKeyGuard;refine ag (aA (ag (wpAny_nsSet1 hns λh' HH hs=>?_)));obtain⟨oD,Ox,Oy,Ma,Mb,Mc⟩:=HH.count (Within.cons f v hw);refine ag (wpAny_lookBehind Ma (by rw[Mb];exact pastItsLine_dict (br Mc (by rw[bM,bJ];lia))) ?_);have x':=(hs.2 x Gu.symm).trans hx
  wp_walk
  exact hq h' _ ⟨o,x',hc,Jt,.inr ⟨dx,HD,Gu,HH⟩⟩ (λb ob _ hb e=>(hs.2 b (hb o dx hx HD)).trans e) λo₀ h₀=>by
   obtain rfl:o=o₀:=bB (hx.symm.trans h₀);exact⟨o,x',rfl,rfl,rfl,λ_ e=>e,λe=>by rw[HD]at e;cases e⟩
theorem Bz{M:Model}{o:Obj}{G5:ae}{Q:Unit->af->Prop}(Z:K.In h)(S:dn K C fI fs)(hx:h.get? x=some o)(hc:o.cls=.ref C)(hq:Q () ⟨h,g,d,t,os⟩) :
  ak M A (checkBuiltinCall "object.__setattr__" ⟨[.ref x,G5,v],[]⟩) Q E ⟨h,g,d,t,os⟩:=by
 have SF:=PySem.F.store_ValueError;have L0:Looks M h (typeOf (.ref x)) (.ref C):=hc▸(Looks.ld hx).andThen .now;have L1:=looks_mroIn (M:=M) Z S.see.mo;have ha:=SF.args (.ref x) G5 v;simp only[checkBuiltinCall,SF.kind,SF.split];refine ag ?_;unfold isInstance
 repeat (first|assumption|lk|wp_step)
theorem C6{Q:Unit->af->Prop}{ns:List Str}(Z:K.In h)(S:dn K C fI fs)(hf:f∈fs)(M9:x≠C)(I:h.Inst x C mA)
  (hq:∀h' GL,h'.Inst x C (λy=>if y=f then some v else mA y)->(∀b o,b≠x->(∀o₀ dx,h.get? x=some o₀->o₀.dict=some dx->b≠dx)->h.get? b=some o->h'.get? b=some o) ->
   (∀o₀,h.get? x=some o₀->∃o₁,h'.get? x=some o₁/\o₁.cls=o₀.cls/\o₁.data=o₀.data/\o₁.slots=o₀.slots/\(∀dx,o₀.dict=some dx->o₁.dict=some dx)/\(o₀.dict=none->∃dx,o₁.dict=some dx/\h.get? dx=none))->Q () ⟨h',g,d,GL,os⟩)
  (hw:Within mA ns) (Gq:ns.length<=1000):ak (ao prog w) A (setAttr (.ref x) f v) Q E ⟨h,g,d,t,os⟩:=by
 obtain⟨o,hx,hc,_⟩:=id I;have L0:Looks (ao prog w) h (typeOf (.ref x)) (.ref C):=hc▸(Looks.ld hx).andThen .now;have L2:=looks_findIn (M:=ao prog w) Z S.sa;have SF:=PySem.F.store_ValueError;have f3:=SF.slot.bind (.ref x);unfold setAttr callSpecial? specialOf
 repeat (any_goals (first|assumption|with_reducible refine L0.at ?_|with_reducible refine ag (L0.at ?_)|with_reducible refine L2.at ?_|with_reducible refine ag (L2.at ?_)|wp_step))
 refine codeAny_call_builtin SF.slot.plain SF.entry (Bz Z S hx hc (ui Z S hf M9 I (λh' GL I' k z=>?_) hw Gq))
 repeat (any_goals (first|assumption|wp_step))
 exact hq h' GL I' k z
end
end L2
namespace L2
open PySem PySem.Spec PySem.W PyProof.Rows
noncomputable def shp(self:Str):List Str->List Stmt->Bool
 | [],[]=>true
 |f::fs,.Assign [.Attribute (.Name s _) a _] (.Name b _) _::r=>s==self&&a==f&&b==f&&(f==("__debug__" : Str))==false&&shp self fs r
 |_,_=>false
noncomputable def zE:List (Str×ae)->(Str->Option ae)->Str->Option ae
 | [],m=>m
 | (f,v)::r,m=>zE r λy=>if y=f then some v else m y
theorem l0{y:Str}:∀{l:List (Str×ae)}{m:Str->Option ae},(∀v,(y,v)∉l)->zE l m y=m y
 | [],_,_=>rfl
 | (f,v)::r,m,h=>by
  unfold zE;rw[l0 λw hw=>h w (aO _ hw)];have:y≠f:=by rintro rfl;exact h v aQ
  simp[this]
theorem tw{y:Str}{v:ae}:∀{l:List (Str×ae)}{m:Str->Option ae},(l.map (·.1)).Nodup->(y,v)∈l->zE l m y=some v
 | [],_,_,h=>by cases h
 | (f,w)::r,m,nd,h=>by
  unfold zE;simp only[aN,List.nodup_cons]at nd;rcases aP.mp h with z|z
  ·cases z;rw[l0 λu hu=>nd.1 (aY.mpr ⟨_,hu,rfl⟩)];simp
  ·exact tw nd.2 z
structure Mid(K:Frag)(h hh:Heap)(L:Addr)(m:Str->Option ae)(e C:Addr)(mA:Str->Option ae)(ns:List Str):Prop where
 nl:hh.Ns L m
 inst:hh.Inst e C mA
 keep:∀b o,b≠e->h.get? b=some o->hh.get? b=some o
 ob:∀o,h.get? e=some o->∃o1,hh.get? e=some o1/\o1.cls=o.cls/\o1.data=o.data
 dx:∀o1 dx,hh.get? e=some o1->o1.dict=some dx->h.get? dx=none/\dx≠L
 wi:PySem.Within mA ns
 ne:L≠e
theorem Mid.put{K:Frag}{h hh h':Heap}{L e C:Addr}{m mA:Str->Option ae}{ns:List Str}{f:Str}{v:ae}(M:Mid K h hh L m e C mA ns)
  (I':h'.Inst e C (λy=>if y=f then some v else mA y)) (k:∀b o,b≠e->(∀o₀ dx,hh.get? e=some o₀->o₀.dict=some dx->b≠dx)->hh.get? b=some o->h'.get? b=some o)
  (z:∀o₀,hh.get? e=some o₀->∃o₁,h'.get? e=some o₁/\o₁.cls=o₀.cls/\o₁.data=o₀.data/\o₁.slots=o₀.slots/\(∀dx,o₀.dict=some dx->o₁.dict=some dx)/\(o₀.dict=none->∃dx,o₁.dict=some dx/\hh.get? dx=none)) :
  Mid K h h' L m e C (λy=>if y=f then some v else mA y) (f::ns):=by
 obtain⟨oL,es,ep,hL,r⟩:=id M.nl;obtain⟨oe,he,_⟩:=id M.inst;refine⟨⟨oL,es,ep,k L oL M.ne (λo₀ dx e1 e2 q=>(M.dx o₀ dx e1 e2).2 q.symm) hL,r⟩,I',λb o hb q=>k b o hb (λo₀ dx e1 e2 y=>by rw[y,(M.dx o₀ dx e1 e2).1]at q;cases q) (M.keep b o hb q),λo q=>?_,λo1 dx q1 q2=>?_,M.wi.cons f v,M.ne⟩
 ·obtain⟨o1,a,b,c⟩:=M.ob o q;obtain⟨o2,a2,b2,c2,_⟩:=z o1 a;exact⟨o2,a2,b2.trans b,c2.trans c⟩
 ·obtain⟨o2,a2,b2,c2,d2,e2,f2⟩:=z oe he;rw[a2]at q1;cases q1;cases q:oe.dict with
  |some dy=>
   have:=e2 dy q;rw[q2]at this;cases this;exact M.dx oe dx he q
  |none=>
   obtain⟨dy,g1,g2⟩:=f2 q;rw[q2]at g1;cases g1;refine⟨?_,λy=>by rw[y,hL]at g2;cases g2⟩;cases y:h.get? dx with
   |none=>rfl
   |some o=>
    by_cases hb:dx=e
    ·rw[hb,he]at g2;cases g2
    ·rw[M.keep dx o hb y]at g2;cases g2
section
variable{prog:aF}{w:aB}{A:aG}{E:ae->af->Prop}{K:Frag}{C fI e:Addr}{fs:List Str}{env:Env}{self:Str}{h:Heap}{m:Str->Option ae}
theorem pY(Z:K.In h)(S:dn K C fI fs)(hK:K.lookup e=none)(hk:env.scope.kind=.function)(hs:env.kindOf self=some .local)(M':m self=some (.ref e))(hds:(self==("__debug__" : Str))=false){Q:Flow->af->Prop}{g:Array GenState}{d:Drawn}{os:OsState} :
  ∀(l:List (Str×ae)) (body:List Stmt) (mA:Str->Option ae) (ns:List Str) (hh:Heap) (tk:Nat),shp self (l.map (·.1)) body=true->(∀y∈l,y.1∈fs/\env.kindOf y.1=some .local/\m y.1=some y.2)->Mid K h hh env.locals m e C mA ns->ns.length+l.length<=1000 ->
   (∀h' GL Ih,Mid K h h' env.locals m e C (zE l mA) Ih->Q .next ⟨h',g,d,GL,os⟩)->ak (ao prog w) A (execs body env) Q E ⟨hh,g,d,tk,os⟩
 | [],[],mA,ns,hh,tk,_,_,M,_,hq=>wpAny_execs_nil (hq hh tk ns M)
 | [],_::_,_,_,_,_,h1,_,_,_,_=>by cases h1
 |_::_,[],_,_,_,_,h1,_,_,_,_=>by cases h1
 | (f,v)::l,st::r,mA,ns,hh,tk,h1,h2,M,hz,hq=>by
  simp only[aN]at h1;unfold shp at h1;split at h1
  ·cases (show False by rename_i q _;cases q)
  ·rename_i f' fs' s p1 a p2 b p3 p4 r' e1 e2
   cases e1;cases e2;simp only[aL,beq_iff_eq]at h1;obtain⟨⟨⟨⟨q1,q2⟩,q3⟩,Ig⟩,h1⟩:=h1;have q1:=q1.symm;have q2:=q2.symm;have q3:=q3.symm;subst q1 q2 q3;obtain⟨g1,g2,g3⟩:=h2 _ aQ;have Zh:K.In hh:=λa o q=>M.keep a o (λy=>by rw[y,hK]at q;cases q) (Z a o q)
   have Ic:e≠C:=λy=>by
    obtain⟨_,_,_,_,_,_,_,_,_,_,_,_,_,_,_,hC,_⟩:=S.ob;rw[<-y,hK]at hC;cases hC
   refine wpAny_execs_cons (plainObj_wpAny_Assign_Attribute ?_);refine wpAny_Name (wpAny_loadName_local hk g2 M.nl g3 (wpAny_Name (wpAny_loadName_local hk hs M.nl M' ?_) hds)) Ig;refine C6 Zh S g1 Ic M.inst (λh' GL I' k z=>?_) M.wi (by simp only[bM]at hz;lia);exact pY Z S hK hk hs M' hds l r _ _ h' GL h1 (λy hy=>h2 y (aO _ hy)) (M.put I' k z) (by simp only[bM]at hz ⊢;lia) hq
  ·cases h1
end
structure fT(K:Frag)(fI:Addr)(fs:List Str):Prop where
 ex:∃self nm qual params body scope kV dc pm an cd ct od sl,K.lookup fI=some ⟨.type "function",od,.func (fnOf nm qual params body scope .none kV dc pm an cd ct),sl⟩/\codeIn K cd qual=true/\(scope.kind=.function/\scope.isCoroutine=false/\scope.isGenerator=false/\∀f∈self::fs,scope.names.lookup f=some .local) /\
  shp self fs body=true/\(self::fs).Nodup/\(self==("__debug__" : Str))=false/\∀us:List ae,us.length=fs.length+1->bindArgs (fnOf nm qual params body scope .none kV dc pm an cd ct) ⟨us,[]⟩=pure ((self::fs).zip us)
section
variable{prog:aF}{w:aB}{A:aG}{E:ae->af->Prop}{K:Frag}{C fI e:Addr}{fs:List Str}{h:Heap}{g:Array GenState}{d:Drawn}{t:Nat}{os:OsState}{vs:List ae}{o:Obj}{Q:ae->af->Prop}
theorem o9{fs:List Str}{vs:List ae}(hl:vs.length=fs.length):(fs.zip vs).map (·.1)=fs:=by
 rw[List.map_fst_zip (by lia)]
theorem C3(Z:K.In h)(lim:h.NoLimit)(S:dn K C fI fs)(F:fT K fI fs)(hz:fs.length<=100)(hK:K.lookup e=none)(room:A.depth<recursionLimit)(he:h.get? e=some o)(hc:o.cls=.ref C)(hd:o.dict=none)(hf:∃ws,o.data=.fields ws)(hl:vs.length=fs.length)
  (hq:∀h' tk,h'.Inst e C (zE (fs.zip vs) λ_=>none)->(∀b ob,b≠e->h.get? b=some ob->h'.get? b=some ob)->(∃o1,h'.get? e=some o1/\o1.cls=o.cls/\o1.data=o.data/\∀dx,o1.dict=some dx->h.get? dx=none)->Q .none ⟨h',g,d,tk,os⟩) :
  ak (ao prog w) A (call (.ref fI) (.ref e::vs)) Q E ⟨h,g,d,t,os⟩:=by
 obtain⟨self,nm,qual,params,body,scope,kV,dc,pm,an,cd,ct,od,sl,lk,GO,⟨k1,k2,k3,k4⟩,JE,nd,hds,hb⟩:=F.ex;obtain⟨ws,hf⟩:=hf;refine wpAny_call ?_;refine codeAny_call_cells (fd:=fnOf nm qual params body scope .none kV dc pm an cd ct) (body:=body) (vals:=.ref e::vs) (binds:=(self::fs).zip (.ref e::vs)) room (Z _ _ lk) rfl lim (codeRec_of Z GO) rfl (hb _ (by simp[hl])) rfl (λy hy=>.inl (k4 _ (List.of_mem_zip hy).1)) (λs1 x=>?_) k2 k3 k1;generalize hE:callEnvC (fnOf nm qual params body scope .none kV dc pm an cd ct) (af.heap ⟨h,g,d,t,os⟩).objs.size fI=env at x ⊢;have kk:∀y,env.kindOf y=scope.names.lookup y:=λy=>by rw[<-hE];rfl
 have hk:env.scope.kind=.function:=by rw[<-hE];exact k1
 obtain⟨⟨h1,Oz,rfl⟩,OA,kp,fr⟩:=x.toInCall;have kp:∀b ob,h.get? b=some ob->h1.get? b=some ob:=kp;have fr:h.objs.size<=env.locals:=fr;have ne:env.locals≠e:=λq=>bS _ (bA (q▸aM he:env.locals<h.objs.size) fr)
 have get:∀i f v,(self::fs)[i]? = some f->(a8 e::vs)[i]? = some v->bindL env.kindOf ((self::fs).zip (.ref e::vs)) (λ_=>none) f=some v:=λi f v e1 e2=>
  lJ nd e1 e2 ((kk f).trans (k4 f (List.mem_of_getElem? e1)))
 have mz:((fs.zip vs).map (·.1))=fs:=o9 hl;have M0:Mid K h1 h1 env.locals (bindL env.kindOf ((self::fs).zip (.ref e::vs)) λ_=>none) e C (λ_=>none) []:=
  ⟨OA,⟨o,kp _ _ he,hc,(λc q=>by rw[hf]at q;cases q),.inl ⟨hd,λ_=>rfl⟩⟩,λ_ _ _ q=>q,λo q=>⟨o,q,rfl,rfl⟩,(λo1 dx q1 q2=>by rw[kp _ _ he]at q1;cases q1;rw[hd]at q2;cases q2),PySem.Within.nil,ne⟩
 have Z1:K.In h1:=λa ob q=>kp _ _ (Z a ob q)
 refine bK (pY (E:=λ_ _=>False) (Q:=λfl s'=>fl=.next/\Q .none s') Z1 S hK hk ((kk self).trans (k4 self aQ)) (get 0 self _ rfl rfl) hds (fs.zip vs) body (λ_=>none) [] h1 Oz (by rw[mz];exact JE) (λy hy=>?_) M0 ?_ λh' GL Ih M=>⟨rfl,?_⟩) (λfl s' ⟨q1,q2⟩=>by subst q1;exact q2) λ_ _ z=>z.elim
 ·obtain⟨f,v⟩:=y;have hm:=List.of_mem_zip hy;refine⟨hm.1,(kk f).trans (k4 f (aO _ hm.1)),?_⟩;obtain⟨i,hi,hg⟩:=List.getElem_of_mem hy;have GY:i<fs.length/\i<vs.length:=by rw[List.length_zip]at hi;lia
  have e1:fs[i]? = some f:=by rw[List.getElem?_eq_getElem GY.1];simpa using congrArg Prod.fst hg
  have e2:vs[i]? = some v:=by rw[List.getElem?_eq_getElem GY.2];simpa using congrArg Prod.snd hg
  exact get (i+1) f v (by simpa using e1) (by simpa using e2)
 ·simp;lia
 ·refine hq h' GL M.inst (λb ob n q=>M.keep b ob n (kp _ _ q)) ?_;obtain⟨o1,a,b,c⟩:=M.ob o (kp _ _ he);refine⟨o1,a,b,c,λdx q=>?_⟩;have:=(M.dx o1 dx a q).1;cases y:h.get? dx with
  |none=>rfl
  |some ob=>rw[kp _ _ y]at this;cases this
theorem E8(Z:K.In h){Ap:Addr}(q:excIn K Ap dk "ValueError.__new__" = true):OwnTail h dk (.ref Ap::dk):=by
 obtain⟨bm,N,nm,q,bs,hdct,sn,sub,ab,col,dd,k0,k1,k2,k3,k5,mN,hO,hN,Md,T⟩:=uM Z q;unfold excClassObj at hO;exact .own hO hN Md .base
theorem F9(Z:K.In h)(lim:h.NoLimit)(S:dn K C fI fs)(F:fT K fI fs)(hz:fs.length<=100)(room:∀a,(A.under (.builtin "type.__call__" a)).depth<recursionLimit)(hl:vs.length=fs.length)
  (hq:∀h' e tk oe tt,(∀b ob,h.get? b=some ob->h'.get? b=some ob)->h.get? e=none->h'.get? e=some oe->oe.cls=.ref C->oe.data=.fields #[.ref tt,.none,.none,.none,.bool false,.none]->(∀dx,oe.dict=some dx->h.get? dx=none/\dx≠e) ->
   h'.Inst e C (zE (fs.zip vs) λ_=>none)->Q (.ref e) ⟨h',g,d,tk,os⟩) :
  ak (ao prog w) A (call (.ref C) vs) Q E ⟨h,g,d,t,os⟩:=by
 obtain⟨Ap,nm,q,N,bs,sn,sub,ab,col,dd,k0,k1,k2,k3,k5,Jc,Na⟩:=S.ob;have hC:=Z _ _ Jc;have T:=E8 Z Na;have FB:=PySem.F.excBase_ValueError;have f1:=tc_lookup;have f2:=tc_bind (.ref C);have hT:(⟨h,g,d,t,os⟩:af).TypeIs (.ref C) "type":=⟨_,hC,rfl⟩
 have HI:vs.length<=sizeLine:=by rw[hl,bJ];lia
 refine wpAny_call (codeAny_of_tree ?_);show ak _ _ (callAny (.ref C) _) _ _ _
 repeat (any_goals (first|assumption|with_reducible refine wpAny_loadPart_at hC ?_|wp_step))
 refine⟨rfl,?_⟩;refine codeAny_call_builtin_at (Code.quiet_builtin _ (by decide +kernel)) entry_typeCall (wpAny_check_type_call_sub hC ?_)
 repeat (first|with_reducible refine wpAny_loadPart_at hC ?_|with_reducible refine wpAny_madeBy_exc hC ?_|wp_step)
 refine codeAny_call_builtin_code (Code.quiet_builtin _ FB.quiet) (wpAny_check_new_subT FB T hC ?_);refine codeAny_exc_new_subT FB T hC ?_ HI;show ak _ _ _ _ _ (⟨(h.push {cls:=.type "tuple",data:=.seq vs.toArray}).push {cls:=.ref C,data:=.fields #[.ref h.objs.size,.none,.none,.none,.bool false,.none]},g,d,t,os⟩:af);generalize hG:(h.push {cls:=.type "tuple",data:=.seq vs.toArray}).push {cls:=.ref C,data:=.fields #[.ref h.objs.size,.none,.none,.none,.bool false,.none]}=G;have kG:∀b ob,h.get? b=some ob->G.get? b=some ob:=λb ob e=>by rw[<-hG];exact Heap.get?_push_of_some _ (Heap.get?_push_of_some _ e)
 have eG:G.get? (h.objs.size+1)=some {cls:=.ref C,data:=.fields #[.ref h.objs.size,.none,.none,.none,.bool false,.none]}:=by rw[<-hG];heap_get
 have nE:h.get? (h.objs.size+1)=none:=Heap.get?_none_of_le (Nat.le_succ _);have CG:=kG _ _ hC;have ZG:K.In G:=λa ob q=>kG _ _ (Z a ob q)
 have OB:(a8 C::(a8 Ap::dk)).contains (.ref C)=true:=by simp
 unfold isInstance
 repeat (first|with_reducible refine wpAny_loadPart_at eG ?_|(with_reducible refine wpAny_isSubtype_exc CG ?_;rw[OB])|wp_step)
 show ak _ _ (typeLookup (.ref C) _) _ _ _;refine(looks_findIn ZG S.ini).here ?_;refine b6 (ag ?_);unfold bindSpecial;obtain⟨self,Qs,qual,params,body,scope,kV,dc,pm,an,cd,ct,od,sl,lk,_⟩:=id F.ex;refine ag (wpAny_typeOf (T:="function") ⟨_,ZG _ _ lk,rfl⟩ ?_);rw[if_pos (by decide)];refine aA (ag (bK (C3 (E:=E) (Q:=λr s'=>r=.none/\Q (.ref (h.objs.size+1)) s') ZG (lim.keeps kG) S F hz ?_ (room _) eG rfl rfl ⟨_,rfl⟩ hl λh' tk I k1 k2=>⟨rfl,?_⟩) (λr s' hr=>?_) λ_ _ x=>x))
 ·cases q:K.lookup (h.objs.size+1)with
  |none=>rfl
  |some ob=>rw[Z _ _ q]at nE;cases nE
 ·obtain⟨o1,a1,a2,a3,a4⟩:=k2;refine hq h' _ tk o1 h.objs.size (λb ob q=>k1 b ob (λy=>by rw[y,nE]at q;cases q) (kG _ _ q)) nE a1 a2 a3 (λdx y=>⟨?_,λz=>?_⟩) I
  ·have:=a4 dx y;cases z:h.get? dx with
   |none=>rfl
   |some ob=>rw[kG _ _ z]at this;cases this
  ·have:=a4 dx y;rw[z,eG]at this;cases this
 ·obtain⟨rfl,hQ⟩:=hr
  wp_walk
  exact hQ
end
theorem mj(b:Bool):(if b=true then 1 else 0:Nat)<=1:=by cases b<;>decide
theorem vg(A:aG)(a:Args):(A.under (.builtin "type.__call__" a)).depth<=A.depth+3:=by
 have h1:(Code.builtin "type.__call__" a).isCaller=false:=by
  unfold Code.isCaller;split<;>first|rfl|simp_all
 show A.depth+(Code.builtin "type.__call__" a).weight<=_;have h2:(Code.builtin "type.__call__" a).frames<=1:=by unfold Code.frames;exact mj _
 have h3:=mj (Code.builtin "type.__call__" a).isCreation;have h4:=mj (Code.builtin "type.__call__" a).isGuard;unfold Code.weight;rw[h1,if_neg (by decide:¬ (false=true))];lia
section
variable{M:Model}{A:aG}{E:ae->af->Prop}{env:Env}{nm q:Str}{C N:Addr}{bs bm:List ae}{hdct:Bool}{sn:List Str}{sub:List ae}{ab:Bool}{col:Option Bool}{dd:Option Addr}{k0 k1 k2 k3 k5:Option ae}{newId:String}
theorem Ao{s:af}{x:Sem ae}{Q:Flow->af->Prop}(HJ:bm.contains (.type "BaseException")=true)(hh:A.handled=none)
  (h:ak M A x (λv s₁=>∃e oe t,v=.ref e/\s₁.heap.get? C=some (excClassObj nm q C N bs bm hdct sn sub ab col dd k0 k1 k2 k3 k5 newId)/\s₁.heap.get? e=some oe/\oe.cls=.ref C/\oe.data=.fields #[.ref t,.none,.none,.none,.bool false,.none]/\E (.ref e) s₁) E s) :
  ak M A (raiseStmt env (some x) none) Q E s:=by
 have OC:(a8 C::bm).contains (.type "BaseException")=true:=by rw[List.contains_cons,HJ,Bool.or_true]
 unfold raiseStmt;refine ag (bK h (λv s₁ h₁=>?_) λ_ _ x=>x);obtain⟨e,oe,t,rfl,hC,he,hc,hd,hE⟩:=h₁;obtain⟨hp,g,d,tk,os⟩:=s₁;obtain⟨oc,od,Qt,osl⟩:=oe;dsimp only at hc hd;subst hc hd
 repeat (first|with_reducible refine wpAny_loadPart_at he ?_|with_reducible refine wpAny_loadPart_at hC ?_|(with_reducible refine wpAny_isSubtype_exc hC ?_;rw[OC])|wp_step)
 exact wpAny_raiseNew_none hh hE
end
section
variable{X:Cx}{C fI:Addr}{fs:List Str}{x:Str}{E:XK}{t:TA}{e:Expr}{es:List Expr}{np cpos pos:Pos}
def vE(C:Addr)(fs:List Str)(E:XK)(t:TA):TS:=λ_ σ H=>t σ H λvs H1=>vs.length=fs.length/\∀dx,H1 dx=none->E (.ref C) (some dx) (upd H1 dx (.xd (fs.zip vs)))
theorem uy{fs:List Str}{f:Str}:∀{vs:List V}{us:List ae} (nd:fs.Nodup),Vals vs us->iV ((fs.zip vs).lookup f) (zE (fs.zip us) (λ_=>none) f):=by
 induction fs with
 |nil=>intro vs us _ _;exact trivial
 |cons a r ih=>
  intro vs us nd rv;cases rv with
  |nil=>exact trivial
  |cons r1 r2=>
   rename_i v u vs us
   simp only[List.zip_cons_cons,bw,zE];obtain⟨n1,n2⟩:=List.nodup_cons.mp nd;by_cases h:f=a
   ·subst h;rw[beq_self_eq_true,l0 λw hw=>n1 (List.of_mem_zip hw).1];show iV (some v) (if f=f then some u else none);rw[if_pos rfl];exact r1
   ·have:(f==a)=false:=by simpa using h
    rw[this];have e0:∀(l:List (Str×ae)) (m m':Str->Option ae),m f=m' f->zE l m f=zE l m' f:=by
     intro l
     induction l with
     |nil=>intro m m' q;exact q
     |cons y l ih2=>
      intro m m' q;unfold zE;exact ih2 _ _ (by split<;>first|rfl|exact q)
    rw[e0 _ _ (λ_=>none) (by simp[h])];exact ih n2 r2
theorem F7(hex:X.ex=[])(hc:X.calm=true)(hT:Throws X E)(hC:dn X.K C fI fs)(hF:fT X.K fI fs)(hz:fs.length<=100)(Gu:fs≠[])(room:∀a,(X.A.under (.builtin "type.__call__" a)).depth<recursionLimit)(hg:Gl X x)(hm:X.mg x=some (.ref C))(ha:PA X (e::es) t)(hd:(x==("__debug__" : Str))=false)
  (he:aV (e::es) X.env=(false,eval e X.env)::aV es X.env) (Hz:(backTo cpos (aV es X.env)).any (·.1)=false) :
  PS X (.Raise (some (.Call (.Name x np) (e::es) [] cpos)) none pos) (vE C fs E t):=by
 intro pins s σ H D I h;obtain⟨Ap,nm,q,N,bs,sn,sub,ab,col,dd,k0,k1,k2,k3,k5,Jc,Na⟩:=hC.ob;have He:(backTo cpos (aV (e::es) X.env)).any (·.1)=false:=by
  rw[he];show (false||(backTo cpos (aV es X.env)).any (·.1))=false;rw[Hz];rfl
 have Ly:(a8 Ap::dk).contains (.type "BaseException")=true:=by rw[List.contains_cons];rfl
 rw[arm_exec_Raise];simp only[evalOpt,Option.map];refine ag (wpAny_standAt (Ao (C:=C) (nm:=nm) (q:=q) (N:=N) (bs:=bs) (bm:=.ref Ap::dk) (hdct:=true) (sn:=sn) (sub:=sub) (ab:=ab) (col:=col) (dd:=dd) (k0:=k0) (k1:=k1) (k2:=k2) (k3:=k3) (k5:=k5) (newId:="ValueError.__new__") Ly (I.ok.hd hc) (ag (bK (wpAny_Call_ofName (gS I hg hm ?_ hd)) (λv s₃ h₃=>ag (wpAny_standAt (aA h₃))) λ_ _ x=>x))));unfold callWith;have Kn:=ha cpos pins s σ H _ I h;refine ag (b6 ?_);rw[he]at Kn ⊢;refine Calls.evalArgs_plain (thn Kn λus s1 ⟨vs,H1,I1,r,z,q1⟩=>ag (wpAny_standAt ?_));have Me:(backTo cpos ((false,eval e X.env)::aV es X.env)).any (·.1)=false:=by rw[<-he];exact He
 have Z1:=I1.kIn;have C1:=Z1 _ _ Jc;obtain⟨hp,g,d,tk,os⟩:=s1;simp only[Me];refine ag (wpAny_keeperOf_exc C1 ?_);refine ag (F9 (h:=hp) Z1 (I1.ok.mod.nolimit.keeps λb o e=>I1.bk b o e) hC hF hz room (by rw[List.nil_append,<-r.length];exact z) λh' x' GL oe tt k1 k2 k3 k4 k5 k6 k7=>ag (b6 (wpAny_point (aA ?_))));rw[List.nil_append]at k7;obtain⟨self,_,_,_,_,_,_,_,_,_,_,_,_,_,_,_,_,_,OD,_⟩:=hF.ex;have nd:=(List.nodup_cons.mp OD).2;have Ca:=k1 _ _ C1;obtain⟨o',Ju,IH,Jt,OF⟩:=k7;have eo:o'=oe:=bB (Ju.symm.trans k3);subst eo;rcases OF with ⟨_,hn⟩|⟨dx,HD,OG,hns⟩
 ·exfalso;cases fs with
  |nil=>exact Gu rfl
  |cons f rf=>
   have hl:=r.length;cases us with
   |nil=>rw[z]at hl;cases hl
   |cons u us'=>
    have:zE ((f::rf).zip (u::us')) (λ_=>none) f=some u:=tw (by rw[o9 (by rw[<-hl];exact z)];exact nd) (by simp);rw[hn f]at this;cases this
 ·obtain⟨d1,d2⟩:=k6 dx HD;have I2:Inv X pins σ H1 ⟨h',g,d,GL,os⟩:=(I1.more hex k1).tok GL;have aD:=I1.apart hex d1;have aE:=I1.apart hex k2;have nl:dx≠X.env.locals:=λy=>by
   obtain⟨m,⟨oL,es,ep,e1,_⟩,_⟩:=I1.loc;rw[<-y]at e1;have e1:hp.get? dx=some oL:=e1;rw[d1]at e1;cases e1
  have nc:∀y c,X.env.cells.lookup y=some c->c≠dx:=λy c e0 q=>by
   obtain⟨v,o,e1,_⟩:=I1.cell y c e0;rw[q]at e1;have e1:hp.get? dx=some o:=e1;rw[d1]at e1;cases e1
  have I3:=I2.track (o:=.xd (fs.zip vs)) hex aD nl nc ⟨_,hns,λf=>uy nd r⟩;exact⟨x',o',tt,rfl,Ca,k3,k4,k5,hT pins σ _ _ x' (.ref C) (some dx) I3 ⟨⟨aE.new,by rw[qg (bH d2)];exact aE.free,aE.pin⟩,o',_,k3,k4,HD,k5,rfl⟩ (q1 dx aD.free)⟩
def xH(K:Frag)(f:Str)(t:TE):TE:=λσ H Q=>t σ H λv H1=>∃x C dx fI fs kvs i,v=.ref x/\H1 x=some (hV x (.ref C) (some dx))/\H1 dx=some (.xd kvs)/\dn K C fI fs/\f∈fs/\kvs.lookup f=some (.int i)/\dx≠x/\Q (.int i) H1
theorem EB{a:Expr}{f:Str}{ta:TE}{pos:Pos}(hb:attributeBase a f X.env (eval a X.env)=eval a X.env)(ha:PE X a ta):PE X (.Attribute a f pos) (xH X.K f ta):=by
 intro pins s σ H Q I h;refine vB hb (thn (ha pins s σ H _ I h) λu s1 ⟨v,H1,I1,rv,x,C,dx,fI,fs,kvs,i,ev,e1,e2,S,hf,hl,ne,q⟩=>?_);subst ev;obtain rfl:u=a8 x:=rv;obtain⟨⟨o,vs,x1,x2,x3,x4⟩,_⟩:=(show zG X.prog X.w H1 s1.heap x (hV x (.ref C) (some dx))from I1.hok x _ e1)
 obtain⟨mA,n1,n2⟩:=(show zG X.prog X.w H1 s1.heap dx (.xd kvs)from I1.hok dx _ e2)
 have n3:=n2 f;rw[hl]at n3;obtain⟨hp,g,d,tk,os⟩:=s1;cases q3:mA f with
 |none=>rw[q3]at n3;exact n3.elim
 |some u=>
  rw[q3]at n3;obtain⟨t,rfl⟩:∃t,u=.int i t:=n3;exact yq (h:=hp) I1.kIn S hf ⟨o,x1,x2,(λc y=>by rw[x4]at y;cases y),.inr ⟨dx,x3,ne,n1⟩⟩ q3 rfl ⟨.int i,H1,I1.tok _,⟨t,rfl⟩,q⟩
end
end L2
namespace L2
open PySem PySem.Spec PyProof.Rows
section
variable{X:Cx}
end
theorem l4{its:List ae}{ns:List Int}(hi:bz its ns):∃ps:Array (Int×Tok),its.toArray=intItems ps/\ns=ps.toList.map Prod.fst:=by
 rcases hi.allInts.items with ⟨ps,hx⟩
 refine⟨ps,hx,?_⟩;have z:numsOf its.toArray.toList=ns:=hi.numsOf;rw[hx,nums_intItems]at z;exact z.symm
section
variable{X:Cx}
theorem xp(hc:X.calm=true):za X (.builtin "sum") (λxs H Q=>∃(l:Addr) (ns:List Int),xs=[.ref l]/\SqL X.K H l (ns.map V.int)/\Q (.int ns.sum) H):=by
 intro pins s σ H xs us Q I r h;obtain⟨l,ns,rfl,hl,q⟩:=h;obtain⟨u,rfl,ru⟩:=r.one;cases ru;obtain⟨its,rv,pl,hz⟩:=I.list hl;obtain⟨ps,hx,e1⟩:=l4 (intsAre_of rv);refine sum_intListG (I.ok.hd hc) (hx▸pl.isList) λh' tk t' hk=>?_
 have e2:preSum (numAt ps) ps.size=ns.sum:=by
  rw[preSum_eq,e1];exact congrArg List.sum (List.take_of_length_le (by simp))
 rw[e2];exact⟨.int _,H,I.kept hk,⟨_,rfl⟩,q⟩
def kl(mx:Bool)(ns:List Int)(n:Int):Prop:=n∈ns/\∀m∈ns,if mx then m<=n else n<=m
theorem nK(hc:X.calm=true)(mx:Bool):za X (.builtin (if mx then "max" else "min")) (λxs H Q=>∃(l:Addr) (ns:List Int),xs=[.ref l]/\SqL X.K H l (ns.map V.int)/\ns≠[]/\∀n,kl mx ns n->Q (.int n) H):=by
 intro pins s σ H xs us Q I r h;obtain⟨l,ns,rfl,hl,Gu,q⟩:=h;obtain⟨u,rfl,ru⟩:=r.one;cases ru;obtain⟨its,rv,pl,hz⟩:=I.list hl;obtain⟨xs,hx,e1⟩:=l4 (intsAre_of rv);have Ia:s.heap.IsList l (intItems xs):=by rw[<-hx];exact pl.isList
 have Gq:0<xs.size:=by
  cases ns with
  |nil=>exact absurd rfl Gu
  |cons a r=>
   have:=congrArg List.length e1;simp at this;lia
 have Jd:∀i,i<xs.size->∃h:i<ns.length,numAt xs i=ns[i]:=λi GY=>by
  subst e1;refine⟨by simpa using GY,?_⟩;simp[numAt,GY]
 cases mx with
 |true=>
  refine max_intList (I.ok.hd hc) Ia Gq λv h' tk hv hk=>?_
  obtain⟨t,rfl⟩:=intItems_at hv;refine⟨.int _,H,I.kept hk,⟨_,rfl⟩,q _ ?_⟩;obtain⟨b1,b2⟩:=argBest_gt (numAt xs) (xs.size-1);obtain⟨z1,z2⟩:=Jd _ (show argBest (λi j=>decide (numAt xs i>numAt xs j)) (xs.size-1)<xs.size by lia);refine⟨by rw[z2];exact cZ _,λm hm=>?_⟩;obtain⟨j,hj,rfl⟩:=List.getElem_of_mem hm;have Hr:j<xs.size:=by rw[e1]at hj;simpa using hj
  obtain⟨_,y2⟩:=Jd j Hr;rw[<-y2];exact b2 j (by lia)
 |false=>
  refine min_intList (I.ok.hd hc) Ia Gq λv h' tk hv hk=>?_
  obtain⟨t,rfl⟩:=intItems_at hv;refine⟨.int _,H,I.kept hk,⟨_,rfl⟩,q _ ?_⟩;obtain⟨b1,b2⟩:=argBest_lt (numAt xs) (xs.size-1);obtain⟨z1,z2⟩:=Jd _ (show argBest (λi j=>decide (numAt xs i<numAt xs j)) (xs.size-1)<xs.size by lia);refine⟨by rw[z2];exact cZ _,λm hm=>?_⟩;obtain⟨j,hj,rfl⟩:=List.getElem_of_mem hm;have Hr:j<xs.size:=by rw[e1]at hj;simpa using hj
  obtain⟨_,y2⟩:=Jd j Hr;rw[<-y2];exact b2 j (by lia)
end
section
variable{prog:aF}{w:aB}{A:aG}{E:ae->af->Prop}{s:af}{l:Addr}{xs:Array (Int×Tok)}
theorem nD{Q:ae->af->Prop}(hl:s.heap.IsTuple l (intItems xs))
  (h:∀s2:af,s2={s with heap:=s.heap.push {cls:=.type "tuple_iterator",data:=.fields #[.ref l,.int 0 0]}}->(s2.heap.IsTupleIter s.heap.objs.size l 0/\s2.heap.IsTuple l (intItems xs))->(∀b∈[s.heap.objs.size,l],b<s2.heap.objs.size)->l≠s.heap.objs.size->Q (.ref s.heap.objs.size) s2) :
  ak (ao prog w) A (pyIter (.ref l)) Q E s:=by
 have lt:l<s.heap.objs.size:=by obtain⟨_,e,_⟩:=hl;exact aM e
 refine wpAny_pyIter_tuple hl (h _ rfl ⟨⟨_,Heap.get?_push_size _ rfl,rfl,rfl⟩,hl.push _⟩ (λb hb=>?_) (bg lt));show b<(s.heap.push _).objs.size;rw[cA];have hb:b=s.heap.objs.size\/b=l:=by simpa using hb
 rcases hb with rfl|rfl
 ·exact Nat.lt_succ_self _
 ·exact dD lt
theorem p8{o:Obj}{h':Heap}(hk:∀b ob,b∉[s.heap.objs.size]->(s.heap.push o).get? b=some ob->h'.get? b=some ob):∀b ob,s.heap.get? b=some ob->h'.get? b=some ob:=λb ob e=>
 hk b ob (λhm=>by
  have:b=s.heap.objs.size:=by simpa using hm
  subst this;exact absurd (aM e) (bS _)) (Heap.get?_push_of_some _ e)
theorem xk{Q:ae->af->Prop}(hh:A.handled=none)(hl:s.heap.IsTuple l (intItems xs))(Gu:0<xs.size)
  (h:∀v h' tk,(intItems xs)[argBest (λi j=>decide (numAt xs i>numAt xs j)) (xs.size-1)]? = some v->(∀b o,s.heap.get? b=some o->h'.get? b=some o)->Q v {s with heap:=h',toks:=tk}):ak (ao prog w) A (call (.builtin "max") [.ref l]) Q E s:=by
 refine call_max_walk (nD hl λs2 e st I_ hlI=>?_);subst e;exact⟨_,_,_,_,_,_,_,rfl,Walks.tuple (A:=A.in1) hh _ l hlI (intItems xs),st,I_,by simpa[intItems]using Gu,CmpOf.ints_gt (numAt xs) (λ_ _=>intItems_at),λv h' tk hP hk=>h v h' tk (by simpa[intItems]using hP) (p8 hk)⟩
theorem xj{Q:ae->af->Prop}(hh:A.handled=none)(hl:s.heap.IsTuple l (intItems xs))(Gu:0<xs.size)
  (h:∀v h' tk,(intItems xs)[argBest (λi j=>decide (numAt xs i<numAt xs j)) (xs.size-1)]? = some v->(∀b o,s.heap.get? b=some o->h'.get? b=some o)->Q v {s with heap:=h',toks:=tk}):ak (ao prog w) A (call (.builtin "min") [.ref l]) Q E s:=by
 refine call_min_walk (nD hl λs2 e st I_ hlI=>?_);subst e;exact⟨_,_,_,_,_,_,_,rfl,Walks.tuple (A:=A.in1) hh _ l hlI (intItems xs),st,I_,by simpa[intItems]using Gu,CmpOf.ints_lt (numAt xs) (λ_ _=>intItems_at),λv h' tk hP hk=>h v h' tk (by simpa[intItems]using hP) (p8 hk)⟩
end
section
variable{X:Cx}
theorem p5(hc:X.calm=true)(mx:Bool):za X (.builtin (if mx then "max" else "min")) (λxs H Q=>∃(l:Addr) (ns:List Int),xs=[.ref l]/\SqT X.K H l (ns.map V.int)/\ns≠[]/\∀n,kl mx ns n->Q (.int n) H):=by
 intro pins s σ H xs us Q I r h;obtain⟨l,ns,rfl,hl,Gu,q⟩:=h;obtain⟨u,rfl,ru⟩:=r.one;cases ru;obtain⟨its,rv,pl,hz⟩:=I.tuple hl;obtain⟨xs,hx,e1⟩:=l4 (intsAre_of rv);have Ia:s.heap.IsTuple l (intItems xs):=by
  rw[<-hx];obtain⟨o,e,c,n,d⟩:=pl;exact⟨o,e,c,n,d⟩
 have Gq:0<xs.size:=by
  cases ns with
  |nil=>exact absurd rfl Gu
  |cons a r=>
   have:=congrArg List.length e1;simp at this;lia
 have Jd:∀i,i<xs.size->∃h:i<ns.length,numAt xs i=ns[i]:=λi GY=>by
  subst e1;refine⟨by simpa using GY,?_⟩;simp[numAt,GY]
 have fin:∀(le:Int->Int->Prop) (k:Nat),k<=xs.size-1->(∀j,j<=xs.size-1->le (numAt xs j) (numAt xs k))->numAt xs k∈ns/\∀m∈ns,le m (numAt xs k):=λle k hk hb=>by
  obtain⟨z1,z2⟩:=Jd k (by lia);refine⟨by rw[z2];exact cZ _,λm hm=>?_⟩;obtain⟨j,hj,rfl⟩:=List.getElem_of_mem hm;have Hr:j<xs.size:=by rw[e1]at hj;simpa using hj
  obtain⟨_,y2⟩:=Jd j Hr;rw[<-y2];exact hb j (by lia)
 cases mx with
 |true=>
  refine xk (I.ok.hd hc) Ia Gq λv h' tk hv hk=>?_
  obtain⟨t,rfl⟩:=intItems_at hv;obtain⟨b1,b2⟩:=argBest_gt (numAt xs) (xs.size-1);exact⟨.int _,H,I.kept hk,⟨_,rfl⟩,q _ (fin (λa b=>a<=b) _ b1 λj hj=>b2 j hj)⟩
 |false=>
  refine xj (I.ok.hd hc) Ia Gq λv h' tk hv hk=>?_
  obtain⟨t,rfl⟩:=intItems_at hv;obtain⟨b1,b2⟩:=argBest_lt (numAt xs) (xs.size-1);exact⟨.int _,H,I.kept hk,⟨_,rfl⟩,q _ (fin (λa b=>b<=a) _ b1 λj hj=>b2 j hj)⟩
end
noncomputable def ip(kX:Str->Option aX)(NX NY:List Str)(cap:List (Option Nat))(scope:a9):Bool:=
 (scope.kind==.function)&&(scope.names.all λy=>(y.2 != .cell||scope.names.lookup y.1==some .cell)&&(y.2 != .local||scope.names.lookup y.1==some .local)&&(y.2 != .free||kX y.1==some .cell||kX y.1==some .free)) &&
 (cap.length==NY.length)&&(aS cap.length).all λi=>match cap[i]? with
  |some (some j)=>(match NY[i]?,NX[j]? with
   |some x,some y=>x==y&&scope.names.lookup x==some .free&&(kX x==some .cell||kX x==some .free)
   |_,_=>false)
  |_=>true
theorem ez.of{X:Cx}{NY:List Str}{cap:List (Option Nat)}{scope:a9}(h:ip X.env.kindOf X.N NY cap scope=true):ez X NY cap scope:=by
 unfold ip at h;simp only[aL,bF,beq_iff_eq]at h;obtain⟨⟨⟨h1,h2⟩,h3⟩,h4⟩:=h;refine⟨h1,λy hy e=>?_,λy hy e=>?_,λy hy e=>?_,h3,λi j hc=>?_⟩
 ·have:=(h2 y hy).1.1;rw[e]at this
  simpa using this
 ·have:=(h2 y hy).1.2;rw[e]at this
  simpa using this
 ·have:=(h2 y hy).2;rw[e]at this
  simpa using this
 ·have hi:i<cap.length:=(List.getElem?_eq_some_iff.mp hc).1;have:=h4 i (List.mem_range.mpr hi);rw[hc]at this;dsimp only at this;split at this
  ·rename_i x y e1 e2
   simp only[aL,beq_iff_eq,bQ]at this;obtain⟨⟨e3,e4⟩,e5⟩:=this;subst e3;exact⟨x,e1,e2,e4,e5⟩
  ·cases this
end L2
namespace WB
open PySem PySem.Spec PyProof.Rows L2
section
variable{P:aF}{w:aB}{K:az}{mg:Str->Option ae}{base:Heap}{f g:Addr}{fd gd:FuncData}
theorem _root_.L2.Fun.ok1{x qual:Str}{st:Stmt}{f:Addr}{fd:FuncData}{N ps:List Str}{k:Nat}{sp:Sp}(F:Fun K x qual st f fd)(S:i5 N ps (qF st))(len:∀vs H Q E,sp vs H Q E->vs.length=ps.length)
  (GV:∀(cdv:ae) (A:aG) (outer:List Env) (s:af) (H:Hp) (vs:List V) (Q:VK) (E:XK),cP k (A.deeper (envOfC qual (qF st) s.heap.objs.size f cdv))->sp vs H Q E ->
   ∃t,PSs (eJ (CX1 P w) P w K mg base N qual (qF st) f cdv A outer s H E) (zQ st) t/\t {nx:=λ_ H'=>Q .non H',rt:=Q} (start N vs) H):gb P w K mg base (CX1 P w) (k+1) f fd ps sp:=by
 obtain⟨oc,od,kV,doc,pm,an,cdv,ct,osl,rfl,lk,GO⟩:=F.ex;exact Ac lk GO S len λA outer s H vs Q E hr HV=>GV cdv A outer s H vs Q E hr HV
end
def Ek(H:Hp)(ps:List Addr)(ks:List (Int×Int)):Prop:=ps.length=ks.length/\∀(i:Nat) p k,ps[i]? = some p->ks[i]? = some k->H p=some (.tup [.int k.1,.int k.2])
structure Built(H0:Hp)(acc:Addr)(ks:List (Int×Int))(H:Hp):Prop where
 ex:∃ps:List Addr,H acc=some (.lst (ps.map V.ref))/\Ek H ps ks
 same:∀b o,b≠acc->H0 b=some o->H b=some o
end WB
namespace EV
open PySem L2
structure Xc where
 nm:Str
 fs:List (Str×Int)
noncomputable instance:Coe Str Xc:=⟨λs=>⟨s,[]⟩⟩
inductive D where
 |non|bl (b:Bool)|int (i:Int)|str (x:Str)|tup (xs:List D)|lst (xs:List D)|fn (x:Str)|exn (c:Xc)|dic
inductive R(α:Type) where
 |ok (a:α)|ex (c:Xc)|no
noncomputable def R.bind{α β:Type}:R α->(α->R β)->R β
 | .ok a,f=>f a
 | .ex c,_=>.ex c
 | .no,_=>.no
@[simp] theorem R.bind_ok{α β:Type}(a:α)(f:α->R β):(R.ok a).bind f=f a:=rfl
@[simp] theorem R.bind_ex{α β:Type}(c:Xc)(f:α->R β):(R.ex c:R α).bind f=.ex c:=rfl
@[simp] theorem R.bind_no{α β:Type}(f:α->R β):(R.no:R α).bind f=.no:=rfl
inductive O2 where
 |add|sub|mul|fdiv|mod|pow|shl|shr|band|bor|bxor
 deriving DecidableEq
inductive C2 where
 |eq|ne|lt|le|gt|ge|isin|notin|is|isnot
 deriving DecidableEq
inductive B1 where
 |len|tuple|list|sorted|all|any|sum|min|max|abs|int|bool|repr
 deriving DecidableEq
inductive Cl where
 |ty (n:String)|ex (x:Str)
 deriving DecidableEq
inductive Tg where
 |nm (i:Nat)|tp (is:List Nat)
set_option genInjectivity false
mutual
inductive E where
 |var (i:Nat)|own (i:Nat)|con (d:D)|glb (x:Str)
 |op (o:O2) (a b:E)|neg (a:E)|inv (a:E)|not (a:E)|and (a b:E)|or (a b:E)
 |cmp (c:C2) (a b:E)|cmp2 (c c':C2) (a b d:E)|cmp3 (c c' c'':C2) (a b d e:E)
 |ite (t:T) (a b:E)
 |tup (es:Es)|lst (es:Es)
 |ix (a b:E)|sl (a:E) (lo hi:OE)
 |call (f:Str) (es:Es)
 |bi (b:B1) (es:Es)
 |rtup (a:It)|rlst (a:It)
 |isi (a:E) (c:Cl)
 |comp (it:It) (cap:List (Option Nat)) (tg:Tg) (t:T) (elt:E)
 |cnt (a b:E)
 |mxk (mx:Bool) (a:E)
 |dic
 |sset (ln:Bool) (a:E)
 |rev (a:E)
 |fld (a:E) (f:Str)
inductive OE where
 |none|some (e:E)
inductive Es where
 |nil|cons (e:E) (es:Es)
inductive It where
 |seq (e:E)|rng (a:E)|rng2 (a b:E)|enum (e:E)|zip (a b:E)|rng3 (a b k:E)
inductive T where
 |yes|val (e:E)|cmp (c:C2) (a b:E)|cmp2 (c c':C2) (a b d:E)|and (a b:T)|or (a b:T)|not (a:T)
end
set_option genInjectivity true
noncomputable def SZ:Nat:=1000000
noncomputable def small(j:Int):Bool:=decide (-(2^64)<j)&&decide (j<2^64)
noncomputable def opI:O2->Int->Int->R D
 | .add,i,j=>.ok (.int (i+j))
 | .sub,i,j=>.ok (.int (i-j))
 | .mul,i,j=>if small i||small j then .ok (.int (i * j))else .no
 | .fdiv,i,j=>if 0<j/\j<1000000000000000000000000000000 then .ok (.int (i/j))else .no
 | .mod,i,j=>if 0<j then .ok (.int (i%j))else .no
 | .pow,i,j=>if 0<=j/\j<=1000000/\i.natAbs<2^64 then .ok (.int (i^j.toNat))else .no
 | .shl,i,j=>if 0<=j/\j<=1000000/\i.natAbs<2^64 then .ok (.int (i * 2^j.toNat))else .no
 | .shr,i,j=>if 0<=j then .ok (.int (i/2^j.toNat))else .no
 | .band,i,j=>.ok (.int (Builtin.bitAnd i j))
 | .bor,i,j=>.ok (.int (Builtin.bitOr i j))
 | .bxor,i,j=>.ok (.int (Builtin.bitXor i j))
noncomputable def sN:D->Bool
 | .lst _=>true
 |_=>false
noncomputable def op2(o:O2):D->D->R D
 | .int i,.int j=>opI o i j
 | .tup xs,.tup ys=>if o=.add/\xs.length+ys.length<=SZ then .ok (.tup (xs++ys))else .no
 | .lst xs,.lst ys=>if o=.add/\xs.length+ys.length<=SZ then .ok (.lst (xs++ys))else .no
 |_,_=>.no
mutual
noncomputable def D.plain:D->Bool
 | .non=>true
 | .bl _=>true
 | .int _=>true
 | .str x=>PyData.strOk x
 | .tup xs=>plainAll xs
 | .lst xs=>plainAll xs
 | .fn _=>false
 | .exn _=>false
 | .dic=>false
noncomputable def plainAll:List D->Bool
 | []=>true
 |x::xs=>x.plain&&plainAll xs
end
mutual
noncomputable def D.deep:D->Nat
 | .tup xs=>fR xs+1
 | .lst xs=>fR xs+1
 |_=>0
noncomputable def fR:List D->Nat
 | []=>0
 |x::xs=>max x.deep (fR xs)
end
mutual
noncomputable def D.eqv:D->D->Bool
 | .non,.non=>true
 | .bl a,.bl b=>a==b
 | .bl a,.int j=>(if a then 1 else 0)==j
 | .int i,.bl b=>i==(if b then 1 else 0)
 | .int i,.int j=>i==j
 | .str x,.str y=>x==y
 | .tup xs,.tup ys=>eqvAll xs ys
 | .lst xs,.lst ys=>eqvAll xs ys
 |_,_=>false
noncomputable def eqvAll:List D->List D->Bool
 | [],[]=>true
 |x::xs,y::ys=>x.eqv y&&eqvAll xs ys
 |_,_=>false
end
mutual
noncomputable def D.py:D->PyData
 | .non=>.none
 | .bl b=>.bool b
 | .int i=>.int i
 | .str x=>.str x
 | .tup xs=>.tuple (pys xs)
 | .lst xs=>.list (pys xs)
 | .fn _=>.none
 | .exn _=>.none
 | .dic=>.none
noncomputable def pys:List D->List PyData
 | []=>[]
 |x::xs=>x.py::pys xs
end
noncomputable def D.asks(d:D):Bool:=d.plain&&decide (d.deep<=20)
mutual
noncomputable def D.noL:D->Bool
 | .non=>true
 | .bl _=>true
 | .int _=>true
 | .str _=>true
 | .tup xs=>o8 xs
 |_=>false
noncomputable def o8:List D->Bool
 | []=>true
 |x::xs=>x.noL&&o8 xs
end
noncomputable def ints?:List D->Option (List Int)
 | []=>some []
 | .int i::r=>(ints? r).map (i :: ·)
 |_=>none
noncomputable def bools?:List D->Option (List Bool)
 | []=>some []
 | .bl i::r=>(bools? r).map (i :: ·)
 |_=>none
noncomputable def pairs?:List D->Option (List (Int×Int))
 | []=>some []
 | .tup [.int i,.int j]::r=>(pairs? r).map ((i,j) :: ·)
 |_=>none
noncomputable def seq?:D->Option (List D)
 | .tup xs=>some xs
 | .lst xs=>some xs
 |_=>none
noncomputable def dA:List Int->List Int->Bool
 | [],[]=>false
 | [],_::_=>true
 |_::_,[]=>false
 |a::r,b::t=>if a=b then dA r t else decide (a<b)
noncomputable def kg(c:C2)(i j:Int):Option Bool:=
 match c with
 | .lt=>some (decide (i<j))
 | .le=>some (decide (i<=j))
 | .gt=>some (decide (j<i))
 | .ge=>some (decide (j<=i))
 | .eq=>some (decide (i=j))
 | .ne=>some (!decide (i=j))
 |_=>none
noncomputable def inD(x:D)(xs:List D):Bool:=xs.any λy=>y.eqv x
noncomputable def fF:D->Bool
 | .non=>true
 |_=>false
noncomputable def isB(n:Bool):D->D->R Bool
 | .bl a,.bl b=>.ok (n != (a==b))
 |_,_=>.no
noncomputable def qh:C2->D->D->R Bool
 | .is,a,b=>if fF b then .ok (fF a)else isB false a b
 | .isnot,a,b=>if fF b then .ok (!fF a)else isB true a b
 | .isin,a,b=>match seq? b with
  |some xs=>if a.asks&&xs.all D.asks then .ok (inD a xs)else .no
  |none=>.no
 | .notin,a,b=>match seq? b with
  |some xs=>if a.asks&&xs.all D.asks then .ok (!inD a xs)else .no
  |none=>.no
 | .eq,a,b=>if a.asks&&b.asks then .ok (a.eqv b)else .no
 | .ne,a,b=>if a.asks&&b.asks then .ok (!a.eqv b)else .no
 | .lt,.tup xs,.tup ys=>match ints? xs,ints? ys with
  |some ns,some ms=>.ok (dA ns ms)
  |_,_=>.no
 |c,.int i,.int j=>match kg c i j with
  |some b=>.ok b
  |none=>.no
 |_,_,_=>.no
theorem zZ{a b:D}:qh .is a b=(if fF b then .ok (fF a)else isB false a b):=rfl
theorem zq{a b:D}:qh .isnot a b=(if fF b then .ok (!fF a)else isB true a b):=rfl
theorem dW{a b:D}:qh .eq a b=(if a.asks&&b.asks then .ok (a.eqv b)else .no):=rfl
theorem zY{a b:D}:qh .ne a b=(if a.asks&&b.asks then .ok (!a.eqv b)else .no):=rfl
theorem zy{a b:D}:qh .isin a b=(match seq? b with
  |some xs=>if a.asks&&xs.all D.asks then .ok (inD a xs)else .no
  |none=>.no):=rfl
theorem zt{a b:D}:qh .notin a b=(match seq? b with
  |some xs=>if a.asks&&xs.all D.asks then .ok (!inD a xs)else .no
  |none=>.no):=rfl
theorem zX{xs ys:List D}:qh .lt (.tup xs) (.tup ys)=(match ints? xs,ints? ys with
  |some ns,some ms=>.ok (dA ns ms)
  |_,_=>.no):=rfl
noncomputable def truth:D->R Bool
 | .non=>.ok false
 | .bl b=>.ok b
 | .int i=>.ok (i != 0)
 | .tup xs=>.ok (!xs.isEmpty)
 | .lst xs=>.ok (!xs.isEmpty)
 |_=>.no
noncomputable def ixD:D->D->R D
 | .tup xs,.int i=>match atI xs i with|some d=>.ok d|none=>.no
 | .lst xs,.int i=>match atI xs i with|some d=>.ok d|none=>.no
 |_,_=>.no
noncomputable def cutD(xs:List D)(lo hi:Option Int):List D:=(xs.drop (HT.sIx xs.length 0 lo)).take (HT.sIx xs.length xs.length hi-HT.sIx xs.length 0 lo)
noncomputable def slD:D->Option Int->Option Int->R D
 | .tup xs,lo,hi=>.ok (.tup (cutD xs lo hi))
 | .lst xs,lo,hi=>.ok (.lst (cutD xs lo hi))
 |_,_,_=>.no
noncomputable def insI(i:Int):List Int->List Int
 | []=>[i]
 |j::r=>if i<=j then i::j::r else j::insI i r
noncomputable def sortI:List Int->List Int
 | []=>[]
 |i::r=>insI i (sortI r)
noncomputable def fo(p:Int×Int):List (Int×Int)->List (Int×Int)
 | []=>[p]
 |q::r=>if ltP q p then q::fo p r else p::q::r
noncomputable def dN:List (Int×Int)->List (Int×Int)
 | []=>[]
 |p::r=>fo p (dN r)
noncomputable def pairD(p:Int×Int):D:=.tup [.int p.1,.int p.2]
noncomputable def dt(d:D)(k:List D->R D):R D:=match d with | .lst xs=>k xs|_=>.no
noncomputable def ibR(d:D)(f:Int->R D)(q:Bool->R D):R D:=match d with | .int i=>f i | .bl b=>q b|_=>.no
noncomputable def iiR(d e:D)(k:Int->Int->R D):R D:=match d,e with | .int i,.int j=>k i j|_,_=>.no
noncomputable def b7{α β:Type}(o:Option α)(k:α->R β):R β:=match o with|some a=>k a|none=>.no
noncomputable def tups?:List D->Option (List (List Int))
 | []=>some []
 | .tup xs::r=>(ints? xs).bind λn=>(tups? r).map (n :: ·)
 |_=>none
noncomputable def fC(p:List Int):List (List Int)->List (List Int)
 | []=>[p]
 |q::r=>if dA q p then q::fC p r else p::q::r
noncomputable def zH:List (List Int)->List (List Int)
 | []=>[]
 |p::r=>fC p (zH r)
noncomputable def gW(l:List Int):D:=.tup (l.map D.int)
noncomputable def gF:List (List Int)->Bool
 |p::q::r=>p.isEmpty||(p::q::r).all λt=>!t.isEmpty
 |_=>false
noncomputable def eW(xs:List D):R D:=b7 (tups? xs) λts=>if gF ts then .ok (.lst ((zH ts).map gW))else .no
noncomputable def cM(mx:Bool)(i:Int):List Int->Int
 | []=>i
 |j::r=>cM mx (if mx then (if i<j then j else i)else (if j<i then j else i)) r
noncomputable def gK(mx:Bool):List Int->R D
 | []=>.no
 |i::r=>.ok (.int (cM mx i r))
noncomputable def lens?:List D->Option (List Int)
 | []=>some []
 |x::r=>(seq? x).bind λxs=>(lens? r).map ((xs.length:Int) :: ·)
noncomputable def pickK(n:Int):List D->List Int->R D
 |d::ds,m::ms=>if m=n then .ok d else pickK n ds ms
 |_,_=>.no
noncomputable def fB(mx:Bool)(x:D):R D:=dt x λxs=>b7 (lens? xs) λns=>match ns with
 | []=>.no
 |i::r=>pickK (cM mx i r) xs ns
noncomputable def D.rpOk:D->Bool
 | .dic=>true
 |d=>d.asks&&d.py.showable && !d.py.hasDict&&decide (d.py.shown.length<=aR)
noncomputable def D.rp:D->Str
 | .dic=>dictText []
 |d=>d.py.shown
noncomputable def gJ(d:D):R D:=match d with
 | .lst (x::xs)=>if (x::xs).all D.rpOk=true/\(listText ((x::xs).map D.rp)).length<=aR then .ok (.str (listText ((x::xs).map D.rp)))else .no
 |_=>.no
noncomputable def b11(b:B1)(d:D):R D:=match b with
 | .len=>b7 (seq? d) λxs=>.ok (.int xs.length)
 | .tuple=>b7 (seq? d) λxs=>.ok (.tup xs)
 | .list=>b7 (seq? d) λxs=>.ok (.lst xs)
 | .all=>dt d λxs=>b7 (bools? xs) λbs=>.ok (.bl (bs.all id))
 | .any=>dt d λxs=>b7 (bools? xs) λbs=>.ok (.bl (bs.any id))
 | .sorted=>dt d λxs=>if xs.length<64 then (match pairs? xs with
    |some ps=>.ok (.lst ((dN ps).map pairD))
    |none=>eW xs)else eW xs
 | .abs=>.no
 | .int=>ibR d (λi=>.ok (.int i)) λb=>.ok (.int (if b then 1 else 0))
 | .bool=>.no
 | .min=>match d with
  | .tup xs=>b7 (ints? xs) λns=>gK false ns
  |d=>dt d λxs=>b7 (ints? xs) λns=>gK false ns
 | .max=>match d with
  | .tup xs=>b7 (ints? xs) λns=>gK true ns
  |d=>dt d λxs=>b7 (ints? xs) λns=>gK true ns
 | .sum=>dt d λxs=>b7 (ints? xs) λns=>.ok (.int ns.sum)
 | .repr=>gJ d
noncomputable def b12(b:B1)(d e:D):R D:=match b with
 | .min=>iiR d e λi j=>.ok (.int (if j<i then j else i))
 | .max=>iiR d e λi j=>.ok (.int (if j>i then j else i))
 |_=>.no
noncomputable def nB(ln:Bool)(d:D):R D:=.no
noncomputable def b1(b:B1):List D->R D
 | [d]=>b11 b d
 | [d,e]=>b12 b d e
 |_=>.no
noncomputable def tyD:D->Option String
 | .non=>some "NoneType"
 | .bl _=>some "bool"
 | .int _=>some "int"
 | .str _=>some "str"
 | .tup _=>some "tuple"
 | .lst _=>some "list"
 | .dic=>some "dict"
 |_=>none
noncomputable def zk(lo:Int)(n:Nat):List D:=(aS n).map λ(i:Nat)=>.int (lo+(i:Int))
noncomputable def cN:Nat->List D->List D
 |_,[]=>[]
 |k,x::r=>.tup [.int k,x]::cN (k+1) r
noncomputable def dO:List D->List D->List D
 |x::xs,y::ys=>.tup [x,y]::dO xs ys
 |_,_=>[]
noncomputable def qr(j:Int):Bool:=decide (-1000000<=j)&&decide (j<=1000000)
abbrev Env:=List (Option D)
structure W where
 call:Str->List D->R D
 glb:Str->Option D
 sub:Str->Cl->Option Bool
 cat:Str->Str->Bool
 fld:Str->Option (List Str)
noncomputable def jK(w:W)(f:Str):D->R D
 | .exn k=>match w.fld k.nm with
  |some fs=>if fs.contains f then (match k.fs.lookup f with|some i=>.ok (.int i)|none=>.no)else .no
  |none=>.no
 |_=>.no
noncomputable def cC(w:W)(x:D)(c:Cl):R D:=match tyD x,c with
 |some t,.ty n=>if n = "ValueError" then .no else .ok (.bl (ig t n))
 |_,_=>.no
noncomputable def zD(τ:Env)(i:Nat):R D:=match τ[i]? with
 |some (some d)=>.ok d
 |_=>.no
noncomputable def setAll:List Nat->List D->Env->R Env
 | [],[],τ=>.ok τ
 |i::is,d::ds,τ=>setAll is ds (τ.set i (some d))
 |_,_,_=>.no
noncomputable def store:Tg->D->Env->R Env
 | .nm i,d,τ=>.ok (τ.set i (some d))
 | .tp is,.tup ds,τ=>if ds.length=is.length then setAll is ds τ else .no
 |_,_,_=>.no
noncomputable def dP(cap:List (Option Nat))(τ:Env):Env:=cap.map λo=>o.bind λj=>(τ[j]?).join
noncomputable def noEx{α:Type}:R α->R α
 | .ok a=>.ok a
 |_=>.no
noncomputable def zP(body:D->Env->R (Env×List D)):List D->Env->List D->R (List D)
 | [],_,acc=>.ok acc
 |x::r,τ,acc=>(body x τ).bind λp=>zP body r p.1 (acc++p.2)
mutual
noncomputable def evE(w:W):E->Env->R D
 | .var i,τ=>zD τ i
 | .own i,τ=>zD τ i
 | .con d,_=>.ok d
 | .glb x,_=>match w.glb x with|some d=>.ok d|none=>.no
 | .op o a b,τ=>(evE w a τ).bind λx=>(evE w b τ).bind λy=>op2 o x y
 | .neg a,τ=>(evE w a τ).bind λx=>match x with | .int i=>.ok (.int (-i))|_=>.no
 | .inv a,τ=>(evE w a τ).bind λx=>match x with | .int i=>.ok (.int (Builtin.bitNot i))|_=>.no
 | .not a,τ=>(evE w a τ).bind λx=>match x with | .bl b=>.ok (.bl (!b))|_=>.no
 | .and a b,τ=>(evE w a τ).bind λx=>match x with | .bl true=>evE w b τ | .bl false=>.ok (.bl false)|_=>.no
 | .or a b,τ=>(evE w a τ).bind λx=>match x with | .bl true=>.ok (.bl true) | .bl false=>evE w b τ|_=>.no
 | .cmp c a b,τ=>(evE w a τ).bind λx=>(evE w b τ).bind λy=>(qh c x y).bind λr=>.ok (.bl r)
 | .cmp2 c c' a b d,τ=>(evE w a τ).bind λx=>(evE w b τ).bind λy=>(qh c x y).bind λr=>if r then (evE w d τ).bind λz=>(qh c' y z).bind λr'=>.ok (.bl r')else .ok (.bl false)
 | .cmp3 c c' c'' a b d e,τ=>(evE w a τ).bind λx=>(evE w b τ).bind λy=>(qh c x y).bind λr=>if r then (evE w d τ).bind λz=>(qh c' y z).bind λr'=>if r' then (evE w e τ).bind λu=>(qh c'' z u).bind λHN=>.ok (.bl HN)else .ok (.bl false)else .ok (.bl false)
 | .ite t a b,τ=>(evT w t τ).bind λr=>if r then evE w a τ else evE w b τ
 | .tup es,τ=>(qD w es τ).bind λds=>.ok (.tup ds)
 | .lst es,τ=>(qD w es τ).bind λds=>.ok (.lst ds)
 | .ix a b,τ=>(evE w a τ).bind λx=>(evE w b τ).bind λy=>ixD x y
 | .sl a lo hi,τ=>(evE w a τ).bind λx=>(evO w lo τ).bind λl=>(evO w hi τ).bind λh=>slD x l h
 | .call f es,τ=>(qD w es τ).bind λds=>w.call f ds
 | .bi b es,τ=>(qD w es τ).bind λds=>b1 b ds
 | .rtup a,τ=>(evI w a τ).bind λds=>.ok (.tup ds)
 | .rlst a,τ=>(evI w a τ).bind λds=>.ok (.lst ds)
 | .isi a c,τ=>(evE w a τ).bind λx=>cC w x c
 | .comp it cap tg t elt,τ=>(evI w it τ).bind λds=>if SZ<ds.length then .no else (zP (λx σ=>noEx ((store tg x σ).bind λσ'=>(evT w t σ').bind λr=>if r then (evE w elt σ').bind λd=>.ok (σ',[d])else .ok (σ',[]))) ds (dP cap τ) []).bind λout=>.ok (.lst out)
 | .cnt a b,_=>.no
 | .mxk mx a,τ=>(evE w a τ).bind λx=>fB mx x
 | .dic,_=>.ok .dic
 | .sset ln a,τ=>(evE w a τ).bind (nB ln)
 | .rev a,τ=>(evE w a τ).bind λx=>match x with
  | .tup xs=>.ok (.tup xs.reverse)
  |_=>.no
 | .fld a f,τ=>(evE w a τ).bind (jK w f)
noncomputable def evO(w:W):OE->Env->R (Option Int)
 | .none,_=>.ok none
 | .some e,τ=>(evE w e τ).bind λx=>match x with | .int i=>.ok (some i)|_=>.no
noncomputable def qD(w:W):Es->Env->R (List D)
 | .nil,_=>.ok []
 | .cons e es,τ=>(evE w e τ).bind λd=>(qD w es τ).bind λds=>.ok (d::ds)
noncomputable def evI(w:W):It->Env->R (List D)
 | .seq e,τ=>(evE w e τ).bind λx=>match seq? x with|some xs=>.ok xs|none=>.no
 | .rng a,τ=>(evE w a τ).bind λx=>match x with | .int j=>if qr j then .ok (zk 0 j.toNat)else .no|_=>.no
 | .rng2 a b,τ=>(evE w a τ).bind λx=>(evE w b τ).bind λy=>match x,y with | .int i,.int j=>if qr i&&qr j then .ok (zk i (j-i).toNat)else .no|_,_=>.no
 | .enum e,τ=>(evE w e τ).bind λx=>match x with | .lst xs=>.ok (cN 0 xs)|_=>.no
 | .zip a b,τ=>(evE w a τ).bind λx=>(evE w b τ).bind λy=>match x,y with
  | .tup xs,.tup ys=>if ys.length<=xs.length then .ok (dO xs ys)else .no
  |_,_=>.no
 | .rng3 a b k,_=>.no
noncomputable def evT(w:W):T->Env->R Bool
 | .yes,_=>.ok true
 | .val e,τ=>(evE w e τ).bind λx=>truth x
 | .cmp c a b,τ=>(evE w a τ).bind λx=>(evE w b τ).bind λy=>qh c x y
 | .cmp2 c c' a b d,τ=>(evE w a τ).bind λx=>(evE w b τ).bind λy=>(qh c x y).bind λr=>if r then (evE w d τ).bind λz=>qh c' y z else .ok false
 | .and a b,τ=>(evT w a τ).bind λr=>if r then evT w b τ else .ok false
 | .or a b,τ=>(evT w a τ).bind λr=>if r then .ok true else evT w b τ
 | .not a,τ=>(evT w a τ).bind λr=>.ok (!r)
end
theorem qo:∀{w i τ},@Eq (R D) (evE w (.var i) τ) (zD τ i):=rfl
theorem zb:∀{w i τ},@Eq (R D) (evE w (.own i) τ) (zD τ i):=rfl
theorem qX:∀{w d τ},@Eq (R D) (evE w (.con d) τ) (.ok d):=rfl
theorem zf:∀{w x τ},@Eq (R D) (evE w (.glb x) τ) (match w.glb x with|some d=>.ok d|none=>.no):=rfl
theorem qT:∀{w o a b τ},@Eq (R D) (evE w (.op o a b) τ) ((evE w a τ).bind λx=>(evE w b τ).bind λy=>op2 o x y):=rfl
theorem zh:∀{w a τ},@Eq (R D) (evE w (.neg a) τ) ((evE w a τ).bind λx=>match x with | .int i=>.ok (.int (-i))|_=>.no):=rfl
theorem zg:∀{w a τ},@Eq (R D) (evE w (.inv a) τ) ((evE w a τ).bind λx=>match x with | .int i=>.ok (.int (Builtin.bitNot i))|_=>.no):=rfl
theorem zi:∀{w a τ},@Eq (R D) (evE w (.not a) τ) ((evE w a τ).bind λx=>match x with | .bl b=>.ok (.bl (!b))|_=>.no):=rfl
theorem qG:∀{w a b τ},@Eq (R D) (evE w (.and a b) τ) ((evE w a τ).bind λx=>match x with | .bl true=>evE w b τ | .bl false=>.ok (.bl false)|_=>.no):=rfl
theorem qK:∀{w a b τ},@Eq (R D) (evE w (.or a b) τ) ((evE w a τ).bind λx=>match x with | .bl true=>.ok (.bl true) | .bl false=>evE w b τ|_=>.no):=rfl
theorem qO:∀{w c a b τ},@Eq (R D) (evE w (.cmp c a b) τ) ((evE w a τ).bind λx=>(evE w b τ).bind λy=>(qh c x y).bind λr=>.ok (.bl r)):=rfl
theorem qP:∀{w c c' a b d τ},@Eq (R D) (evE w (.cmp2 c c' a b d) τ) ((evE w a τ).bind λx=>(evE w b τ).bind λy=>(qh c x y).bind λr=>if r then (evE w d τ).bind λz=>(qh c' y z).bind λr'=>.ok (.bl r')else .ok (.bl false)):=rfl
theorem qL:∀{w c c' c'' a b d e τ},@Eq (R D) (evE w (.cmp3 c c' c'' a b d e) τ) ((evE w a τ).bind λx=>(evE w b τ).bind λy=>(qh c x y).bind λr=>if r then (evE w d τ).bind λz=>(qh c' y z).bind λr'=>if r' then (evE w e τ).bind λu=>(qh c'' z u).bind λHN=>.ok (.bl HN)else .ok (.bl false)else .ok (.bl false)):=rfl
theorem qy:∀{w t a b τ},@Eq (R D) (evE w (.ite t a b) τ) ((evT w t τ).bind λr=>if r then evE w a τ else evE w b τ):=rfl
theorem qN:∀{w es τ},@Eq (R D) (evE w (.tup es) τ) ((qD w es τ).bind λds=>.ok (.tup ds)):=rfl
theorem qB:∀{w es τ},@Eq (R D) (evE w (.lst es) τ) ((qD w es τ).bind λds=>.ok (.lst ds)):=rfl
theorem qx:∀{w a b τ},@Eq (R D) (evE w (.ix a b) τ) ((evE w a τ).bind λx=>(evE w b τ).bind λy=>ixD x y):=rfl
theorem qH:∀{w a lo hi τ},@Eq (R D) (evE w (.sl a lo hi) τ) ((evE w a τ).bind λx=>(evO w lo τ).bind λl=>(evO w hi τ).bind λh=>slD x l h):=rfl
theorem qz:∀{w f es τ},@Eq (R D) (evE w (.call f es) τ) ((qD w es τ).bind λds=>w.call f ds):=rfl
theorem ql:∀{w b es τ},@Eq (R D) (evE w (.bi b es) τ) ((qD w es τ).bind λds=>b1 b ds):=rfl
theorem qI:∀{w a τ},@Eq (R D) (evE w (.rtup a) τ) ((evI w a τ).bind λds=>.ok (.tup ds)):=rfl
theorem qU:∀{w a τ},@Eq (R D) (evE w (.rlst a) τ) ((evI w a τ).bind λds=>.ok (.lst ds)):=rfl
theorem qC:∀{w a c τ},@Eq (R D) (evE w (.isi a c) τ) ((evE w a τ).bind λx=>cC w x c):=rfl
theorem qE:∀{w it cap tg t elt τ},@Eq (R D) (evE w (.comp it cap tg t elt) τ) ((evI w it τ).bind λds=>if SZ<ds.length then .no else (zP (λx σ=>noEx ((store tg x σ).bind λσ'=>(evT w t σ').bind λr=>if r then (evE w elt σ').bind λd=>.ok (σ',[d])else .ok (σ',[]))) ds (dP cap τ) []).bind λout=>.ok (.lst out)):=rfl
theorem qW:∀{w a b τ},@Eq (R D) (evE w (.cnt a b) τ) (.no):=rfl
theorem qR:∀{w mx a τ},@Eq (R D) (evE w (.mxk mx a) τ) ((evE w a τ).bind λx=>fB mx x):=rfl
theorem qQ:∀{w τ},@Eq (R D) (evE w (.dic) τ) (.ok .dic):=rfl
theorem qS:∀{w ln a τ},@Eq (R D) (evE w (.sset ln a) τ) ((evE w a τ).bind (nB ln)):=rfl
theorem qM:∀{w a τ},@Eq (R D) (evE w (.rev a) τ) ((evE w a τ).bind λx=>match x with
  | .tup xs=>.ok (.tup xs.reverse)
  |_=>.no):=rfl
theorem qV:∀{w a f τ},@Eq (R D) (evE w (.fld a f) τ) ((evE w a τ).bind (jK w f)):=rfl
theorem fS:∀{w τ},@Eq (R Bool) (evT w (.yes) τ) (.ok true):=rfl
theorem eA:∀{w e τ},@Eq (R Bool) (evT w (.val e) τ) ((evE w e τ).bind λx=>truth x):=rfl
theorem fH:∀{w c a b τ},@Eq (R Bool) (evT w (.cmp c a b) τ) ((evE w a τ).bind λx=>(evE w b τ).bind λy=>qh c x y):=rfl
theorem fP:∀{w c c' a b d τ},@Eq (R Bool) (evT w (.cmp2 c c' a b d) τ) ((evE w a τ).bind λx=>(evE w b τ).bind λy=>(qh c x y).bind λr=>if r then (evE w d τ).bind λz=>qh c' y z else .ok false):=rfl
theorem gj:∀{w a b τ},@Eq (R Bool) (evT w (.and a b) τ) ((evT w a τ).bind λr=>if r then evT w b τ else .ok false):=rfl
theorem eU:∀{w a b τ},@Eq (R Bool) (evT w (.or a b) τ) ((evT w a τ).bind λr=>if r then .ok true else evT w b τ):=rfl
theorem fg:∀{w a τ},@Eq (R Bool) (evT w (.not a) τ) ((evT w a τ).bind λr=>.ok (!r)):=rfl
set_option genInjectivity false
mutual
inductive S where
 |set (tg:Tg) (e:E)
 |app (i:Nat) (e:E)
 |seti (i:Nat) (k e:E)
 |exp (e:E)
 |ret (e:E)|retN
 |ite (t:T) (a b:Ss)
 |for (tg:Tg) (it:It) (b:Ss)
 |while (t:T) (b:Ss)
 |raise (c:Str) (es:Es)
 |try (b:Ss) (c:Str) (i:Option Nat) (h:Ss)
 |ins (i:Nat) (k e:E)
 |cnt|unk
 |raisF (c:Str) (es:Es)
inductive Ss where
 |nil|cons (s:S) (r:Ss)
end
set_option genInjectivity true
inductive O where
 |nx (τ:Env)|rt (d:D)|bk (τ:Env)|ct (τ:Env)|ex (c:Xc)|no
noncomputable def R.out{α:Type}:R α->(α->O)->O
 | .ok a,f=>f a
 | .ex c,_=>.ex c
 | .no,_=>.no
@[simp] theorem R.out_ok{α:Type}(a:α)(f:α->O):(R.ok a).out f=f a:=rfl
@[simp] theorem R.out_ex{α:Type}(c:Xc)(f:α->O):(R.ex c:R α).out f=.ex c:=rfl
@[simp] theorem R.out_no{α:Type}(f:α->O):(R.no:R α).out f=.no:=rfl
noncomputable def eC(tg:Tg)(body:Env->O):List D->Env->O
 | [],τ=>.nx τ
 |x::r,τ=>(store tg x τ).out λτ'=>match body τ' with
  | .nx σ=>eC tg body r σ
  | .ct σ=>eC tg body r σ
  | .bk σ=>.nx σ
  |o=>o
noncomputable def O.noEx:O->O
 | .ex _=>.no
 |o=>o
noncomputable def O.rtOnly:O->O
 | .rt d=>.rt d
 |_=>.no
noncomputable def jM(fs:List Str)(c:Str)(ds:List D):O:=match ints? ds with
 |some ns=>if ns.length=fs.length then .ex ⟨c,fs.zip ns⟩else .no
 |none=>.no
noncomputable def dR(τ:Env)(i:Option Nat)(k:Xc):Env:=match i with
 |none=>τ.map λ_=>none
 |some i=>(τ.map λ_=>none).set i (some (.exn k))
mutual
noncomputable def evS(w:W):S->Env->O
 | .set tg e,τ=>(evE w e τ).out λd=>(store tg d τ).out .nx
 | .app i e,τ=>(zD τ i).out λx=>(evE w e τ).out λd=>match x with
  | .lst xs=>if xs.length<SZ then .nx (τ.set i (some (.lst (xs++[d]))))else .no
  |_=>.no
 | .seti i k e,τ=>(evE w e τ).out λd=>(zD τ i).out λx=>(evE w k τ).out λn=>match x,n with
  | .lst xs,.int j=>match ixN xs.length j with
   |some m=>.nx (τ.set i (some (.lst (xs.set m d))))
   |none=>.no
  |_,_=>.no
 | .exp e,τ=>(evE w e τ).out λ_=>.nx τ
 | .ret e,τ=>(evE w e τ).out .rt
 | .retN,_=>.rt .non
 | .ite t a b,τ=>(evT w t τ).out λr=>if r then qe w a τ else qe w b τ
 | .for tg it b,τ=>((evI w it τ).out λds=>eC tg (λσ=>qe w b σ) ds τ).noEx
 | .while t b,_=>.no
 | .raise c es,_=>.no
 | .try b c i h,τ=>match qe w b τ with
  | .ex k=>if w.cat k.nm c=true then (qe w h (dR τ i k)).rtOnly else .no
  |o=>o
 | .ins i k e,_=>.no
 | .unk,_=>.no
 | .cnt,τ=>.ct τ
 | .raisF c es,τ=>match w.fld c with
  |some fs=>(qD w es τ).out (jM fs c)
  |none=>.no
noncomputable def qe(w:W):Ss->Env->O
 | .nil,τ=>.nx τ
 | .cons s r,τ=>match evS w s τ with
  | .nx σ=>qe w r σ
  |o=>o
end
theorem zr:∀{w tg e τ},@Eq (O) (evS w (.set tg e) τ) ((evE w e τ).out λd=>(store tg d τ).out .nx):=rfl
theorem cU:∀{w i e τ},@Eq (O) (evS w (.app i e) τ) ((zD τ i).out λx=>(evE w e τ).out λd=>match x with
  | .lst xs=>if xs.length<SZ then .nx (τ.set i (some (.lst (xs++[d]))))else .no
  |_=>.no):=rfl
theorem cL:∀{w i k e τ},@Eq (O) (evS w (.seti i k e) τ) ((evE w e τ).out λd=>(zD τ i).out λx=>(evE w k τ).out λn=>match x,n with
  | .lst xs,.int j=>match ixN xs.length j with
   |some m=>.nx (τ.set i (some (.lst (xs.set m d))))
   |none=>.no
  |_,_=>.no):=rfl
theorem cV:∀{w e τ},@Eq (O) (evS w (.exp e) τ) ((evE w e τ).out λ_=>.nx τ):=rfl
theorem zm:∀{w e τ},@Eq (O) (evS w (.ret e) τ) ((evE w e τ).out .rt):=rfl
theorem cX:∀{w τ},@Eq (O) (evS w (.retN) τ) (.rt .non):=rfl
theorem zO:∀{w t a b τ},@Eq (O) (evS w (.ite t a b) τ) ((evT w t τ).out λr=>if r then qe w a τ else qe w b τ):=rfl
theorem cQ:∀{w tg it b τ},@Eq (O) (evS w (.for tg it b) τ) (((evI w it τ).out λds=>eC tg (λσ=>qe w b σ) ds τ).noEx):=rfl
theorem dj:∀{w t b τ},@Eq (O) (evS w (.while t b) τ) (.no):=rfl
theorem zM:∀{w c es τ},@Eq (O) (evS w (.raise c es) τ) (.no):=rfl
theorem zI:∀{w b c i h τ},@Eq (O) (evS w (.try b c i h) τ) (match qe w b τ with
  | .ex k=>if w.cat k.nm c=true then (qe w h (dR τ i k)).rtOnly else .no
  |o=>o):=rfl
theorem zS:∀{w i k e τ},@Eq (O) (evS w (.ins i k e) τ) (.no):=rfl
theorem zT:∀{w τ},@Eq (O) (evS w (.unk) τ) (.no):=rfl
theorem zU:∀{w τ},@Eq (O) (evS w (.cnt) τ) (.ct τ):=rfl
theorem zN:∀{w c es τ},@Eq (O) (evS w (.raisF c es) τ) (match w.fld c with
  |some fs=>(qD w es τ).out (jM fs c)
  |none=>.no):=rfl
structure Fn where
 ps:Nat
 N:Nat
 fr:Bool
 body:Ss
noncomputable def cW(w:W)(f:Fn)(ds:List D):R D:=if ds.length=f.ps then (match qe w f.body (ds.map some++bR (f.N-f.ps) none)with
  | .nx _=>if f.fr then .no else .ok .non
  | .rt d=>.ok d
  | .ex c=>.ex c
  |_=>.no)else .no
structure Pr where
 fns:Str->Option Fn
 glb:Str->Option D
 sub:Str->Cl->Option Bool
 cat:Str->Str->Bool
 fld:Str->Option (List Str)
noncomputable def qc(p:Pr):Nat->Str->List D->R D
 | 0,_,_=>.no
 |k+1,x,ds=>match p.fns x with
  |some f=>cW ⟨qc p k,p.glb,p.sub,p.cat,p.fld⟩ f ds
  |none=>.no
inductive GK where
  |fn (fresh:Bool)|val|bi (b:B1)|rng|enum|zip|isi|ty (n:String) (b:Option B1)|exc|exk|set|exf
  deriving DecidableEq
structure Cc where
  nm:List (Str×aX)
  N:List Str
  own:List Str
  G:List (Str×GK)
  calm:Bool
  fnc:Bool
  thr:Bool
  GH:List (Str×GK)
  oc:List Str
  frz:Bool
noncomputable def loc(c:Cc)(x:Str):Option Nat:=
  if x == "__debug__" ||x == "__classdict__" then none else
  match c.nm.lookup x with
  |some .local|some .cell|some .free=>let i:=c.N.findIdx (· == x);if c.N[i]? = some x then some i else none
  |_=>none
noncomputable def dq(c:Cc)(x:Str):Option Nat:=
  match c.nm.lookup x with
  |some .local=>loc c x
  |some .cell=>if c.fnc||c.oc.contains x then loc c x else none
  |_=>none
noncomputable def glob(c:Cc)(x:Str):Option GK:=
  if x == "__debug__" ||x == "__name__" then none else
  match c.nm.lookup x with
  |some .globalImplicit=>c.G.lookup x
  |_=>none
noncomputable def esc:E->Bool
  | .own _=>false
  |_=>true
noncomputable def eP:Es->Bool
  | .nil=>true
  | .cons e es=>esc e&&eP es
noncomputable def isL:E->Bool
  | .lst _=>true
  | .rlst _=>true
  | .comp .. => true
  |_=>false
noncomputable def t4:O2->Bool
  | .add=>true
  | .mul=>true
  |_=>false
noncomputable def fresh(c:Cc):E->Bool
  | .op o a b=>t4 o&&isL a||o==.add&&isL b
  | .lst _=>true
  | .rlst _=>true
  | .comp .. => true
  | .bi .list _=>true
  | .bi .sorted _=>true
  | .call f _=>c.G.lookup f==some (.fn true)
  |_=>false
noncomputable def o2:Operator->Option O2
  | .Add=>some .add
  | .Sub=>some .sub
  | .Mult=>some .mul
  | .FloorDiv=>some .fdiv
  | .Mod=>some .mod
  | .Pow=>some .pow
  | .LShift=>some .shl
  | .RShift=>some .shr
  | .BitAnd=>some .band
  | .BitOr=>some .bor
  | .BitXor=>some .bxor
  |_=>none
noncomputable def c2:CmpOp->C2
  | .Eq=>.eq
  | .NotEq=>.ne
  | .Lt=>.lt
  | .LtE=>.le
  | .Gt=>.gt
  | .GtE=>.ge
  | .Is=>.is
  | .IsNot=>.isnot
  | .In=>.isin
  | .NotIn=>.notin
noncomputable def fG:Expr->Bool
  | .ListComp .. => true
  | .SetComp .. => true
  | .DictComp .. => true
  |_=>false
noncomputable def zp:Expr->Bool
  | .Set .. => false
  |_=>true
noncomputable def jA(names nm:List (Str×aX)):List (Str×aX):=names.map λ(n,k)=>if k==cb&&(nm.lookup n==some .cell)then (n,aX.cell)else (n,k)
noncomputable def zV(names:List (Str×aX)):List Str:=(names.filter λp=>p.2==.local||p.2==.free||p.2==.cell).map (·.1)
noncomputable def gI(c:Cc)(names:List (Str×aX)):List (Option Nat):=(zV names).map λx=>if names.lookup x==some .free then loc c x else none
noncomputable def gR:List Expr->Option (List Str)
  | []=>some []
  | .Name x _::r=>(gR r).map (x :: ·)
  |_=>none
noncomputable def cTg(c:Cc):Expr->Option Tg
  | .Name x _=>if c.own.contains x then none else (dq c x).map .nm
  | .Tuple es _ _=>if c.calm then do
      let xs <-gR es
      if xs.any c.own.contains then none else
      let is <-xs.mapM (dq c)
      if is.Nodup then some (.tp is)else none
    else none
  |_=>none
noncomputable def isStar:Expr->Bool
  | .Starred .. => true
  |_=>false
noncomputable def isSlice:Expr->Bool
  | .Slice .. => true
  |_=>false
noncomputable def isTup:Expr->Bool
  | .Tuple .. => true
  |_=>false
noncomputable def gf(it:It)(tg:Expr):Bool:=match it with
  | .enum _=>isTup tg
  | .zip .. => isTup tg
  |_=>true
noncomputable def jb(c:Cc):Expr->Option Cl
  | .Name x _=>match glob c x with
    |some (.ty n _)=>some (.ty n)
    |some .exc=>some (.ex x)
    |some .exk=>some (.ex x)
    |some .exf=>some (.ex x)
    |_=>none
  |_=>none
noncomputable def vr(c:Cc)(x:Str)(i:Nat):E:=if c.own.contains x then .own i else .var i
noncomputable def cMt(c:Cc)(o:Expr)(m:Str)(ap:Pos)(as:List Expr)(cp:Pos):Option E:=none
noncomputable def baseOk:Expr->Bool
  | .Call (.Name _ _) (_::_) _ _=>true
  | .Name .. => true
  |_=>false
noncomputable def owned:It->Bool
  | .seq (.own _)=>true
  | .enum (.own _)=>true
  | .zip (.own _) _=>true
  | .zip _ (.own _)=>true
  |_=>false
noncomputable def mF:Expr->Option Str
  | .Constant k _ _=>match k with
    | .str t=>some t
    |_=>none
  |_=>none
noncomputable def pX:Expr->Option Expr
  | .FormattedValue a k f _=>match f with
    |none=>if k = -1 then some a else none
    |_=>none
  |_=>none
noncomputable def Ga:List Expr->Option (Str×Expr×Str×Expr×Str)
  | [x0,x1,x2,x3,x4]=>do
    let t0 <-mF x0
    let a <-pX x1
    let t1 <-mF x2
    let b <-pX x3
    let t2 <-mF x4
    if (Str.empty++t0).length<=1000 then some (t0,a,t1,b,t2)else none
  |_=>none
noncomputable def jv:Expr->Bool
  | .UnaryOp .USub (.Constant (.int i) _ _) _=>decide (i=1)
  |_=>false
noncomputable def rN(c:Cc)(b:B1)(_:List Expr):Option Expr:=none
noncomputable def jS:Expr->Bool
  | .ListComp _ gs _ _=>gs.length==2
  |_=>false
mutual
noncomputable def cE:Nat->Cc->Expr->Option E
  | 0,_,_=>none
  |n+1,c,e=>match e with
    | .Name x _=>match loc c x with
      |some i=>if c.own.contains x then some (.own i)else some (.var i)
      |none=>match glob c x with
        |some .val=>some (.glb x)
        |some (.fn _)=>none
        |_=>none
    | .Constant k _ _=>match k with
      | .int i=>some (.con (.int i))
      | .bool i=>some (.con (.bl i))
      | .none=>some (.con .non)
      | .str x=>some (.con (.str x))
      |_=>none
    | .BinOp a op b _=>do
      let o <-o2 op
      let a <-cE n c a
      let b <-cE n c b
      some (.op o a b)
    | .UnaryOp op a _=>do
      let a <-cE n c a
      match op with
      | .USub=>some (.neg a)
      | .Invert=>some (.inv a)
      | .Not=>some (.not a)
      |_=>none
    | .BoolOp op vs _=>cBo n c op vs
    | .Attribute a f _=>match a with
      | .Name x _=>match loc c x with
        |some i=>if c.own.contains x then none else some (.fld (.var i) f)
        |none=>none
      |_=>none
    | .Compare a ops bs _=>match ops,bs with
      | [o],[b]=>do
        let a <-cE n c a
        let b' <-cE n c b
        if zp b then some (.cmp (c2 o) a b')else none
      | [o,o'],[b,d]=>do
        let a <-cE n c a
        let b' <-cE n c b
        let d' <-cE n c d
        if zp b&&zp d then some (.cmp2 (c2 o) (c2 o') a b' d')else none
      | [o,o',J0],[b,d,f]=>do
        let a <-cE n c a
        let b' <-cE n c b
        let d' <-cE n c d
        let f' <-cE n c f
        if zp b&&zp d&&zp f then some (.cmp3 (c2 o) (c2 o') (c2 J0) a b' d' f')else none
      |_,_=>none
    | .Dict ks vs _=>if ks.isEmpty&&vs.isEmpty then some .dic else none
    | .IfExp t a b _=>do
      let t <-cT n c t
      let a <-cE n c a
      let b <-cE n c b
      if esc a&&esc b then some (.ite t a b)else none
    | .Tuple es _ _=>do
      let es <-cEs n c es
      if eP es then some (.tup es)else none
    | .List es _=>do
      let es <-cEs n c es
      if eP es then some (.lst es)else none
    | .Subscript a b _=>match b with
      | .Slice lo hi st _=>match st with
        |some s=>if lo.isNone&&hi.isNone&&jv s then (cE n c a).map .rev else none
        |none=>do
          let a <-cE n c a
          let lo <-cO n c lo
          let hi <-cO n c hi
          some (.sl a lo hi)
      |b=>do
        if isSlice b then none else
        let a <-cE n c a
        let b <-cE n c b
        some (.ix a b)
    | .ListComp elt gs sc _=>match gs with
     | [⟨Gk,it,ifs,Kt⟩]=>do
      if !(Kt==0) || !c.calm || !zp it then none else
      let c':Cc:={c with nm:=jA sc.names c.nm,N:=zV sc.names,fnc:=false,oc:=iq sc.names}
      let cap:=gI c sc.names
      if !ip (λx=>c.nm.lookup x) c.N (zV sc.names) cap sc || !decide (zV sc.names).Nodup then none else
      let it <-cI n c it
      let tg <-cTg c' Gk
      let t <-fM n c' ifs
      let elt <-cE n c' elt
      if esc elt&&gf it Gk then some (.comp it cap tg t elt)else none
     |_=>none
    | .Call fe as ks cp=>match ks with
     | []=>match fe with
      | .Name f _=>match loc c f with
        |some _=>none
        |none=>match glob c f with
          |some (.fn _)=>do
            let es <-cEs n c as
            if eP es && !as.isEmpty then some (.call f es)else none
          |some (.bi b)=>match rN c b as with
            |some a=>(cE n c a).map (.sset (b==.len))
            |none=>do
              let es <-cEs n c as
              if !as.isEmpty&&(c.calm||b==.len||b==.abs)then some (.bi b es)else none
          |some (.ty t (some b))=>match as with
            | [.Call (.Name g p) IC [] q]=>if loc c g==none&&glob c g==some .rng then (if c.calm&&(t == "tuple" ||t == "list")then (match IC with
                | [a]=>if isStar a then none else do
                  let a <-cE n c a
                  some (if t = "tuple" then .rtup (.rng a)else .rlst (.rng a))
                | [a,d]=>if isStar a||isStar d then none else do
                  let a <-cE n c a
                  let d <-cE n c d
                  some (if t = "tuple" then .rtup (.rng2 a d)else .rlst (.rng2 a d))
                | [a,d,k]=>if isStar a||isStar d||isStar k then none else do
                  let a <-cE n c a
                  let d <-cE n c d
                  let k <-cE n c k
                  if t == "tuple" then some (.rtup (.rng3 a d k))else none
                |_=>none)
                else none)
              else do
                let es <-cEs n c as
                some (.bi b es)
            |_=>do
              let es <-cEs n c as
              if !as.isEmpty then some (.bi b es)else none
          |some .isi=>match as with
            | [a,k]=>do
              if isStar a then none else
              let a <-cE n c a
              let k <-jb c k
              some (.isi a k)
            |_=>none
          |_=>none
      | .Attribute o m ap=>match cMt c o m ap as cp with
        |some e=>some e
        |none=>none
      |_=>none
     | [⟨kn,kv,_⟩]=>match fe with
      | .Name f _=>match kv with
        | .Name y _=>match as with
          | [a]=>do
            if isStar a || !c.calm || !(kn==some "key") || !(loc c f==none) || !(glob c y==some (.bi .len)) || !(loc c y==none)then none else
            let a' <-cE n c a
            if glob c f==some (.bi .max)then some (.mxk true a')else if glob c f==some (.bi .min)then some (.mxk false a')else none
          |_=>none
        |_=>none
      |_=>none
     |_=>none
    |_=>none
noncomputable def fM:Nat->Cc->List Expr->Option T
  | 0,_,_=>none
  |n+1,c,ifs=>match ifs with
    | []=>some .yes
    | [t]=>cT n c t
    |_=>none
noncomputable def cBo:Nat->Cc->BoolOp->List Expr->Option E
  | 0,_,_,_=>none
  |n+1,c,op,vs=>match vs with
    | []=>none
    | [a]=>do
      let a <-cE n c a
      if esc a then some a else none
    |a::b::r=>do
      let a <-cE n c a
      let r <-cBo n c op (b::r)
      match op with
      | .And=>some (.and a r)
      | .Or=>some (.or a r)
noncomputable def cO:Nat->Cc->Option Expr->Option OE
  | 0,_,_=>none
  |n+1,c,o=>match o with
    |none=>some .none
    |some e=>(cE n c e).map .some
noncomputable def cEs:Nat->Cc->List Expr->Option Es
  | 0,_,_=>none
  |n+1,c,es=>match es with
    | []=>some .nil
    |e::r=>do
      if isStar e then none else
      let e <-cE n c e
      let r <-cEs n c r
      some (.cons e r)
noncomputable def cI:Nat->Cc->Expr->Option It
  | 0,_,_=>none
  |n+1,c,e=>match e with
    | .Call (.Name f p) as [] q=>match loc c f with
      |some _=>(cE n c (.Call (.Name f p) as [] q)).map .seq
      |none=>match glob c f with
        |some .rng=>(match as with
          | [a]=>if isStar a then none else (cE n c a).map .rng
          | [a,b]=>if isStar a||isStar b then none else do
            let a <-cE n c a
            let b <-cE n c b
            some (.rng2 a b)
          |_=>none)
        |some .enum=>(match as with
          | [a]=>if isStar a then none else (cE n c a).map .enum
          |_=>none)
        |some .zip=>(match as with
          | [a,b]=>if isStar a||isStar b then none else do
            let a <-cE n c a
            let b <-cE n c b
            some (.zip a b)
          |_=>none)
        |_=>(cE n c (.Call (.Name f p) as [] q)).map .seq
    |e=>(cE n c e).map .seq
noncomputable def cT:Nat->Cc->Expr->Option T
  | 0,_,_=>none
  |n+1,c,e=>match e with
    | .UnaryOp .Not a _=>(cT n c a).map .not
    | .BoolOp op vs _=>cTs n c op vs
    | .IfExp .. => none
    | .Compare a ops bs _=>match ops,bs with
      | [o],[b]=>do
        let a <-cE n c a
        let b' <-cE n c b
        if zp b then some (.cmp (c2 o) a b')else none
      | [o,o'],[b,d]=>do
        let a <-cE n c a
        let b' <-cE n c b
        let d' <-cE n c d
        if zp b&&zp d then some (.cmp2 (c2 o) (c2 o') a b' d')else none
      | [o,o',J0],[b,d,f]=>do
        let a <-cE n c a
        let b' <-cE n c b
        let d' <-cE n c d
        let f' <-cE n c f
        if zp b&&zp d&&zp f then some (.val (.cmp3 (c2 o) (c2 o') (c2 J0) a b' d' f'))else none
      |_,_=>none
    |e=>(cE n c e).map .val
noncomputable def cTs:Nat->Cc->BoolOp->List Expr->Option T
  | 0,_,_,_=>none
  |n+1,c,op,vs=>match vs with
    | []=>none
    | [a]=>cT n c a
    |a::b::r=>do
      let a <-cT n c a
      let r <-cTs n c op (b::r)
      match op with
      | .And=>some (.and a r)
      | .Or=>some (.or a r)
end
noncomputable def ij(c:Cc):Cc:={c with calm:=false,thr:=false,G:=c.GH,GH:=[]}

noncomputable def jI:Expr->Option (Str×Str×Pos×Expr×Pos)
  | .Call f as ks cp=>match f with
    | .Attribute o m ap=>match o with
      | .Name x _=>match as with
        | [a]=>if ks.isEmpty then some (x,m,ap,a,cp)else none
        |_=>none
      |_=>none
    |_=>none
  |_=>none
noncomputable def kT(_:Expr):Option (Str×Pos×Expr×Expr×Pos):=none
noncomputable def raiseOf:Expr->Option (Str×Expr×List Expr)
  | .Call f as ks _=>match f with
    | .Name x _=>match as with
      |a::as=>if ks.isEmpty then some (x,a,as)else none
      |_=>none
    |_=>none
  |_=>none
noncomputable def mq:Expr->Bool
  | .Tuple es _ _=>es.all (foldedForSure 8)
  |_=>false
mutual
noncomputable def cS:Nat->Cc->Bool->Stmt->Option S
  | 0,_,_,_=>none
  |n+1,c,fr,s=>match s with
    | .Assign ts e _=>match ts with
      | [t]=>match t with
        | .Name x _=>do
          if jS e then none else
          let i <-dq c x
          let e' <-cE n c e
          if c.own.contains x then (if fresh c e' && !c.frz then some (.set (.nm i) e')else none)else if esc e' then some (.set (.nm i) e')else none
        | .Tuple ts k p=>do
              let tg <-cTg c (.Tuple ts k p)
              let e' <-cE n c e
              if (isTup e && !mq e)||fG e || !esc e' then none else some (.set tg e')
        | .Subscript a k _=>match a with
          | .Name x _=>do
            let i <-dq c x
            let e' <-cE n c e
            let k' <-cE n c k
            if c.own.contains x&&esc e' && !isSlice k && !fG e && !c.frz then some (.seti i k' e')else none
          |_=>none
        |_=>none
      |_=>none
    | .Expr e _=>match kT e with
      |some (x,ap,k,a,cp)=>do
        let i <-dq c x
        let k' <-cE n c k
        let a' <-cE n c a
        if c.own.contains x&&esc a' && !isStar k && !isStar a&&ap.endLine==cp.line && !c.frz then some (.ins i k' a')else none
      |none=>match jI e with
      |some (x,m,ap,a,cp)=>do
        let i <-dq c x
        let a' <-cE n c a
        if m == "append" && c.own.contains x&&esc a' && !isStar a&&ap.endLine==cp.line && !c.frz then some (.app i a')else none
      |none=>do
        if fG e then none else
        let e' <-cE n c e
        some (.exp e')
    | .Return o _=>match o with
      |some e=>do
        let e' <-cE n c e
        if fr then (match e with
          | .Name y _=>if c.own.contains y then (loc c y).map (λi=>.ret (.own i))else none
          |_=>if fresh c e' then some (.ret e')else none)
        else some (.ret e')
      |none=>if fr then none else some .retN
    | .If t a b _=>do
      let t <-cT n c t
      let a <-cSs n c fr a
      let b <-cSs n c fr b
      some (.ite t a b)
    | .For tg it b els _=>do
      if !els.isEmpty || !c.calm || !zp it then none else
      let Mf <-cTg c tg
      let it <-cI n c it
      if !gf it tg then none else
      let b <-cSs n {c with frz:=c.frz||owned it} fr b
      some (.for Mf it b)
    | .While t b els _=>do
      if !els.isEmpty || !c.calm then none else
      let t <-cT n c t
      let b <-cSs n c fr b
      some (.while t b)
    | .Raise o o' _=>match o with
      |some r=>match raiseOf r with
        |some (x,a,as)=>do
          if !o'.isNone || !c.calm || !c.thr then none else
          match glob c x with
          |some .exc=>do
            let es <-cEs n c (a::as)
            some (.raise x es)
          |some .exf=>do
            let es <-cEs n c (a::as)
            some (.raisF x es)
          |_=>none
        |none=>none
      |none=>none
    | .Try b hs els fin _=>match hs with
      | [.ExceptHandler ty y h _]=>match ty with
        |some (.Name x _)=>do
          if !els.isEmpty || !fin.isEmpty || !c.calm || !c.fnc||fr||h.isEmpty || !c.own.isEmpty||c.frz then none else
          let b <-cSs n {c with thr:=false} fr b
          let h <-cSs n (ij c) fr h
          if !(glob c x==some .exc||glob c x==some .exk||glob c x==some .exf)then none else
          match y with
          |none=>some (.try b x none h)
          |some y=>do
            let i <-dq c y
            if c.nm.lookup y==some .local then some (.try b x (some i) h)else none
        |_=>none
      |_=>none
    |_=>none
noncomputable def cSs:Nat->Cc->Bool->List Stmt->Option Ss
  | 0,_,_,_=>none
  |n+1,c,fr,ss=>match ss with
    | []=>some .nil
    |s::r=>do
      let r <-cSs n c fr r
      some (.cons ((cS n c fr s).getD .unk) r)
end
noncomputable def noOwn(c:Cc):Cc:={c with own:=[],frz:=false}
noncomputable def j_(n:Nat)(c:Cc)(fr:Bool)(b:List Stmt):Option Ss:=cSs n c fr b
noncomputable def argNames(a:Arguments):List Str:=a.args.map (·.arg)
noncomputable def jr(a:Arguments)(sc:a9):List Str:=argNames a++((sc.names.filter λp=>p.2==.local||p.2==.cell).map (·.1)).filter λx=>!(argNames a).contains x
noncomputable def jO(N ps:List Str)(sc:a9):Bool:=
  sc.kind==.function && !sc.isCoroutine && !sc.isGenerator&&decide N.Nodup&&decide (N.take ps.length=ps)&&ps.all (λx=>sc.names.lookup x==some .local||sc.names.lookup x==some .cell)&&sc.names.all λy=>y.2 != .free
noncomputable def lN:Nat:=60
noncomputable def cFn(G GH:List (Str×GK))(own:List Str)(fr:Bool)(st:Stmt):Option Fn:=do
  let a:=ze st
  let sc:=qF st
  let N:=jr a sc
  if !jO N (argNames a) sc||(argNames a).any own.contains then none else
  let b <-j_ lN ⟨sc.names,N,own,G,true,true,true,GH,[],false⟩ fr (zQ st)
  some ⟨(argNames a).length,N.length,fr,b⟩
noncomputable def rQ(GU:List (Str×GK))(own:List Str)(fr:Bool)(st:Stmt):Option Fn:=none
theorem oN{β:Type}{r:β}{Q:Prop}(h:(none:Option β)=some r):Q:=by cases h
theorem oS{α β:Type}{o:Option α}{f:α->Option β}{r:β}{Q:Prop}(h:(do let a <-o;f a)=some r)(k:∀a,o=some a->f a=some r->Q):Q:=by
  cases o with
  |none=>cases h
  |some a=>exact k a rfl h
theorem oI{β:Type}{p:Bool}{x r:β}{Q:Prop}(h:(if p then some x else none)=some r)(k:p=true->x=r->Q):Q:=by
  cases p with
  |false=>cases h
  |true=>exact k rfl (bB h)
theorem oB1{β α:Type}{o0:Option α}{f:α->Option β}{r:β}{Q:Prop}(h:(do let a <-o0;f a)=some r)(k:∀a,o0=some a->f a=some r->Q):Q:=
  oS h λa h0 h=>k a h0 h
theorem oB2{β α γ:Type}{o0:Option α}{o1:α->Option γ}{f:α->γ->Option β}{r:β}{Q:Prop}(h:(do let a <-o0;let b <-o1 a;f a b)=some r)(k:∀a b,o0=some a->o1 a=some b->f a b=some r->Q):Q:=
  oS h λa h0 h=>oS h λb h1 h=>k a b h0 h1 h
theorem oC1{β α:Type}{o0:Option α}{p:α->Bool}{x:α->β}{r:β}{Q:Prop}(h:(do let a <-o0;if p a then some (x a)else none)=some r)(k:∀a,o0=some a->p a=true->x a=r->Q):Q:=
  oS h λa h0 h=>oI h (k a h0)
theorem oC2{β α γ:Type}{o0:Option α}{o1:α->Option γ}{p:α->γ->Bool}{x:α->γ->β}{r:β}{Q:Prop}(h:(do let a <-o0;let b <-o1 a;if p a b then some (x a b)else none)=some r)(k:∀a b,o0=some a->o1 a=some b->p a b=true->x a b=r->Q):Q:=
  oS h λa h0 h=>oS h λb h1 h=>oI h (k a b h0 h1)
theorem oC3{β α γ δ:Type}{o0:Option α}{o1:α->Option γ}{o2:α->γ->Option δ}{p:α->γ->δ->Bool}{x:α->γ->δ->β}{r:β}{Q:Prop}(h:(do let a <-o0;let b <-o1 a;let d <-o2 a b;if p a b d then some (x a b d)else none)=some r)(k:∀a b d,o0=some a->o1 a=some b->o2 a b=some d->p a b d=true->x a b d=r->Q):Q:=
  oS h λa h0 h=>oS h λb h1 h=>oS h λd h2 h=>oI h (k a b d h0 h1 h2)
theorem oC4{β α γ δ ε:Type}{o0:Option α}{o1:α->Option γ}{o2:α->γ->Option δ}{o3:α->γ->δ->Option ε}{p:α->γ->δ->ε->Bool}{x:α->γ->δ->ε->β}{r:β}{Q:Prop}(h:(do let a <-o0;let b <-o1 a;let d <-o2 a b;let e <-o3 a b d;if p a b d e then some (x a b d e)else none)=some r)(k:∀a b d e,o0=some a->o1 a=some b->o2 a b=some d->o3 a b d=some e->p a b d e=true->x a b d e=r->Q):Q:=
  oS h λa h0 h=>oS h λb h1 h=>oS h λd h2 h=>oS h λe h3 h=>oI h (k a b d e h0 h1 h2 h3)
theorem oK1{β α:Type}{o0:Option α}{x:α->β}{r:β}{Q:Prop}(h:(do let a <-o0;some (x a))=some r)(k:∀a,o0=some a->x a=r->Q):Q:=
  oS h λa h0 h=>k a h0 (bB h)
theorem oK2{β α γ:Type}{o0:Option α}{o1:α->Option γ}{x:α->γ->β}{r:β}{Q:Prop}(h:(do let a <-o0;let b <-o1 a;some (x a b))=some r)(k:∀a b,o0=some a->o1 a=some b->x a b=r->Q):Q:=
  oS h λa h0 h=>oS h λb h1 h=>k a b h0 h1 (bB h)
theorem oK3{β α γ δ:Type}{o0:Option α}{o1:α->Option γ}{o2:α->γ->Option δ}{x:α->γ->δ->β}{r:β}{Q:Prop}(h:(do let a <-o0;let b <-o1 a;let d <-o2 a b;some (x a b d))=some r)(k:∀a b d,o0=some a->o1 a=some b->o2 a b=some d->x a b d=r->Q):Q:=
  oS h λa h0 h=>oS h λb h1 h=>oS h λd h2 h=>k a b d h0 h1 h2 (bB h)
end EV

namespace EV
open PySem PySem.Spec PyProof.Rows L2
structure Gc where
 K:az
 fnA:Str->Option Addr
 clA:Str->Option Addr
def i9(H:Hp)(dx:Option Addr)(fs:List (Str×Int)):Prop:=(fs=[]/\dx=none)\/∃d,dx=some d/\H d=some (.xd (fs.map λy=>(y.1,V.int y.2)))
theorem i9.mono{H H':Hp}{dx:Option Addr}{fs:List (Str×Int)}(e:qf H H')(h:i9 H dx fs):i9 H' dx fs:=by
 rcases h with h|⟨d,h1,h2⟩
 ·exact .inl h
 ·exact .inr ⟨d,h1,e _ _ h2⟩
def fj(H H':Hp)(dx:Option Addr)(fs:List (Str×Int)):Prop:=(fs=[]/\dx=none)\/∃d,dx=some d/\H d=none/\H' d=some (.xd (fs.map λy=>(y.1,V.int y.2)))
theorem fj.low{H H1 H':Hp}{dx:Option Addr}{fs:List (Str×Int)}(e:qf H H1)(h:fj H1 H' dx fs):fj H H' dx fs:=by
 rcases h with h|⟨d,h1,h2,h3⟩
 ·exact .inl h
 ·exact .inr ⟨d,h1,e.free h2,h3⟩
mutual
inductive Rep(g:Gc)(H:Hp):D->V->Prop
 |non:Rep g H .non .non
 |bl (b:Bool):Rep g H (.bl b) (.bl b)
 |int (i:Int):Rep g H (.int i) (.int i)
 |str (x:Str):Rep g H (.str x) (.str x)
 |tup {a:Addr}{xs:List V}{ds:List D}:SqT g.K H a xs->qq g H ds xs->Rep g H (.tup ds) (.ref a)
 |lst {a:Addr}{xs:List V}{ds:List D}:SqL g.K H a xs->qq g H ds xs->Rep g H (.lst ds) (.ref a)
 |fn {x:Str}{a:Addr}:g.fnA x=some a->Rep g H (.fn x) (.ref a)
 |exn {c:Xc}{a C:Addr}{dx:Option Addr}:g.clA c.nm=some C->H a=some (hV a (.ref C) dx)->i9 H dx c.fs->dx≠some a->Rep g H (.exn c) (.ref a)
 |dic {a:Addr}:H a=some (.dK [])->Rep g H .dic (.ref a)
inductive qq(g:Gc)(H:Hp):List D->List V->Prop
 |nil:qq g H [] []
 |cons {d:D}{ds:List D}{x:V}{xs:List V}:Rep g H d x->qq g H ds xs->qq g H (d::ds) (x::xs)
end
theorem zu{K:az}{H H':Hp}{a:Addr}{xs:List V}(e:qf H H')(h:SqT K H a xs):SqT K H' a xs:=by
 rcases h with (h|⟨o,h⟩)|h
 ·exact .inl (.inl (e _ _ h))
 ·exact .inl (.inr ⟨o,e _ _ h⟩)
 ·exact .inr h
section
variable{g:Gc}{H H':Hp}
theorem sY{a b:Bool}(h:(a&&b)=true):a=true/\b=true:=by rw[aL]at h;exact h
theorem Rep.mono(e:qf H H'){d:D}{v:V}(h:Rep g H d v):Rep g H' d v:=
 h.rec (motive_1:=λd v _=>Rep g H' d v) (motive_2:=λd v _=>qq g H' d v) .non .bl .int .str (λq _ r=>.tup (zu e q) r) (λq _ r=>.lst (e.seq q) r) .fn (λq r z n=>.exn q (e _ _ r) (z.mono e) n) (λq=>.dic (e _ _ q)) .nil (λ_ _ a b=>.cons a b)
theorem qq.mono(e:qf H H'){d:List D}{v:List V}(h:qq g H d v):qq g H' d v:=
 h.rec (motive_1:=λd v _=>Rep g H' d v) (motive_2:=λd v _=>qq g H' d v) .non .bl .int .str (λq _ r=>.tup (zu e q) r) (λq _ r=>.lst (e.seq q) r) .fn (λq r z n=>.exn q (e _ _ r) (z.mono e) n) (λq=>.dic (e _ _ q)) .nil (λ_ _ a b=>.cons a b)
theorem qq.length{ds:List D}:∀{vs:List V},qq g H ds vs->ds.length=vs.length:=by
 induction ds with
 |nil=>intro vs h;cases h;rfl
 |cons d ds ih=>intro vs h;cases h with|cons _ r=>exact congrArg (· + 1) (ih r)
theorem qq.get{ds:List D}:∀{vs:List V}{i:Nat}{d:D},qq g H ds vs->ds[i]? = some d->∃v,vs[i]? = some v/\Rep g H d v:=by
 induction ds with
 |nil=>intro vs i d h e;cases e
 |cons d ds ih=>
  intro vs i d' h e;cases h with
  |cons h t=>cases i with
   |zero=>cases e;exact⟨_,rfl,h⟩
   |succ i=>exact ih (i:=i) t e
theorem qq.append{ds:List D}:∀{es:List D}{vs us:List V},qq g H ds vs->qq g H es us->qq g H (ds++es) (vs++us):=by
 induction ds with
 |nil=>intro es vs us h s;cases h;exact s
 |cons d ds ih=>intro es vs us h s;cases h with|cons r t=>exact .cons r (ih t s)
theorem qq.take{ds:List D}:∀{vs:List V} (n:Nat),qq g H ds vs->qq g H (ds.take n) (vs.take n):=by
 induction ds with
 |nil=>intro vs n h;cases h;cases n<;>exact .nil
 |cons d ds ih=>intro vs n h;cases h with|cons r t=>cases n with
  |zero=>exact .nil
  |succ n=>exact .cons r (ih n t)
theorem qq.drop{ds:List D}:∀{vs:List V} (n:Nat),qq g H ds vs->qq g H (ds.drop n) (vs.drop n):=by
 induction ds with
 |nil=>intro vs n h;cases h;cases n<;>exact .nil
 |cons d ds ih=>intro vs n h;cases n with
  |zero=>exact h
  |succ n=>cases h with|cons r t=>exact ih n t
theorem qq.set{d:D}{v:V}(r:Rep g H d v){ds:List D}:∀{vs:List V} (i:Nat),qq g H ds vs->qq g H (ds.set i d) (vs.set i v):=by
 induction ds with
 |nil=>intro vs i h;cases h;exact .nil
 |cons d' ds ih=>intro vs i h;cases h with|cons q t=>cases i with
  |zero=>exact .cons r t
  |succ i=>exact .cons q (ih i t)
theorem qq.ints{ds:List D}:∀{vs:List V}{ns:List Int},qq g H ds vs->ints? ds=some ns->vs=ns.map V.int/\ds=ns.map D.int:=by
 induction ds with
 |nil=>intro vs ns h e;cases h;cases e;exact⟨rfl,rfl⟩
 |cons d ds ih=>
  intro vs ns h e;cases h with
  |cons h t=>cases d with
   |int i=>
    obtain⟨ms,e1,rfl⟩:=bI.mp (show (ints? ds).map (i :: ·)=some ns from e);obtain⟨h1,h2⟩:=ih t e1;cases h;exact⟨by rw[h1];rfl,by rw[h2];rfl⟩
   |_=>cases (show none=some ns from e)
theorem qq.bools{ds:List D}:∀{vs:List V}{ns:List Bool},qq g H ds vs->bools? ds=some ns->vs=ns.map V.bl:=by
 induction ds with
 |nil=>intro vs ns h e;cases h;cases e;rfl
 |cons d ds ih=>
  intro vs ns h e;cases h with
  |cons h t=>cases d with
   |bl i=>
    obtain⟨ms,e1,rfl⟩:=bI.mp (show (bools? ds).map (i :: ·)=some ns from e);have h1:=ih t e1;cases h;rw[h1];rfl
   |_=>cases (show none=some ns from e)
theorem qq.ofInts:∀(ns:List Int),qq g H (ns.map D.int) (ns.map V.int)
 | []=>.nil
 |i::r=>.cons (.int i) (qq.ofInts r)
end
structure Sh where
 o:Addr->Bool
 h:Addr->Bool
 z:L2.St
 y:Hp
noncomputable def hid(H:Hp)(S:Sh):Hp:=λb=>if S.h b=true then none else H b
noncomputable def cR(S:Sh)(a:Addr):Sh:=⟨S.o,λb=>S.h b||b==a,S.z,S.y⟩
theorem bW{H:Hp}{S:Sh}{b:Addr}{o:HO}:hid H S b=some o↔S.h b=false/\H b=some o:=by
 unfold hid;cases h:S.h b<;>simp
theorem zz{H:Hp}{S:Sh}:qf (hid H S) H:=λ_ _ h=>(bW.mp h).2
theorem qZ{H H':Hp}{S:Sh}(e:qf H H'):qf (hid H S) (hid H' S):=λb o h=>bW.mpr ⟨(bW.mp h).1,e _ _ (bW.mp h).2⟩
def Sub(S:Sh)(H:Hp):Prop:=∀a,(S.h a=true\/S.o a=true)->H a≠none
theorem Sub.same{S:Sh}{H H':Hp}(h:Sub S H)(e:qf H H'):Sub S H':=λa s n=>by
 cases q:H a with
 |none=>exact h a s q
 |some o=>rw[e _ _ q]at n;cases n
theorem Sub.free{S:Sh}{H:Hp}(h:Sub S H){p:Addr}(n:H p=none):S.h p=false:=by
 cases q:S.h p with
 |false=>rfl
 |true=>exact absurd n (h p (.inl q))
theorem Sub.freeO{S:Sh}{H:Hp}(h:Sub S H){p:Addr}(n:H p=none):S.o p=false:=by
 cases q:S.o p with
 |false=>rfl
 |true=>exact absurd n (h p (.inr q))
theorem qY{H:Hp}{p:Addr}{o:HO}(n:H p=none):qf H (upd H p o):=λb u h=>by
 rw[qg (λz=>by rw[z,n]at h;cases h)];exact h
theorem mD{H:Hp}{S:Sh}{p:Addr}{o:HO}(hs:Sub S H)(n:H p=none):hid (upd H p o) S p=some o:=bW.mpr ⟨hs.free n,zo⟩
theorem kD{H:Hp}{S:Sh}{p:Addr}{o:HO}(n:H p=none):qf (hid H S) (hid (upd H p o) (cR S p)):=λb u h=>by
 obtain⟨h1,h2⟩:=bW.mp h;have hb:b≠p:=λz=>by rw[z,n]at h2;cases h2
 refine bW.mpr ⟨?_,by rw[qg hb];exact h2⟩;show (S.h b||b==p)=false;rw[h1]
 simpa using hb
theorem tP{H:Hp}{S:Sh}{p:Addr}:qf (hid H (cR S p)) (hid H S):=λb u h=>by
 obtain⟨h1,h2⟩:=bW.mp h;refine bW.mpr ⟨?_,h2⟩;have h1:(S.h b||b==p)=false:=h1;simp at h1;exact h1.1
def zw(g:Gc)(H:Hp)(S:Sh)(d:D)(v:V):Prop:=
 Rep g (hid H S) d v\/∃a vs ds,S.o a=true/\v=.ref a/\d=.lst ds/\H a=some (.lst vs)/\qq g (hid H S) ds vs
def Fr(g:Gc)(H0:Hp)(S:Sh)(H:Hp)(d:D)(v:V):Prop:=
 ∃a vs ds,v=.ref a/\d=.lst ds/\H0 a=none/\H a=some (.lst vs)/\qq g (hid H (cR S a)) ds vs
section
variable{g:Gc}{H H' H0:Hp}{S:Sh}{d:D}{v:V}
theorem zw.mono(e:qf H H')(h:zw g H S d v):zw g H' S d v:=by
 rcases h with h|⟨a,vs,ds,h1,h2,h3,h4,h5⟩
 ·exact .inl (h.mono (qZ e))
 ·exact .inr ⟨a,vs,ds,h1,h2,h3,e _ _ h4,h5.mono (qZ e)⟩
theorem zw.rep(h:zw g H S d v):Rep g H d v:=by
 rcases h with h|⟨a,vs,ds,h1,rfl,rfl,h4,h5⟩
 ·exact h.mono zz
 ·exact .lst (SqL.of h4) (h5.mono zz)
theorem zw.lst{ds:List D}(h:zw g H S (.lst ds) v):∃a vs,v=.ref a/\SqL g.K H a vs/\qq g (hid H S) ds vs:=by
 rcases h with h|⟨a,vs,Je,h1,rfl,h3,h4,h5⟩
 ·cases h with
  |lst h r=>exact⟨_,_,rfl,zz.seq h,r⟩
 ·cases h3;exact⟨a,vs,rfl,SqL.of h4,h5⟩
theorem zw.strong(h:zw g H S d v)(n:∀ds,d≠.lst ds):Rep g (hid H S) d v:=by
 rcases h with h|⟨a,vs,Je,h1,rfl,h3,h4,h5⟩
 ·exact h
 ·exact absurd h3 (n _)
theorem zw.tup{ds:List D}(h:zw g H S (.tup ds) v):∃a vs,v=.ref a/\SqT g.K H a vs/\qq g (hid H S) ds vs:=by
 cases h.strong (by intro _ z;cases z)with
 |tup h2 r=>exact⟨_,_,rfl,zu zz h2,r⟩
theorem zw.seq{ds:List D}(h:zw g H S d v)(e:seq? d=some ds):∃a vs,v=.ref a/\(SqL g.K H a vs\/SqT g.K H a vs)/\qq g (hid H S) ds vs:=by
 cases d with
 |tup xs=>cases e;obtain⟨a,vs,h1,h2,h3⟩:=h.tup;exact⟨a,vs,h1,.inr h2,h3⟩
 |lst xs=>cases e;obtain⟨a,vs,h1,h2,h3⟩:=h.lst;exact⟨a,vs,h1,.inl h2,h3⟩
 |_=>cases e
theorem zw.int{i:Int}(h:zw g H S (.int i) v):v=.int i:=by cases h.strong (by intro _ z;cases z);rfl
theorem zw.bl{b:Bool}(h:zw g H S (.bl b) v):v=.bl b:=by cases h.strong (by intro _ z;cases z);rfl
theorem gk{ds:List D}{vs:List V}{p:Addr}(hs:Sub S H)(n:H p=none)(r:qq g (hid H S) ds vs):Rep g (hid (upd H p (.tup vs)) S) (.tup ds) (.ref p):=
 .tup (SqT.of (mD hs n)) (r.mono (qZ (qY n)))
theorem gq{ds:List D}{vs:List V}{p:Addr}(hs:Sub S H)(n:H p=none)(r:qq g (hid H S) ds vs):Rep g (hid (upd H p (.lst vs)) S) (.lst ds) (.ref p):=
 .lst (SqL.of (mD hs n)) (r.mono (qZ (qY n)))
theorem iE{ds:List D}{vs:List V}{p:Addr}(e:qf H0 H)(n:H p=none)(r:qq g (hid H S) ds vs):Fr g H0 S (upd H p (.lst vs)) (.lst ds) (.ref p):=
 ⟨p,vs,ds,rfl,rfl,e.free n,zo,r.mono (kD n)⟩
end
end EV
namespace HT
open PySem PySem.Spec PyProof.Rows L2
section
variable{prog:aF}{w:aB}{A:aG}{E:ae->af->Prop}{s:af}
end
end HT
namespace L2
open PySem PySem.Spec PyProof.Rows
variable{X:Cx}
section
variable{X:Cx}
end
end L2
namespace EV
open PySem PySem.Spec PySem.P PyProof.Rows L2
mutual
theorem m_:∀{d:D},d.plain=true->d.py.canLay0=true
 | .non,_ | .bl _,_ | .int _,_=>rfl
 | .str x,h=>h
 | .tup xs,h=>by exact lA (h)
 | .lst xs,h=>by exact lA (h)
 | .fn _,h | .exn _,h | .dic,h=>nomatch h
theorem lA:∀{ds:List D},plainAll ds=true->PyData.canLayAll0 (pys ds)=true
 | [],_=>by simp[pys,PyData.canLayAll0]
 |x::xs,h=>by
  simp only[plainAll,aL]at h;simp only[pys,PyData.canLayAll0,aL];exact⟨m_ h.1,lA h.2⟩
end
mutual
theorem r8:∀(d:D),d.py.depth=d.deep
 | .non | .bl _ | .int _ | .str _ | .fn _ | .exn _ | .dic=>rfl
 | .tup xs=>congrArg (· + 1) (lQ xs)
 | .lst xs=>congrArg (· + 1) (lQ xs)
theorem lQ:∀(ds:List D),PyData.depthAll (pys ds)=fR ds
 | []=>rfl
 |x::xs=>by simp only[pys,PyData.depthAll,fR];rw[r8 x,lQ xs]
end
mutual
theorem mE:∀(a b:D),a.plain=true->b.plain=true->PyData.eqv a.py b.py=a.eqv b
 | .tup xs,.tup ys,h,h'=>by exact ly xs ys (h) (h')
 | .lst xs,.lst ys,h,h'=>by exact ly xs ys (h) (h')
 | .fn _,_,h,_=>nomatch h
 | .exn _,_,h,_=>nomatch h
 | .dic,_,h,_=>nomatch h
 | .non,b,_,h' | .bl _,b,_,h' | .int _,b,_,h' | .str _,b,_,h'=>by cases b<;>first|rfl|exact Bool.noConfusion h'|simp[D.py,PyData.eqv,D.plain]at h' ⊢
 | .tup _,.non,_,_ | .tup _,.bl _,_,_ | .tup _,.int _,_,_ | .tup _,.str _,_,_ | .tup _,.lst _,_,_=>by simp[D.py,PyData.eqv,D.eqv]
 | .lst _,.non,_,_ | .lst _,.bl _,_,_ | .lst _,.int _,_,_ | .lst _,.str _,_,_ | .lst _,.tup _,_,_=>by simp[D.py,PyData.eqv,D.eqv]
 | .tup _,.fn _,_,h' | .tup _,.exn _,_,h' | .lst _,.fn _,_,h' | .lst _,.exn _,_,h' | .tup _,.dic,_,h' | .lst _,.dic,_,h'=>nomatch h'
theorem ly:∀(xs ys:List D),plainAll xs=true->plainAll ys=true->PyData.eqvAll (pys xs) (pys ys)=eqvAll xs ys
 | [],[],_,_=>rfl
 |x::xs,y::ys,h,h'=>by
  simp only[plainAll,aL]at h h';simp only[pys,PyData.eqvAll,eqvAll];rw[mE x y h.1 h'.1,ly xs ys h.2 h'.2]
 | [],_::_,_,_=>rfl
 |_::_,[],_,_=>rfl
end
theorem Rep.data{g:Gc}{H:Hp}{d:D}{v:V}(h:Rep g H d v):d.plain=true->fb g.K H v d.py:=
 h.rec (motive_1:=λd v _=>d.plain=true->fb g.K H v d.py) (motive_2:=λds vs _=>plainAll ds=true->iF g.K H vs (pys ds)) (λ_=>.non) (λb _=>.bl b) (λb _=>.int b) (λb _=>.str b) (λq _ r p=>.tup q (r p)) (λq _ r p=>.lst q (r p)) (λ_ p=>nomatch p) (λ_ _ _ _ p=>nomatch p) (λ_ p=>nomatch p) (λ_=>.nil) (λ_ _ a b p=>.cons (a (sY p).1) (b (sY p).2))
theorem ja{d:D}:d.asks=true↔d.plain=true/\d.deep<=20:=by simp[D.asks]
section
variable{X:Cx}{g:Gc}
theorem OpR.imp{f:ae->ae->Sem ae}{r r':R2}(h:OpR X f r)(i:∀x y H Q,r' x y H Q->r x y H Q):OpR X f r':=
 λpins s σ H x y v u Q I rx ry q=>h pins s σ H x y v u Q I rx ry (i _ _ _ _ q)
def DH(K:az):R2:=λx y H Q=>∃l b xs zs,x=.ref l/\y=.ref b/\SqL K H l xs/\SqL K H b zs/\xs.length+zs.length<=aR/\∀p,H p=none->Q (.ref p) (upd H p (.lst (xs++zs)))
theorem DW:OpR X (bO .Add) (DH X.K):=by
 intro pins s σ H x y v u Q I rx ry h;obtain⟨l,b,xs,zs,rfl,rfl,hH,hB,hz,q⟩:=h;cases rx;cases ry;obtain⟨its,r,pl,z⟩:=I.list hH;obtain⟨Gx,r2,OH,z2⟩:=I.list hB;have l1:=r.length;have l2:=r2.length;obtain⟨⟨cls,dd,data,sl⟩,ho,hc,n,hd⟩:=pl.isList;obtain⟨⟨IL,HW,data2,HX⟩,Hd,GX,n2,hd2⟩:=OH.isList;simp only at hc hd GX hd2;subst hc hd GX hd2;refine concat_meets ⟨_,ho,rfl⟩ ⟨_,Hd,rfl⟩ noFill_list_add seq_list_add PySem.F.slot_list_add PySem.F.entry_list_add (PySem.F.args_list_add_2 _ _) (list_addW l b its.toArray Gx.toArray n n2 dd HW sl HX (by rw[aU,aU];lia)) ⟨ho,Hd,?_⟩;have ea:its.toArray++Gx.toArray=(its++Gx).toArray:=by simp
 rw[ea];exact⟨.ref _,_,I.lnew (t':=s.toks) (r.append r2) (by rw[d_];lia),rfl,q _ I.fresh⟩
def rOp(g:Gc)(o:O2):R2:=λx y H Q=>∃S da db,Sub S H/\zw g H S da x/\zw g H S db y /\
 match op2 o da db with
 | .ok d=>∀v H',qf H H'->Rep g (hid H' S) d v->(sN da=true->Fr g H S H' d v)->Q v H'
 |_=>False
theorem fi{o:O2}(ho:o≠.add)(hm:o≠.mul){da db d:D}(h:op2 o da db=.ok d):∃i j,da=.int i/\db=.int j/\opI o i j=.ok d:=by
 unfold op2 at h;split at h
 ·exact⟨_,_,rfl,rfl,h⟩
 ·rw[if_neg (λz=>ho z.1)]at h;cases h
 ·rw[if_neg (λz=>ho z.1)]at h;cases h
 ·cases h
theorem sQ{j:Int}(h:small j=true):-(2^64)<j/\j<2^64:=by simpa[small]using h
theorem ua{n:Nat}(h:n<=SZ):n<=sizeLine:=br h (by rw[bJ];decide)
theorem log2_small{j:Int}(h1:0<j)(h2:j<1000000000000000000000000000000):j.natAbs.log2<9000:=by
 have h3:j.natAbs<2^100:=by
  have:(2:Nat)^100=1267650600228229401496703205376:=by decide +kernel
  rw[this];lia
 have:=(Nat.log2_lt (n:=j.natAbs) (k:=100) (by lia)).mpr h3;lia
theorem vU:OpR X (bO .FloorDiv) (rI (λ_ j=>0<j/\j<1000000000000000000000000000000) λi j=>.int (i/j)):=L2.opI λi j _ _ _ _ _ hc q=>by
 have h1:(0:Int)<j:=hc.1;exact floordiv_int (by lia) (by rw[Int.fdiv_eq_ediv_of_nonneg i (by lia)];exact q) (.inl (PyProof.noPylong_of_log2 (log2_small hc.1 hc.2)))
theorem xK(hK:X.K=g.K){op:Operator}{o:O2}(h:o2 op=some o):OpR X (bO op) (rOp g o):=by
 have two:∀{f:ae->ae->Sem ae}{C:Int->Int->Prop}{q:Int->Int->Int} (o:O2),OpR X f (rI C λi j=>.int (q i j))->(∀da db d,op2 o da db=.ok d->∃i j,da=.int i/\db=.int j/\C i j/\d=.int (q i j))->OpR X f (rOp g o):=λo k e=>by
  refine OpR.imp k λx y H Q ⟨S,da,db,hs,ra,rb,m⟩=>?_
  cases e1:op2 o da db with
  |ok d=>
   rw[e1]at m;obtain⟨i,j,rfl,rfl,c,rfl⟩:=e da db d e1;exact⟨i,j,ra.int,rb.int,c,m _ _ (qf.refl _) (.int _) (λz=>nomatch z)⟩
  |ex c=>rw[e1]at m;exact m.elim
  |no=>rw[e1]at m;exact m.elim
 have Io:∀{f:ae->ae->Sem ae}{q:Int->Int->Int} (o:O2),OpR X f (rI0 λi j=>.int (q i j))->(∀da db d,op2 o da db=.ok d->∃i j,da=.int i/\db=.int j/\d=.int (q i j))->OpR X f (rOp g o):=λ{f q} o k e=>
  two (C:=λ_ _=>True) (q:=q) o (OpR.imp k λx y H Q ⟨i,j,h1,h2,_,h3⟩=>⟨i,j,h1,h2,h3⟩) λda db d h=>by
   obtain⟨i,j,h1,h2,h3⟩:=e da db d h;exact⟨i,j,h1,h2,trivial,h3⟩
 cases op<;>simp only[o2,cx]at h<;>first|subst h|cases h
 ·-- Add
  refine OpR.imp (xQ.or (wX.or DW)) λx y H Q ⟨S,da,db,hs,ra,rb,m⟩=>?_
  cases da with
  |int i=>
   cases db with
   |int j=>exact .inl ⟨i,j,ra.int,rb.int,m _ _ (qf.refl _) (.int _) (λz=>nomatch z)⟩
   |_=>exact m.elim
  |tup xs=>
   cases db with
   |tup ys=>
    simp only[op2,true_and]at m;split at m
    ·rename_i e
     split at e<;>cases e
     rename_i hz
     obtain⟨a,vs,rfl,h1,r1⟩:=ra.tup;obtain⟨b,us,rfl,h2,r2⟩:=rb.tup;refine .inr (.inl ⟨a,b,vs,us,rfl,rfl,by rw[hK];exact h1,by rw[hK];exact h2,by rw[<-r1.length,<-r2.length];exact ua hz,λe=>?_,λ_ e=>?_,λ_ _ p hp=>?_⟩)
     ·subst e;cases r1;exact m _ _ (qf.refl _) (rb.strong (by intro _ z;cases z)) (λz=>nomatch z)
     ·subst e;cases r2;rw[c_]at m;exact m _ _ (qf.refl _) (ra.strong (by intro _ z;cases z)) (λz=>nomatch z)
     ·exact m _ _ (qY hp) (gk hs hp (r1.append r2)) (λz=>nomatch z)
    ·exact m.elim
   |_=>exact m.elim
  |lst xs=>
   cases db with
   |lst ys=>
    simp only[op2,true_and]at m;split at m
    ·rename_i e
     split at e<;>cases e
     rename_i hz
     obtain⟨a,vs,rfl,h1,r1⟩:=ra.lst;obtain⟨b,us,rfl,h2,r2⟩:=rb.lst;refine .inr (.inr ⟨a,b,vs,us,rfl,rfl,by rw[hK];exact h1,by rw[hK];exact h2,by rw[<-r1.length,<-r2.length];exact ua hz,λp hp=>?_⟩);exact m _ _ (qY hp) (gq hs hp (r1.append r2)) (λ_=>iE (qf.refl _) hp (r1.append r2))
    ·exact m.elim
   |_=>exact m.elim
  |_=>exact m.elim
 ·exact Io .sub BB λda db d h=>by obtain⟨i,j,rfl,rfl,h'⟩:=fi (by decide) (by decide) h;clear h;rename _=>h;cases h;exact⟨_,_,rfl,rfl,rfl⟩
 ·refine OpR.imp FG λx y H Q ⟨S,da,db,hs,ra,rb,m⟩=>?_
  cases e1:op2 .mul da db with
  |ok d=>
   rw[e1]at m;unfold op2 at e1;split at e1
   ·simp only[opI]at e1;split at e1
    ·rename_i i j hc
     cases e1;refine⟨i,j,ra.int,rb.int,?_,m _ _ (qf.refl _) (.int _) (λz=>nomatch z)⟩;rcases(by simpa using hc)with z|z
     ·exact .inl (sQ z)
     ·exact .inr (sQ z)
    ·cases e1
   ·rw[if_neg (λz=>nomatch z.1)]at e1;cases e1
   ·rw[if_neg (λz=>nomatch z.1)]at e1;cases e1
   ·cases e1
  |ex c=>rw[e1]at m;exact m.elim
  |no=>rw[e1]at m;exact m.elim
 ·exact two .mod w_ λda db d h=>by obtain⟨i,j,rfl,rfl,h'⟩:=fi (by decide) (by decide) h;clear h;rename _=>h;simp only[opI]at h;split at h<;>cases h;rename_i hc;exact⟨_,_,rfl,rfl,hc,rfl⟩
 ·exact two .pow um λda db d h=>by obtain⟨i,j,rfl,rfl,h'⟩:=fi (by decide) (by decide) h;clear h;rename _=>h;simp only[opI]at h;split at h<;>cases h;rename_i hc;exact⟨_,_,rfl,rfl,hc,rfl⟩
 ·exact two .shl v8 λda db d h=>by obtain⟨i,j,rfl,rfl,h'⟩:=fi (by decide) (by decide) h;clear h;rename _=>h;simp only[opI]at h;split at h<;>cases h;rename_i hc;exact⟨_,_,rfl,rfl,hc,rfl⟩
 ·exact two .shr A9 λda db d h=>by obtain⟨i,j,rfl,rfl,h'⟩:=fi (by decide) (by decide) h;clear h;rename _=>h;simp only[opI]at h;split at h<;>cases h;rename_i hc;exact⟨_,_,rfl,rfl,hc,rfl⟩
 ·exact Io .bor wy λda db d h=>by obtain⟨i,j,rfl,rfl,h'⟩:=fi (by decide) (by decide) h;clear h;rename _=>h;cases h;exact⟨_,_,rfl,rfl,rfl⟩
 ·exact Io .bxor Ds λda db d h=>by obtain⟨i,j,rfl,rfl,h'⟩:=fi (by decide) (by decide) h;clear h;rename _=>h;cases h;exact⟨_,_,rfl,rfl,rfl⟩
 ·exact Io .band AB λda db d h=>by obtain⟨i,j,rfl,rfl,h'⟩:=fi (by decide) (by decide) h;clear h;rename _=>h;cases h;exact⟨_,_,rfl,rfl,rfl⟩
 ·exact two .fdiv vU λda db d h=>by obtain⟨i,j,rfl,rfl,h'⟩:=fi (by decide) (by decide) h;clear h;rename _=>h;simp only[opI]at h;split at h<;>cases h;rename_i hc;exact⟨_,_,rfl,rfl,hc,rfl⟩
theorem i7(hK:X.K=g.K){pins:List (Addr×Obj)}{σ:L2.St}{H:Hp}{s:af}(I:Inv X pins σ H s){d:D}{v:V}{u:ae}(r:Rep g H d v)(a:d.asks=true)(ru:RelV v u):∃as,Reads s.heap u d.py as/\d.py.canLay0=true/\d.py.depth<=20:=by
 obtain⟨h1,h2⟩:=ja.mp a;have h:=r.data h1;rw[<-hK]at h;obtain⟨as,q⟩:=I.reads h ru;exact⟨as,q,m_ h1,by rw[r8];exact h2⟩
theorem sI:∀(a b:List Int),dA a b=HT.lexLt a b
 | [],[]=>by simp[dA,HT.lexLt]
 | [],_::_=>by simp[dA,HT.lexLt]
 |_::_,[]=>by simp[dA,HT.lexLt]
 |a::r,b::t=>by
  simp only[dA,HT.lexLt];rw[sI r t]
  try (by_cases h:a=b<;>simp[h])
def rCm(g:Gc)(c:C2):R2:=λx y H Q=>∃S da db,zw g H S da x/\zw g H S db y /\
 match qh c da db with
 | .ok b=>Q (.bl b) H
 |_=>False
open Classical in
noncomputable def eV(h:Heap)(q:PyData)(u:ae):Bool:=if e:∃d as,Reads h u d as then PyData.eqv e.choose q else false
theorem oF{h:Heap}{q d:PyData}{u:ae}{as:List Addr}(r:Reads h u d as):eV h q u=PyData.eqv d q:=by
 have e:∃d as,Reads h u d as:=⟨d,as,r⟩
 unfold eV;rw[dif_pos e];obtain⟨bs,r'⟩:=e.choose_spec;rw[(PySem.Reads.unique r' d as r).1]
theorem any_eq(hK:X.K=g.K){pins:List (Addr×Obj)}{σ:L2.St}{H:Hp}{s:af}(I:Inv X pins σ H s){da:D}(ha:da.asks=true){ds:List D}:∀{vs:List V}{us:List ae},qq g H ds vs->Vals vs us->ds.all D.asks=true ->
  us.any (eV s.heap da.py)=inD da ds/\∀u∈us,∃d as,Reads s.heap u d as/\d.canLay0=true/\d.depth<=20:=by
 induction ds with
 |nil=>intro vs us h r _;cases h;cases r;exact⟨rfl,λu h=>nomatch h⟩
 |cons d ds ih=>
  intro vs us h q e;cases h with
  |cons h r=>cases q with
   |cons q t=>
    rw[List.all_cons,aL]at e;obtain⟨as,h1,h2,h3⟩:=i7 hK I h e.1 q;obtain⟨i1,i2⟩:=ih r t e.2;refine⟨?_,λu hu=>?_⟩
    ·rw[List.any_cons,i1,oF h1,mE _ _ (ja.mp e.1).1 (ja.mp ha).1]
     rfl
    ·rcases aP.mp hu with rfl|hu
     ·exact⟨_,as,h1,h2,h3⟩
     ·exact i2 u hu
theorem FD{A:aG}{s:af}{u v:ae}{d:PyData}{as:List Addr}{q:PyData}{bs:List Addr}(hu:A.units+60<cLine)(r:Reads s.heap u d as)(r':Reads s.heap v q bs)(h1:d.canLay0=true)(h2:q.canLay0=true)(h3:d.depth<=20):SeqAt.EqAt A.in1 s u v (eV s.heap q u):=by
 rw[oF r];refine SeqAt.eqAt_reads d q A.in1 s u v as bs r r' h1 h2 ?_;have:min d.depth q.depth<=d.depth:=Nat.min_le_left _ _;show A.units+1+_<_;lia
theorem sC(hK:X.K=g.K)(hu:X.A.units+64<cLine)(neg:Bool):OpR X (bh (if neg then .NotIn else .In)) (λx y H Q=>∃S da db ds,zw g H S da x/\zw g H S db y/\seq? db=some ds/\da.asks=true/\ds.all D.asks=true/\Q (.bl (if neg then !inD da ds else inD da ds)) H):=by
 intro pins s σ H x y v u Q I rx ry h;obtain⟨S,da,db,ds,ra,rb,es,aa,ad,q⟩:=h;obtain⟨as,h1,h2,h3⟩:=i7 hK I ra.rep aa rx;obtain⟨a,vs,rfl,J2,rr⟩:=rb.seq es;cases ry;have go:∀{its:List ae},Vals vs its->(∀w∈its.toArray,SeqAt.EqAt X.A.in1 s w v (eV s.heap da.py w))/\its.toArray.any (eV s.heap da.py)=inD da ds:=λ{its} rv=>by
  obtain⟨i1,i2⟩:=any_eq hK I aa (rr.mono zz) rv ad;refine⟨λw hw=>?_,by simpa using i1⟩;obtain⟨d,bs,r1,r2,r3⟩:=i2 w (by simpa using hw);exact FD (Nat.lt_of_le_of_lt (Nat.add_le_add_left (by decide) _) hu) r1 h1 r2 h2 r3
 rcases J2 with J2|J2
 ·obtain⟨its,rv,pl,_⟩:=I.list (by rw[hK];exact J2);obtain⟨g1,g2⟩:=go rv;cases neg with
  |false=>exact SeqAt.in_listAt (eV s.heap da.py) pl.isList g1 ⟨.bl _,H,I,rfl,by rw[g2];exact q⟩
  |true=>exact SeqAt.notIn_listAt (eV s.heap da.py) pl.isList g1 ⟨.bl _,H,I,rfl,by rw[g2];exact q⟩
 ·obtain⟨its,rv,pl,_⟩:=I.tuple (by rw[hK];exact J2);obtain⟨g1,g2⟩:=go rv;cases neg with
  |false=>exact SeqAt.in_tupleAt (eV s.heap da.py) pl g1 ⟨.bl _,H,I,rfl,by rw[g2];exact q⟩
  |true=>exact SeqAt.notIn_tupleAt (eV s.heap da.py) pl g1 ⟨.bl _,H,I,rfl,by rw[g2];exact q⟩
theorem rD(hK:X.K=g.K)(hu:X.A.units+64<cLine)(neg:Bool):OpR X (bh (if neg then .NotEq else .Eq)) (λx y H Q=>∃S da db,zw g H S da x/\zw g H S db y/\da.asks=true/\db.asks=true/\Q (.bl (if neg then !da.eqv db else da.eqv db)) H):=by
 intro pins s σ H x y v u Q I rx ry h;obtain⟨S,da,db,ra,rb,aa,ab,q⟩:=h;obtain⟨as,h1,h2,h3⟩:=i7 hK I ra.rep aa rx;obtain⟨bs,k1,k2,k3⟩:=i7 hK I rb.rep ab ry;have e:=mE da db (ja.mp aa).1 (ja.mp ab).1;have room:X.A.units+min da.py.depth db.py.depth<cLine:=by
  have:min da.py.depth db.py.depth<=da.py.depth:=Nat.min_le_left _ _;lia
 cases neg with
 |false=>exact SeqAt.compareEq_reads h1 k1 h2 k2 room ⟨.bl _,H,I,by rw[e];rfl,q⟩
 |true=>exact SeqAt.compareNe_reads h1 k1 h2 k2 room ⟨.bl _,H,I,by rw[e];rfl,q⟩
theorem zw.non_iff{S:Sh}{H:Hp}{d:D}{v:V}(r:zw g H S d v):decide (v=.non)=fF d:=by
 cases r.rep<;>rfl
theorem ff{op:CmpOp}{c:C2}{r:R2}(h:OpR X (bh op) r)(k:∀S da db b x y H Q,zw g H S da x->zw g H S db y->qh c da db=.ok b->Q (.bl b) H->r x y H Q):OpR X (bh op) (rCm g c):=by
 refine OpR.imp h λx y H Q ⟨S,da,db,ra,rb,m⟩=>?_
 cases e:qh c da db with
 |ok b=>rw[e]at m;exact k S da db b x y H Q ra rb e m
 |ex c'=>rw[e]at m;exact m.elim
 |no=>rw[e]at m;exact m.elim
theorem E_:OpR X (bh .Is) (λx y H Q=>∃a b,x=.bl a/\y=.bl b/\Q (.bl (a==b)) H):=by
 intro pins s σ H x y v u Q I rx ry h;obtain⟨a,b,rfl,rfl,q⟩:=h;cases rx;cases ry;exact is_bool (kA I q rfl)
theorem A0:OpR X (bh .IsNot) (λx y H Q=>∃a b,x=.bl a/\y=.bl b/\Q (.bl (!(a==b))) H):=by
 intro pins s σ H x y v u Q I rx ry h;obtain⟨a,b,rfl,rfl,q⟩:=h;cases rx;cases ry;exact isnot_bool (kA I q rfl)
theorem t5{n:Bool}{a b:EV.D}{c:Bool}(h:isB n a b=.ok c):∃x y,a=.bl x/\b=.bl y/\c=(n != (x==y)):=by
 unfold isB at h;split at h
 ·cases h;exact⟨_,_,rfl,rfl,rfl⟩
 ·cases h
theorem ee(hK:X.K=g.K)(hu:X.A.units+64<cLine)(op:CmpOp):OpR X (bh op) (rCm g (c2 op)):=by
 cases op
 ·exact ff (rD hK hu false) λS da db b x y H Q ra rb e q=>by
   simp only[c2,zZ,zq,zy,zt,dW,zY,zX]at e;split at e<;>cases e
   rename_i a
   simp only[aL]at a;exact⟨S,da,db,ra,rb,a.1,a.2,q⟩
 ·exact ff (rD hK hu true) λS da db b x y H Q ra rb e q=>by
   simp only[c2,zZ,zq,zy,zt,dW,zY,zX]at e;split at e<;>cases e
   rename_i a
   simp only[aL]at a;exact⟨S,da,db,ra,rb,a.1,a.2,q⟩
 ·exact ff (Dv.or (Ep (by lia))) λS da db b x y H Q ra rb e q=>by
   simp only[c2]at e;cases da with
   |int i=>
    cases db with
    |int j=>cases e;exact .inl ⟨i,j,ra.int,rb.int,q⟩
    |_=>cases e
   |tup xs=>
    cases db with
    |tup ys=>
     simp only[zZ,zq,zy,zt,dW,zY,zX]at e;split at e
     ·rename_i ns ms e1 e2
      cases e;obtain⟨a,vs,rfl,h1,r1⟩:=ra.tup;obtain⟨b,us,rfl,h2,r2⟩:=rb.tup;obtain⟨rfl,_⟩:=r1.ints e1;obtain⟨rfl,_⟩:=r2.ints e2;exact .inr ⟨a,b,ns,ms,rfl,rfl,by rw[hK];exact h1,by rw[hK];exact h2,sI ns ms▸q⟩
     ·cases e
    |_=>cases e
   |_=>cases db<;>cases e
 ·exact ff Bg λS da db b x y H Q ra rb e q=>by
   cases da with
   |int i=>
    cases db with
    |int j=>cases e;exact⟨_,_,ra.int,rb.int,q⟩
    |_=>cases e
   |_=>cases e
 ·exact ff vD λS da db b x y H Q ra rb e q=>by
   cases da with
   |int i=>
    cases db with
    |int j=>cases e;exact⟨_,_,ra.int,rb.int,q⟩
    |_=>cases e
   |_=>cases e
 ·exact ff xF λS da db b x y H Q ra rb e q=>by
   cases da with
   |int i=>
    cases db with
    |int j=>cases e;exact⟨_,_,ra.int,rb.int,q⟩
    |_=>cases e
   |_=>cases e
 ·exact ff (uB.or E_) λS da db b x y H Q ra rb e q=>by
   simp only[c2,zZ,zq,zy,zt,dW,zY,zX]at e;split at e
   ·rename_i hd
    cases e;have hd:db=.non:=by cases db<;>first|rfl|cases hd
    subst hd;cases rb.rep;exact .inl ⟨rfl,by rw[ra.non_iff];exact q⟩
   ·obtain⟨a,c,rfl,rfl,rfl⟩:=t5 e;cases ra.rep;cases rb.rep;exact .inr ⟨a,c,rfl,rfl,by cases a<;>cases c<;>exact q⟩
 ·exact ff (CK.or A0) λS da db b x y H Q ra rb e q=>by
   simp only[c2,zZ,zq,zy,zt,dW,zY,zX]at e;split at e
   ·rename_i hd
    cases e;have hd:db=.non:=by cases db<;>first|rfl|cases hd
    subst hd;cases rb.rep;exact .inl ⟨rfl,by rw[ra.non_iff];exact q⟩
   ·obtain⟨a,c,rfl,rfl,rfl⟩:=t5 e;cases ra.rep;cases rb.rep;exact .inr ⟨a,c,rfl,rfl,by cases a<;>cases c<;>exact q⟩
 ·exact ff (sC hK hu false) λS da db b x y H Q ra rb e q=>by
   simp only[c2,zZ,zq,zy,zt,dW,zY,zX]at e;split at e
   ·rename_i xs es
    split at e<;>cases e
    rename_i a
    simp only[aL]at a;exact⟨S,da,db,xs,ra,rb,es,a.1,a.2,q⟩
   ·cases e
 ·exact ff (sC hK hu true) λS da db b x y H Q ra rb e q=>by
   simp only[c2,zZ,zq,zy,zt,dW,zY,zX]at e;split at e
   ·rename_i xs es
    split at e<;>cases e
    rename_i a
    simp only[aL]at a;exact⟨S,da,db,xs,ra,rb,es,a.1,a.2,q⟩
   ·cases e
end
abbrev eN(g:Gc)(H:Hp)(S:Sh):List D->List V->Prop:=Paired (zw g H S)
section
variable{X:Cx}{g:Gc}
theorem rH{H:Hp}{ds:List D}{vs:List V}{i:Int}{d:D}(r:qq g H ds vs)(e:atI ds i=some d):∃v,atI vs i=some v/\Rep g H d v:=by
 unfold atI at e ⊢;rw[<-r.length];cases q:ixN ds.length i with
 |none=>rw[q]at e;cases e
 |some j=>rw[q]at e;exact r.get e
def Er(g:Gc):R2:=λx y H Q=>∃S da db,zw g H S da x/\zw g H S db y /\
 match ixD da db with
 | .ok d=>∀v,Rep g (hid H S) d v->Q v H
 |_=>False
theorem wV(hK:X.K=g.K):IxR X (Er g):=by
 have k:IxR X (λx y H Q=>oE X.K x y H Q\/mR X.K x y H Q):=Cq.or wc;intro value slice pins s σ H x y v u Q I rx ry h hs;refine k value slice pins s σ H x y v u Q I rx ry ?_ hs;obtain⟨S,da,db,ra,rb,m⟩:=h;cases da with
 |tup xs=>
  cases db with
  |int i=>
   simp only[ixD]at m;cases e:atI xs i with
   |none=>rw[e]at m;exact m.elim
   |some d=>
    rw[e]at m;obtain⟨a,vs,rfl,h1,r1⟩:=ra.tup;obtain⟨w,h2,h3⟩:=rH r1 e;exact .inr ⟨a,vs,i,w,rfl,rb.int,by rw[hK];exact h1,h2,m w h3⟩
  |_=>exact m.elim
 |lst xs=>
  cases db with
  |int i=>
   simp only[ixD]at m;cases e:atI xs i with
   |none=>rw[e]at m;exact m.elim
   |some d=>
    rw[e]at m;obtain⟨a,vs,rfl,h1,r1⟩:=ra.lst;obtain⟨w,h2,h3⟩:=rH r1 e;exact .inl ⟨a,vs,i,w,rfl,rb.int,by rw[hK];exact h1,h2,m w h3⟩
  |_=>exact m.elim
 |_=>exact m.elim
def A_(g:Gc):V->Option Int->Option Int->Hp->VK->Prop:=λx lo hi H Q=>∃S da,Sub S H/\zw g H S da x /\
 match slD da lo hi with
 | .ok d=>∀v H',qf H H'->Rep g (hid H' S) d v->Q v H'
 |_=>False
theorem oA{H:Hp}{ds:List D}{vs:List V}(r:qq g H ds vs)(lo hi:Option Int):qq g H (cutD ds lo hi) (fL vs lo hi):=by
 unfold cutD fL;rw[r.length];exact(r.drop _).take _
theorem xr(hK:X.K=g.K):SlR X (A_ g):=by
 intro pins s σ H x v vl vu lo hi sl Q I rx hs pl pu h;obtain⟨S,da,hS,ra,m⟩:=h;cases da with
 |lst xs=>
  obtain⟨a,vs,rfl,h1,r1⟩:=ra.lst;exact vV pins s σ H _ v vl vu lo hi sl Q I rx hs pl pu ⟨a,vs,rfl,by rw[hK];exact h1,λp hp=>m _ _ (qY hp) (gq hS hp (oA r1 lo hi))⟩
 |tup xs=>
  obtain⟨a,vs,rfl,h1,r1⟩:=ra.tup;simp only[slD]at m;by_cases hw:HT.sIx xs.length 0 lo=0/\HT.sIx xs.length xs.length hi=xs.length
  ·have e:cutD xs lo hi=xs:=by unfold cutD;rw[hw.1,hw.2];simp
   rw[e]at m;rw[r1.length]at hw;exact Dm pins s σ H _ v vl vu lo hi sl Q I rx hs pl pu ⟨a,vs,rfl,by rw[hK];exact h1,hw.1,hw.2,m _ _ (qf.refl _) (ra.strong (by intro _ z;cases z))⟩
  ·rw[r1.length]at hw;exact C5 pins s σ H _ v vl vu lo hi sl Q I rx hs pl pu ⟨a,vs,rfl,by rw[hK];exact h1,hw,λp hp=>m _ _ (qY hp) (gk hS hp (oA r1 lo hi))⟩
 |_=>exact m.elim
noncomputable def b1V:B1->ae
 | .len=>.builtin "len"
 | .tuple=>.type "tuple"
 | .list=>.type "list"
 | .sorted=>.builtin "sorted"
 | .all=>.builtin "all"
 | .any=>.builtin "any"
 | .sum=>.builtin "sum"
 | .min=>.builtin "min"
 | .max=>.builtin "max"
 | .abs=>.builtin "abs"
 | .int=>.type "int"
 | .bool=>.type "bool"
 | .repr=>.builtin "repr"
def rB1(g:Gc)(b:B1):List V->Hp->VK->Prop:=λvs H Q=>∃S ds,Sub S H/\eN g H S ds vs /\
 match b1 b ds with
 | .ok d=>∀v H',qf H H'->Rep g (hid H' S) d v->(b=.list\/b=.sorted->Fr g H S H' d v)->Q v H'
 |_=>False
theorem za.imp{f:ae}{r r':List V->Hp->VK->Prop}(h:za X f r)(i:∀xs H Q,r' xs H Q->r xs H Q):za X f r':=
 λpins s σ H xs us Q I rv q=>h pins s σ H xs us Q I rv (i _ _ _ q)
theorem ft{f:ae}{b:B1}{r:List V->Hp->VK->Prop}(h:za X f r)
  (k:∀S ds d vs H Q,Sub S H->eN g H S ds vs->b1 b ds=.ok d->(∀v H',qf H H'->Rep g (hid H' S) d v->(b=.list\/b=.sorted->Fr g H S H' d v)->Q v H')->r vs H Q):za X f (rB1 g b):=by
 refine za.imp h λvs H Q ⟨S,ds,hs,rs,m⟩=>?_
 cases e:b1 b ds with
 |ok d=>rw[e]at m;exact k S ds d vs H Q hs rs e m
 |ex c=>rw[e]at m;exact m.elim
 |no=>rw[e]at m;exact m.elim
theorem tO{f:ae}{b:B1}(h1:∀d,b11 b d=.no)(h2:∀d e,b12 b d e=.no):za X f (rB1 g b):=λpins s σ H xs us Q I rv ⟨S,ds,hs,rs,m⟩=>by
 have e:b1 b ds=.no:=by
  unfold b1;split
  ·exact h1 _
  ·exact h2 _ _
  ·rfl
 rw[e]at m;exact m.elim
theorem iy{b:B1}(hb:∀x y,b12 b x y=.no){ds:List D}{d:D}(h:b1 b ds=.ok d):∃x,ds=[x]/\b11 b x=.ok d:=by
 match ds,h with
 | [x],h=>exact⟨x,rfl,h⟩
 | [x,y],h=>have h:b12 b x y=.ok d:=h;rw[hb]at h;cases h
 | [],h=>cases h
 |_::_::_::_,h=>cases h
theorem jx{x r:D}{k:List D->R D}(h:dt x k=.ok r):∃xs,x=.lst xs/\k xs=.ok r:=by
 cases x with
 |lst xs=>exact⟨xs,rfl,h⟩
 |_=>cases h
theorem ym{x r:D}{f:Int->R D}{q:Bool->R D}(h:ibR x f q=.ok r):(∃i,x=.int i/\f i=.ok r)\/(∃b,x=.bl b/\q b=.ok r):=by
 cases x with
 |int i=>exact .inl ⟨i,rfl,h⟩
 |bl i=>exact .inr ⟨i,rfl,h⟩
 |_=>cases h
theorem o5{x y r:D}{k:Int->Int->R D}(h:iiR x y k=.ok r):∃i j,x=.int i/\y=.int j/\k i j=.ok r:=by
 cases x with
 |int i=>
  cases y with
  |int j=>exact⟨i,j,rfl,rfl,h⟩
  |_=>cases h
 |_=>cases h
theorem iw{α β:Type}{o:Option α}{k:α->R β}{r:β}(h:b7 o k=.ok r):∃a,o=some a/\k a=.ok r:=by
 cases o with
 |some a=>exact⟨a,rfl,h⟩
 |none=>cases h
theorem k8{b:B1}{ds:List D}{d:D}{q:List D->R D}(h:b1 b ds=.ok d)(e:∀x,b1 b [x]=b7 (seq? x) q)(n:ds.length≠1->b1 b ds=.no):∃x xs,ds=[x]/\seq? x=some xs/\q xs=.ok d:=by
 match ds with
 | []=>rw[n (by simp)]at h;cases h
 | [x]=>
  rw[e]at h;cases z:seq? x with
  |none=>rw[z]at h;cases h
  |some xs=>rw[z]at h;exact⟨x,xs,rfl,z,h⟩
 |x::y::r=>rw[n (by simp)]at h;cases h
theorem DJ(hK:X.K=g.K):za X (.builtin "len") (rB1 g .len):=ft Cz λS ds d vs H Q hs rs h q=>by
 obtain⟨x,xs,rfl,e,h⟩:=k8 (q:=λxs=>.ok (.int xs.length)) h (λ_=>rfl) (λn=>by match ds,n with | [],_=>rfl | [_,_],_=>rfl|_::_::_::_,_=>rfl);cases h;cases rs with
 |cons r rs=>
  cases rs;obtain⟨a,us,rfl,h1,r1⟩:=r.seq e;exact⟨a,us,rfl,by rw[hK];exact h1,by rw[<-r1.length];exact q _ _ (qf.refl _) (.int _) (by simp)⟩
theorem Cs(hK:X.K=g.K):za X (.type "tuple") (rB1 g .tuple):=ft vI λS ds d vs H Q hs rs h q=>by
 obtain⟨x,xs,rfl,e,h⟩:=k8 (q:=λxs=>.ok (.tup xs)) h (λ_=>rfl) (λn=>by match ds,n with | [],_=>rfl | [_,_],_=>rfl|_::_::_::_,_=>rfl);cases h;cases rs with
 |cons r rs=>
  cases rs;cases x with
  |lst ys=>
   cases e;obtain⟨a,us,rfl,h1,r1⟩:=r.lst;exact⟨a,us,rfl,.inl ⟨by rw[hK];exact h1,λp hp=>q _ _ (qY hp) (gk hs hp r1) (by simp)⟩⟩
  |tup ys=>
   cases e;have z:=r.strong (by intro _ z;cases z);obtain⟨a,us,rfl,h1,r1⟩:=r.tup;exact⟨a,us,rfl,.inr ⟨by rw[hK];exact h1,q _ _ (qf.refl _) z (by simp)⟩⟩
  |_=>cases e
theorem FQ(hK:X.K=g.K):za X (.type "list") (rB1 g .list):=ft yZ λS ds d vs H Q hs rs h q=>by
 obtain⟨x,xs,rfl,e,h⟩:=k8 (q:=λxs=>.ok (.lst xs)) h (λ_=>rfl) (λn=>by match ds,n with | [],_=>rfl | [_,_],_=>rfl|_::_::_::_,_=>rfl);cases h;cases rs with
 |cons r rs=>
  cases rs;obtain⟨a,us,rfl,h1,r1⟩:=r.seq e;exact⟨a,us,rfl,by rw[hK];exact h1,λp hp=>q _ _ (qY hp) (gq hs hp r1) λ_=>iE (qf.refl _) hp r1⟩
theorem Dc(hc:X.calm=true)(al:Bool):za X (.builtin (if al then "all" else "any")) (λxs H Q=>∃(l:Addr) (bs:List Bool),xs=[.ref l]/\SqL X.K H l (bs.map V.bl)/\Q (.bl (if al then bs.all id else bs.any id)) H):=by
 intro pins s σ H xs us Q I r h;obtain⟨l,bs,rfl,hl,q⟩:=h;obtain⟨u,rfl,ru⟩:=r.one;cases ru;obtain⟨its,rv,pl,hz⟩:=I.list hl;have e:=xI (A:=X.A) rv;subst e;have Gg:l<s.heap.objs.size:=by obtain⟨_,e,_⟩:=pl.isList;exact aM e
 have tr:TruthOf X.prog X.w X.A.in1 (λi v=>(bs.map ae.bool).toArray[i]? = some v) (λi=>(bs[i]?).getD al):=λi v s' Q' E' hP hQ=>by
  have hv:(bs.map ae.bool)[i]? = some v:=by simpa using hP
  rw[List.getElem?_map]at hv;cases e:bs[i]? with
  |none=>rw[e]at hv;cases hv
  |some b=>
   rw[e]at hv;cases hv;simp only[e,Option.getD_some]at hQ;exact bP hQ
 have wk:=Walks.list (prog:=X.prog) (w:=X.w) (A:=X.A.in1) (I.ok.hd hc) s.heap.objs.size l (bg Gg) (bs.map ae.bool).toArray;cases al with
 |true=>
  refine call_all_walk (wpAny_pyIter_list pl.isList ?_);refine⟨s.heap.objs.size,[s.heap.objs.size,l],[s.heap.objs.size],_,_,_,_,rfl,wk,⟨⟨_,Heap.get?_push_size _ rfl,rfl,rfl⟩,pl.isList.push _⟩,tr,λh' tk hk=>?_⟩;have e:((aS (bs.map ae.bool).toArray.size).all λi=>(bs[i]?).getD true)=bs.all id:=by
   rw[aU,bG];exact LSm.range_all bs
  rw[e];exact⟨.bl _,H,I.kept (LSm.kept_iter hk),rfl,q⟩
 |false=>
  refine call_any_walk (wpAny_pyIter_list pl.isList ?_);refine⟨s.heap.objs.size,[s.heap.objs.size,l],[s.heap.objs.size],_,_,_,_,rfl,wk,⟨⟨_,Heap.get?_push_size _ rfl,rfl,rfl⟩,pl.isList.push _⟩,tr,λh' tk hk=>?_⟩;have e:((aS (bs.map ae.bool).toArray.size).any λi=>(bs[i]?).getD false)=bs.any id:=by
   rw[aU,bG,Bool.eq_iff_iff];simp only[b9,List.mem_range,id];constructor
   ·rintro⟨i,hi,e⟩;rw[List.getElem?_eq_getElem hi]at e;exact⟨_,cZ hi,e⟩
   ·rintro⟨b,hb,e⟩;obtain⟨i,hi,rfl⟩:=List.getElem_of_mem hb;exact⟨i,hi,by rw[List.getElem?_eq_getElem hi];exact e⟩
  rw[e];exact⟨.bl _,H,I.kept (LSm.kept_iter hk),rfl,q⟩
theorem sA(hK:X.K=g.K)(hc:X.calm=true)(al:Bool):za X (.builtin (if al then "all" else "any")) (rB1 g (if al then .all else .any)):=ft (Dc hc al) λS ds d vs H Q hs rs h q=>by
 obtain⟨xs,bs,rfl,e,rfl⟩:∃xs bs,ds=[.lst xs]/\bools? xs=some bs/\d=.bl (if al then bs.all id else bs.any id):=by
  cases al
  ·obtain⟨x,rfl,h'⟩:=iy (λ_ _=>rfl) h;obtain⟨xs,rfl,h'⟩:=jx h';obtain⟨bs,e,h'⟩:=iw h';cases h';exact⟨xs,bs,rfl,e,rfl⟩
  ·obtain⟨x,rfl,h'⟩:=iy (λ_ _=>rfl) h;obtain⟨xs,rfl,h'⟩:=jx h';obtain⟨bs,e,h'⟩:=iw h';cases h';exact⟨xs,bs,rfl,e,rfl⟩
 cases rs with
 |cons r rs=>
  cases rs;obtain⟨a,us,rfl,h1,r1⟩:=r.lst;have e2:=r1.bools e;subst e2;exact⟨a,bs,rfl,by rw[hK];exact h1,q _ _ (qf.refl _) (.bl _) (by cases al<;>simp)⟩
end
section
variable{X:Cx}{g:Gc}
theorem rp1{pins:List (Addr×Obj)}{σ:L2.St}{H:Hp}{s:af}(hK:X.K=g.K)(I:Inv X pins σ H s){d:D}{v:V}{u:ae}(r:Rep g H d v)(ru:RelV v u)(hd:d.rpOk=true) :
  ∃p as bs,Reads s.heap u p as/\p.depth<=20/\ReadAtMost s.heap p.depth bs/\ReprK X.prog X.w bs s.heap p.depth u d.rp:=by
 by_cases z:d=.dic
 ·subst z;cases r with
  |dic h=>
   cases ru
   rename_i a
   obtain⟨_,hs,vs,kv,OI⟩:=I.hok a _ h;cases kv;obtain⟨o,es,ep,h1,h2,h3,_,hp,_⟩:=OI;have he:es.toList=[]:=by
    cases e:es.toList with
    |nil=>rfl
    |cons x t=>rw[e]at hp;cases hp
   have R:Reads s.heap (.ref a) (.dict []) (a::[]++[]):=.dict h1 h2.1 h3 (by rw[he];exact .nil) (by rw[he];exact .nil);refine⟨_,_,[a],R,by simp[PyData.depth,PyData.depthKv],λb hb=>?_,?_⟩
   ·rw[List.mem_singleton.mp hb];exact⟨_,_,R,aH _⟩
   ·refine ReprK.level_le (ReprK.dict (as:=[]) (d:=0) h1 h2.1 h3 hs (by simp) (by rw[he];exact .nil)) ?_;simp[PyData.depth,PyData.depthKv]
 ·have e:(d.asks&&d.py.showable && !d.py.hasDict&&decide (d.py.shown.length<=aR))=true:=by
   cases d<;>first|exact absurd rfl z|exact hd
  simp only[aL,decide_eq_true_eq,bY]at e;obtain⟨⟨⟨e1,e2⟩,e3⟩,e4⟩:=e;obtain⟨as,h1,_,h3⟩:=i7 hK I r e1 ru;obtain⟨bs,q1,q2⟩:=ReprK.of_reads (prog:=X.prog) (w:=X.w) h1 e2 (λz=>by rw[e3]at z;cases z) e4;have:d.rp=d.py.shown:=by cases d<;>first|exact absurd rfl z|rfl
  exact⟨_,_,bs,h1,h3,q1,by rw[this];exact q2⟩
theorem pI{pins:List (Addr×Obj)}{σ:L2.St}{H:Hp}{s:af}(hK:X.K=g.K)(I:Inv X pins σ H s):∀{ds:List D}{vs:List V}{us:List ae},qq g H ds vs->Vals vs us->ds.all D.rpOk=true ->
  ∃ps as bs,ReadsAll s.heap us ps as/\PyData.depthAll ps<=20/\ReadAtMost s.heap (PyData.depthAll ps) bs/\(ds.map D.rp).length=us.length/\∀(i:Nat) (y:ae),us[i]? = some y->∃t,(ds.map D.rp)[i]? = some t/\ReprK X.prog X.w bs s.heap (PyData.depthAll ps) y t
 |_,_,_,.nil,.nil,_=>⟨[],[],[],.nil,by simp[PyData.depthAll],λb hb=>by simp at hb,rfl,λi y h=>by simp at h⟩
 |d::ds,_,_,.cons r rs,.cons q t,e=>by
  simp only[List.all_cons,aL]at e;obtain⟨p,as,bs,h1,h2,h3,h4⟩:=rp1 hK I r q e.1;obtain⟨ps,IC,OJ,k1,k2,k3,k4,k5⟩:=pI hK I rs t e.2;have m1:p.depth<=PyData.depthAll (p::ps):=by simp only[PyData.depthAll];exact Nat.le_max_left _ _
  have m2:PyData.depthAll ps<=PyData.depthAll (p::ps):=by simp only[PyData.depthAll];exact Nat.le_max_right _ _
  refine⟨p::ps,_,bs++OJ,.cons h1 k1,by simp only[PyData.depthAll];exact Nat.max_le.mpr ⟨h2,k2⟩,(h3.mono m1).append (k3.mono m2),by simpa using k4,λi y hy=>?_⟩;cases i with
  |zero=>
   simp only[List.getElem?_cons_zero,cx]at hy;subst hy;exact⟨_,rfl,(h4.more λb hb=>List.mem_append_left _ hb).level_le m1⟩
  |succ i=>
   simp only[List.getElem?_cons_succ]at hy;obtain⟨t,z1,z2⟩:=k5 i y hy;exact⟨t,by simpa using z1,(z2.more λb hb=>cq _ hb).level_le m2⟩
theorem Ad(hK:X.K=g.K)(hu:X.A.units+64<cLine)(hg:X.A.guards=some []):za X (.builtin "repr") (rB1 g .repr):=by
 intro pins s σ H xs us Q I rv h;obtain⟨S,ds,hs,rs,m⟩:=h;cases e:b1 .repr ds with
 |ex c=>rw[e]at m;exact m.elim
 |no=>rw[e]at m;exact m.elim
 |ok d=>
  rw[e]at m;obtain⟨x,rfl,h'⟩:=iy (λ_ _=>rfl) e;have h':gJ x=.ok d:=h';unfold gJ at h';split at h'
  ·rename_i x0 Je
   split at h'
   ·rename_i c
    cases h';obtain⟨c1,c2⟩:=c;cases rs with
    |cons r rs=>
     cases rs;obtain⟨a,vs,rfl,h1,r1⟩:=r.lst;obtain⟨u,rfl,ru⟩:=rv.one;cases ru;obtain⟨its,OK,pl,_⟩:=I.list (by rw[hK];exact h1);obtain⟨ps,as,bs,q1,q2,q3,q4,q5⟩:=pI hK I (r1.mono zz) OK c1;obtain⟨o,ho,hc,n,hd⟩:=pl.isList;have R:Reads s.heap (.ref a) (.list ps) (a::as):=.list ho hc hd (by simpa using q1);have na:a∉bs:=λhb=>by
      obtain⟨d',IC,z1,z2⟩:=q3 a hb;have:=(R.unique _ _ z1).1;rw[<-this]at z2;simp only[PyData.depth]at z2;exact absurd z2 (by lia)
     refine call_repr_slot (by lia) ⟨o,ho,hc⟩ F.slot_list_repr.toG ?_;cases its with
     |nil=>simp at q4
     |cons y l=>
      refine call_list_reprK (as:=bs) ho hc hd na (by simpa using q4) (λi y hy=>q5 i y (by simpa using hy)) (g:=[]) hg (λb _ id v rest kw hm=>by simp at hm) (by show X.A.units+1+_<_;lia) (λb o z=>z) (λh' u tk k=>?_) c2;exact⟨_,u,rfl,.str _,H,I.kept k,⟨_,rfl⟩,m _ _ (qf.refl _) (.str _) (by simp)⟩
   ·cases h'
  ·cases h'
end
end EV
namespace TS
open PySem PyProof.Rows
noncomputable def oX:Bool->aq->Array aq->Nat->Nat->Nat->StateT aK Sem (Option Nat):=sortPriv% PySem.Builtin.gallop
noncomputable def p6:Array aq->Array aq->StateT aK Sem (Array aq):=sortPriv% PySem.Builtin.mergeLo
noncomputable def oQ:Array aq->Array aq->StateT aK Sem (Array aq):=sortPriv% PySem.Builtin.mergeHi
theorem pr5{A1 A2 A3 A4 A5:Type}{F:A1×A2×A3×A4×A5->Prop}(h:∀x1 x2 x3 x4 x5,F (x1,x2,x3,x4,x5)):∀c,F c:=λ⟨x1,x2,x3,x4,x5⟩=>h x1 x2 x3 x4 x5
theorem pr6{A1 A2 A3 A4 A5 A6:Type}{F:A1×A2×A3×A4×A5×A6->Prop}(h:∀x1 x2 x3 x4 x5 x6,F (x1,x2,x3,x4,x5,x6)):∀c,F c:=λ⟨x1,x2,x3,x4,x5,x6⟩=>h x1 x2 x3 x4 x5 x6
theorem pr7{A1 A2 A3 A4 A5 A6 A7:Type}{F:A1×A2×A3×A4×A5×A6×A7->Prop}(h:∀x1 x2 x3 x4 x5 x6 x7,F (x1,x2,x3,x4,x5,x6,x7)):∀c,F c:=λ⟨x1,x2,x3,x4,x5,x6,x7⟩=>h x1 x2 x3 x4 x5 x6 x7
theorem exE{α:Type}{P:α->Prop}{C:Prop}(h:∀a,P a->C)(x:∃a,P a):C:=h _ x.choose_spec
theorem wpI{M:Model}{A:aG}{E:ae->af->Prop}{s:af}{α σ:Type}{c:Prop}{i:Decidable c}{x y:StateT σ Sem α}{Q:α->σ->Prop}{st:σ}(h:c->wpS M A E s x Q st)(k:¬ c->wpS M A E s y Q st):wpS M A E s (if c then x else y) Q st:=by
 split
 ·exact h ‹_›
 ·exact k ‹_›
theorem stE{M:Model}{A:aG}{E:ae->af->Prop}{s:af}{α σ:Type}{m:StateT σ Sem α}{Q:α->σ->Prop}{st st':σ}(h:st'=st)(k:wpS M A E s m Q st):wpS M A E s m Q st':=h▸k
structure Cmp(prog:aF)(w:aB)(A:aG)(s:af)(κ:SortKind)(D:aq->Prop)(LT:aq->aq->Bool):Prop where
 lt:∀x y,D x->D y->∀Q:Bool->af->Prop,Q (LT x y) s->ak (ao prog w) A (keyLt' κ x.1 y.1) Q (λ_ _=>False) s
 asym:∀x y,LT x y=true->LT y x=false
 neg:∀x y z,LT y x=false->LT z y=false->LT z x=false
section
variable{prog:aF}{w:aB}{A:aG}{E:ae->af->Prop}{s:af}{κ:SortKind}{D:aq->Prop}{LT:aq->aq->Bool}
theorem zc{arr:Array aq}{i:Nat}{x:aq}{Q:aq->aK->Prop}{st:aK}(hx:arr[i]? = some x)(h:Q x st):wpS (ao prog w) A E s (elem' arr i) Q st:=by
 rw[elem'_eq,hx];exact av h
theorem i3(C:Cmp prog w A s κ D LT){x y:aq}(hx:D x)(hy:D y){Q:Option Bool->aK->Prop}{st:aK}(hk:kindOf st=κ)(h:Q (some (LT x y)) st):wpS (ao prog w) A E s (lt' x y) Q st:=by
 rw[lt'_eq];refine au (wpS_get ?_);rw[hk];refine au (wpS_lift (wpAny_attempt (bK (C.lt x y hx hy (λb s'=>s'=s/\b=LT x y) ⟨rfl,rfl⟩) (λb s' hb=>?_) λ_ _ z=>z.elim)));obtain⟨rfl,rfl⟩:=hb;exact⟨rfl,av h⟩
noncomputable def bey(LT:aq->aq->Bool)(left:Bool)(key:aq)(x:aq):Bool:=if left then LT x key else !LT key x
theorem iz(C:Cmp prog w A s κ D LT){left:Bool}{key:aq}{arr:Array aq}{base n hint:Nat}{Q:Option Nat->aK->Prop}{st:aK}(hk:kindOf st=κ)(Ie:D key)(it:Nat->aq)(ha:∀i,i<n->arr[base+i]? = some (it i)/\D (it i))(hh:hint<n)
  (mono:∀i j,i<=j->j<n->bey LT left key (it j)=true->bey LT left key (it i)=true)
  (h:∀k,k<=n->(∀i,i<k->bey LT left key (it i)=true)->(∀i,k<=i->i<n->bey LT left key (it i)=false)->Q (some k) st):wpS (ao prog w) A E s (oX left key arr base n hint) Q st:=by
 have ask:∀(i:Nat) (R:Option Bool->aK->Prop),i<n->R (some (bey LT left key (it i))) st->wpS (ao prog w) A E s (do
   let x <-elem' arr (base+i)
   if left=true then lt' x key else do
    let r <-lt' key x
    pure (r.map (!·))) R st:=λi R hi hR=>by
  obtain⟨h1,h2⟩:=ha i hi;refine au (zc h1 ?_);cases left with
  |true=>rw[if_pos rfl];exact i3 C h2 Ie hk hR
  |false=>rw[if_neg (by decide)];exact au (i3 C Ie h2 hk (av hR))
 have G6:∀i j,i<=j->j<n->bey LT left key (it i)=false->bey LT left key (it j)=false:=λi j Ge hj hf=>by
  cases q:bey LT left key (it j)with
  |false=>rfl
  |true=>rw[mono i j Ge hj q]at hf;cases hf
 -- the last loop
 have fin:∀(lo hi:Nat) (f:Nat->Option (Option Nat)×Nat×Nat->StateT aK Sem (ForInStep (Option (Option Nat)×Nat×Nat))) (g:Option (Option Nat)×Nat×Nat->StateT aK Sem (Option Nat)),lo<=hi->hi<=n ->
   (∀i,i<lo->bey LT left key (it i)=true)->(∀i,hi<=i->i<n->bey LT left key (it i)=false) ->
   (∀i lo hi R,lo >= hi->R (.done (none,lo,hi)) st->wpS (ao prog w) A E s (f i (none,lo,hi)) R st) ->
   (∀i lo hi R,¬ lo >= hi->hi<=n->R (if bey LT left key (it (lo+(hi-lo)/2))=true then .yield (none,lo+(hi-lo)/2+1,hi)else .yield (none,lo,lo+(hi-lo)/2)) st->wpS (ao prog w) A E s (f i (none,lo,hi)) R st) ->
   (∀lo hi,Q (some hi) st->wpS (ao prog w) A E s (g (none,lo,hi)) Q st) ->
   wpS (ao prog w) A E s (forIn [:n] (none,lo,hi) f>>=g) Q st:=by
  intro lo hi f g h1 h2 Hg OL hf1 hf2 hg;refine au (wpS_forRange (λi c st'=>st'=st/\c.1=none/\c.2.1<=c.2.2/\c.2.2<=n/\c.2.2-c.2.1<=n-i/\(∀i,i<c.2.1->bey LT left key (it i)=true)/\(∀i,c.2.2<=i->i<n->bey LT left key (it i)=false)) ?_ ?_ ⟨rfl,rfl,h1,h2,by show hi-lo<=n-0;lia,Hg,OL⟩)
  ·rintro i ⟨c0,lo,hi⟩ st' _ GY ⟨rfl,rfl,g1,g2,g3,g4,g5⟩;dsimp only at g1 g2 g3 g4 g5 ⊢;by_cases Gm:lo >= hi
   ·have:lo=hi:=by lia
    subst this;exact hf1 _ _ _ _ Gm (hg _ _ (h lo g2 g4 g5))
   ·refine hf2 _ _ _ _ Gm g2 ?_;cases q:bey LT left key (it (lo+(hi-lo)/2))with
    |true=>
     rw[if_pos rfl];refine⟨rfl,rfl,?_,g2,?_,λj hj=>?_,g5⟩
     ·show lo+(hi-lo)/2+1<=hi;lia
     ·show hi-(lo+(hi-lo)/2+1)<=n-(i+1);lia
     ·exact mono j _ (by have:j<lo+(hi-lo)/2+1:=hj;lia) (by lia) q
    |false=>
     rw[if_neg (by decide)];refine⟨rfl,rfl,?_,?_,?_,g4,λj hj hjn=>?_⟩
     ·show lo<=lo+(hi-lo)/2;lia
     ·show lo+(hi-lo)/2<=n;lia
     ·show lo+(hi-lo)/2-lo<=n-(i+1);lia
     ·exact G6 _ j hj hjn q
  ·rintro⟨c0,lo,hi⟩ st' ⟨rfl,rfl,g1,g2,g3,g4,g5⟩;dsimp only at g1 g2 g3 g4 g5;have:lo=hi:=by lia
   subst this;exact hg _ _ (h lo g2 g4 g5)
 unfold oX;refine au (ask hint _ hh ?_);cases q:bey LT left key (it hint)with
 |true=>
  dsimp only;rw[if_pos rfl];refine au (wpS_forRange (λi c st'=>st'=st/\c.1=none/\c.2.1<c.2.2/\i+1<=c.2.2/\hint+c.2.1<n/\bey LT left key (it (hint+c.2.1))=true) ?_ ?_ ⟨rfl,rfl,by show 0<1;lia,by show 0+1<=1;lia,by show hint+0<n;lia,by show bey LT left key (it (hint+0))=true;exact q⟩)
  ·rintro i ⟨c0,la,GF⟩ st' _ GY ⟨rfl,rfl,g1,g2,g3,g4⟩;dsimp only at g1 g2 g3 g4 ⊢;by_cases Gm:GF >= n-hint
   ·rw[if_pos Gm];refine av ?_;refine fin (hint+la+1) (hint+min GF (n-hint)) _ _ (by lia) (by lia) (λj hj=>mono j _ (by lia) g3 g4) (λj hj hjn=>by lia) ?_ ?_ ?_
    ·intro i lo hi R Gm hR;dsimp only;rw[if_pos Gm];exact av hR
    ·intro i lo hi R Gm hn hR;dsimp only;rw[if_neg Gm];refine au (ask _ _ (by lia) ?_);cases q9:bey LT left key (it (lo+(hi-lo)/2))with
     |true=>rw[q9]at hR;exact av hR
     |false=>rw[q9]at hR;exact av hR
    ·intro lo hi hQ;exact av hQ
   ·rw[if_neg Gm];refine au (ask _ _ (by lia) ?_);cases q2:bey LT left key (it (hint+GF))with
    |false=>
     refine av ?_;refine fin (hint+la+1) (hint+min GF (n-hint)) _ _ (by lia) (by lia) (λj hj=>mono j _ (by lia) g3 g4) (λj hj hjn=>G6 (hint+GF) j (by lia) hjn q2) ?_ ?_ ?_
     ·intro i lo hi R Gm hR;dsimp only;rw[if_pos Gm];exact av hR
     ·intro i lo hi R Gm hn hR;dsimp only;rw[if_neg Gm];refine au (ask _ _ (by lia) ?_);cases q9:bey LT left key (it (lo+(hi-lo)/2))with
      |true=>rw[q9]at hR;exact av hR
      |false=>rw[q9]at hR;exact av hR
     ·intro lo hi hQ;exact av hQ
    |true=>
     refine av ⟨rfl,rfl,?_,?_,?_,q2⟩
     ·show GF<2 * GF+1;lia
     ·show i+1+1<=2 * GF+1;lia
     ·show hint+GF<n;lia
  ·rintro⟨c0,la,GF⟩ st' ⟨rfl,rfl,g1,g2,g3,g4⟩;dsimp only at g1 g2 g3 g4;refine fin (hint+la+1) (hint+min GF (n-hint)) _ _ (by lia) (by lia) (λj hj=>mono j _ (by lia) g3 g4) (λj hj hjn=>by lia) ?_ ?_ ?_
   ·intro i lo hi R Gm hR;dsimp only;rw[if_pos Gm];exact av hR
   ·intro i lo hi R Gm hn hR;dsimp only;rw[if_neg Gm];refine au (ask _ _ (by lia) ?_);cases q9:bey LT left key (it (lo+(hi-lo)/2))with
    |true=>rw[q9]at hR;exact av hR
    |false=>rw[q9]at hR;exact av hR
   ·intro lo hi hQ;exact av hQ
 |false=>
  dsimp only;rw[if_neg (by decide)];refine au (wpS_forRange (λi c st'=>st'=st/\c.1=none/\c.2.1<c.2.2/\i+1<=c.2.2/\c.2.1<=hint/\bey LT left key (it (hint-c.2.1))=false) ?_ ?_ ⟨rfl,rfl,by show 0<1;lia,by show 0+1<=1;lia,by show 0<=hint;lia,by show bey LT left key (it (hint-0))=false;exact q⟩)
  ·rintro i ⟨c0,la,GF⟩ st' _ GY ⟨rfl,rfl,g1,g2,g3,g4⟩;dsimp only at g1 g2 g3 g4 ⊢;by_cases Gm:GF >= hint+1
   ·rw[if_pos Gm];refine av ?_;refine fin (hint+1-min GF (hint+1)) (hint-la) _ _ (by lia) (by lia) (λj hj=>by lia) (λj hj hjn=>G6 (hint-la) j (by lia) hjn g4) ?_ ?_ ?_
    ·intro i lo hi R Gm hR;dsimp only;rw[if_pos Gm];exact av hR
    ·intro i lo hi R Gm hn hR;dsimp only;rw[if_neg Gm];refine au (ask _ _ (by lia) ?_);cases q9:bey LT left key (it (lo+(hi-lo)/2))with
     |true=>rw[q9]at hR;exact av hR
     |false=>rw[q9]at hR;exact av hR
    ·intro lo hi hQ;exact av hQ
   ·rw[if_neg Gm];refine au (ask _ _ (by lia) ?_);cases q2:bey LT left key (it (hint-GF))with
    |true=>
     refine av ?_;refine fin (hint+1-min GF (hint+1)) (hint-la) _ _ (by lia) (by lia) (λj hj=>mono j (hint-GF) (by lia) (by lia) q2) (λj hj hjn=>G6 (hint-la) j (by lia) hjn g4) ?_ ?_ ?_
     ·intro i lo hi R Gm hR;dsimp only;rw[if_pos Gm];exact av hR
     ·intro i lo hi R Gm hn hR;dsimp only;rw[if_neg Gm];refine au (ask _ _ (by lia) ?_);cases q9:bey LT left key (it (lo+(hi-lo)/2))with
      |true=>rw[q9]at hR;exact av hR
      |false=>rw[q9]at hR;exact av hR
     ·intro lo hi hQ;exact av hQ
    |false=>
     refine av ⟨rfl,rfl,?_,?_,?_,q2⟩
     ·show GF<2 * GF+1;lia
     ·show i+1+1<=2 * GF+1;lia
     ·show GF<=hint;lia
  ·rintro⟨c0,la,GF⟩ st' ⟨rfl,rfl,g1,g2,g3,g4⟩;dsimp only at g1 g2 g3 g4;refine fin (hint+1-min GF (hint+1)) (hint-la) _ _ (by lia) (by lia) (λj hj=>by lia) (λj hj hjn=>G6 (hint-la) j (by lia) hjn g4) ?_ ?_ ?_
   ·intro i lo hi R Gm hR;dsimp only;rw[if_pos Gm];exact av hR
   ·intro i lo hi R Gm hn hR;dsimp only;rw[if_neg Gm];refine au (ask _ _ (by lia) ?_);cases q9:bey LT left key (it (lo+(hi-lo)/2))with
    |true=>rw[q9]at hR;exact av hR
    |false=>rw[q9]at hR;exact av hR
   ·intro lo hi hQ;exact av hQ
end
structure Wo(LT:aq->aq->Bool):Prop where
 asym:∀x y,LT x y=true->LT y x=false
 neg:∀x y z,LT y x=false->LT z y=false->LT z x=false
section
variable{LT:aq->aq->Bool}
theorem Wo.irr(W:Wo LT)(x:aq):LT x x=false:=by
 cases h:LT x x with
 |false=>rfl
 |true=>have:=W.asym x x h;rw[h]at this;cases this
theorem Wo.le_lt(W:Wo LT){x y z:aq}(h1:LT y x=false)(h2:LT y z=true):LT x z=true:=by
 cases h:LT x z with
 |true=>rfl
 |false=>have:=W.neg z x y h h1;rw[h2]at this;cases this
theorem Wo.lt_le(W:Wo LT){x y z:aq}(h1:LT x y=true)(h2:LT z y=false):LT x z=true:=by
 cases h:LT x z with
 |true=>rfl
 |false=>have:=W.neg y z x h2 h;rw[h1]at this;cases this
def Srt(LT:aq->aq->Bool)(l:List aq):Prop:=l.Pairwise λx y=>LT y x=false
abbrev df:Keyed:=(bV,bV)
noncomputable def at'(a:Array aq)(i:Nat):Keyed:=a.getD i df
theorem qt{a:Array aq}{i:Nat}(h:i<a.size):a[i]? = some (at' a i):=by
 unfold at' Array.getD;rw[dif_pos h];exact Array.getElem?_eq_getElem h
theorem jE{a:Array aq}{i:Nat}(h:i<a.size):at' a i∈a.toList:=by
 have:=qt h;rw[<-Array.getElem?_toList]at this;exact List.mem_of_getElem? this
theorem du(W:Wo LT){a:Array aq}(h:Srt LT a.toList){i j:Nat}(Ge:i<=j)(hj:j<a.size):LT (at' a j) (at' a i)=false:=by
 by_cases e:i=j
 ·subst e;exact W.irr _
 ·have hi:i<a.toList.length:=by rw[a_];lia
  have Hr:j<a.toList.length:=by rw[a_];lia
  have:=List.pairwise_iff_getElem.mp h i j hi Hr (by lia);have e1:=qt (a:=a) (i:=i) (by lia);have e2:=qt (a:=a) (i:=j) hj;rw[<-Array.getElem?_toList,List.getElem?_eq_getElem hi]at e1;rw[<-Array.getElem?_toList,List.getElem?_eq_getElem Hr]at e2;injection e1 with e1
  injection e2 with e2
  rw[<-e1,<-e2];exact this
theorem qJ{a:Array aq}{i j:Nat}{x:aq}(h:x∈(a.extract i j).toList):∃k,i<=k/\k<j/\k<a.size/\x=at' a k:=by
 obtain⟨m,hm⟩:=List.mem_iff_getElem?.mp h;rw[Array.getElem?_toList,Array.getElem?_extract]at hm;split at hm
 ·rename_i Gg
  have hk:i+m<a.size:=(Array.getElem?_eq_some_iff.mp hm).1;rw[qt hk]at hm;injection hm with hm
  exact⟨i+m,by lia,by lia,hk,hm.symm⟩
 ·cases hm
theorem zJ(a:Array aq)(i j:Nat):(a.extract i j).toList=(a.toList.drop i).take (j-i):=by
 simp[Array.toList_extract]
theorem eD{a:Array aq}(h:Srt LT a.toList)(i j:Nat):Srt LT (a.extract i j).toList:=by
 rw[zJ];exact(h.sublist (List.drop_sublist _ _)).sublist (List.take_sublist _ _)
structure MI(LT:aq->aq->Bool)(a b out:Array aq)(ia ib:Nat):Prop where
 pm:out.toList.Perm (a.toList.take ia++b.toList.take ib)
 sr:Srt LT out.toList
 la:∀x∈out.toList,∀j,ia<=j->j<a.size->LT (at' a j) x=false
 lb:∀x∈out.toList,∀j,ib<=j->j<b.size->LT (at' b j) x=false
variable{a b out:Array aq}{ia ib:Nat}
theorem ou{l:List aq}{i k:Nat}:l.take (i+k)=l.take i++(l.drop i).take k:=List.take_add
theorem MI.takeA(W:Wo LT)(h:MI LT a b out ia ib)(Sa:Srt LT a.toList)(k:Nat)(hb:∀i,ia<=i->i<ia+k->i<a.size->∀j,ib<=j->j<b.size->LT (at' b j) (at' a i)=false):MI LT a b (out++a.extract ia (ia+k)) (ia+k) ib:=by
 refine⟨?_,?_,λx hx j h1 h2=>?_,λx hx j h1 h2=>?_⟩
 ·rw[bf,zJ,ou,show ia+k-ia=k by lia];refine(h.pm.append_right _).trans ?_;rw[bu,bu];exact(List.perm_append_comm).append_left _
 ·rw[bf];refine List.pairwise_append.mpr ⟨h.sr,eD Sa _ _,λx hx y hy=>?_⟩;obtain⟨i,g1,g2,g3,rfl⟩:=qJ hy;exact h.la x hx i g1 g3
 ·rw[bf]at hx;rcases List.mem_append.mp hx with hx|hx
  ·exact h.la x hx j (by lia) h2
  ·obtain⟨i,g1,g2,g3,rfl⟩:=qJ hx;exact du W Sa (by lia) h2
 ·rw[bf]at hx;rcases List.mem_append.mp hx with hx|hx
  ·exact h.lb x hx j h1 h2
  ·obtain⟨i,g1,g2,g3,rfl⟩:=qJ hx;exact hb i g1 g2 g3 j h1 h2
theorem MI.takeB(W:Wo LT)(h:MI LT a b out ia ib)(Sb:Srt LT b.toList)(k:Nat)(hb:∀i,ib<=i->i<ib+k->i<b.size->∀j,ia<=j->j<a.size->LT (at' a j) (at' b i)=false):MI LT a b (out++b.extract ib (ib+k)) ia (ib+k):=by
 refine⟨?_,?_,λx hx j h1 h2=>?_,λx hx j h1 h2=>?_⟩
 ·rw[bf,zJ,ou,show ib+k-ib=k by lia,<-bu];exact h.pm.append_right _
 ·rw[bf];refine List.pairwise_append.mpr ⟨h.sr,eD Sb _ _,λx hx y hy=>?_⟩;obtain⟨i,g1,g2,g3,rfl⟩:=qJ hy;exact h.lb x hx i g1 g3
 ·rw[bf]at hx;rcases List.mem_append.mp hx with hx|hx
  ·exact h.la x hx j h1 h2
  ·obtain⟨i,g1,g2,g3,rfl⟩:=qJ hx;exact hb i g1 g2 g3 j h1 h2
 ·rw[bf]at hx;rcases List.mem_append.mp hx with hx|hx
  ·exact h.lb x hx j (by lia) h2
  ·obtain⟨i,g1,g2,g3,rfl⟩:=qJ hx;exact du W Sb (by lia) h2
theorem lZ{a out:Array aq}{i:Nat}(h:i<a.size):out.push (at' a i)=out++a.extract i (i+1):=by
 apply Array.toList_inj.mp;rw[Array.toList_push,bf,zJ,show i+1-i=1 by lia]
 congr 1
 have hl:i<a.toList.length:=by rw[a_];exact h
 rw[fK hl];have e1:=qt (a:=a) (i:=i) h;rw[<-Array.getElem?_toList,List.getElem?_eq_getElem hl]at e1;injection e1 with e1
 rw[e1];rfl
theorem MI.pushA(W:Wo LT)(h:MI LT a b out ia ib)(Sa:Srt LT a.toList)(Sb:Srt LT b.toList)(hi:ia<a.size)(hb:ib<b.size->LT (at' b ib) (at' a ia)=false):MI LT a b (out.push (at' a ia)) (ia+1) ib:=by
 rw[lZ hi];refine h.takeA W Sa 1 λi h1 h2 _ j g1 g2=>?_
 have:i=ia:=by lia
 subst this;exact W.neg _ _ _ (hb (by lia)) (du W Sb g1 g2)
theorem MI.pushB(W:Wo LT)(h:MI LT a b out ia ib)(Sa:Srt LT a.toList)(Sb:Srt LT b.toList)(hi:ib<b.size)(hb:ia<a.size->LT (at' b ib) (at' a ia)=true):MI LT a b (out.push (at' b ib)) ia (ib+1):=by
 rw[lZ hi];refine h.takeB W Sb 1 λi h1 h2 _ j g1 g2=>?_
 have:i=ib:=by lia
 subst this;exact W.neg _ _ _ (W.asym _ _ (hb (by lia))) (du W Sa g1 g2)
def Mg(LT:aq->aq->Bool)(a b r:Array aq):Prop:=r.toList.Perm (a.toList++b.toList)/\Srt LT r.toList
theorem MI.done(W:Wo LT)(h:MI LT a b out ia ib)(Sa:Srt LT a.toList)(Sb:Srt LT b.toList)(he:ib=b.size\/ia=a.size):Mg LT a b (out++a.extract ia++b.extract ib):=by
 have ea:(a.extract ia).toList=a.toList.drop ia:=by
  rw[zJ];exact List.take_of_length_le (by simp)
 have eb:(b.extract ib).toList=b.toList.drop ib:=by
  rw[zJ];exact List.take_of_length_le (by simp)
 refine⟨?_,?_⟩
 ·rw[bf,bf,ea,eb];refine((h.pm.append_right _).append_right _).trans ?_;have e1:=b8 ia a.toList;have e2:=b8 ib b.toList;rcases he with he|he
  ·have z1:b.toList.drop ib=[]:=List.drop_eq_nil_of_le (by rw[a_];lia);have z2:b.toList.take ib=b.toList:=List.take_of_length_le (by rw[a_];lia);rw[z1,z2,c_,bu];refine(List.perm_append_comm.append_left _).trans ?_;rw[<-bu,e1]
  ·have z1:a.toList.drop ia=[]:=List.drop_eq_nil_of_le (by rw[a_];lia);have z2:a.toList.take ia=a.toList:=List.take_of_length_le (by rw[a_];lia);rw[z1,z2,c_,bu,e2]
 ·rw[bf,bf];refine List.pairwise_append.mpr ⟨List.pairwise_append.mpr ⟨h.sr,eD Sa _ _,λx hx y hy=>?_⟩,eD Sb _ _,λx hx y hy=>?_⟩
  ·obtain⟨i,g1,g2,g3,rfl⟩:=qJ hy;exact h.la x hx i g1 g3
  ·obtain⟨i,g1,g2,g3,rfl⟩:=qJ hy;rcases List.mem_append.mp hx with hx|hx
   ·exact h.lb x hx i g1 g3
   ·obtain⟨j,k1,k2,k3,rfl⟩:=qJ hx;lia
theorem MI.last(W:Wo LT)(h:MI LT a b out ia ib)(Sa:Srt LT a.toList)(Sb:Srt LT b.toList)(hl:ia+1=a.size)(hb:∀j,j<b.size->LT (at' b j) (at' a ia)=true):Mg LT a b (out++b.extract ib++a.extract ia):=by
 have ea:(a.extract ia).toList=a.toList.drop ia:=by
  rw[zJ];exact List.take_of_length_le (by simp)
 have eb:(b.extract ib).toList=b.toList.drop ib:=by
  rw[zJ];exact List.take_of_length_le (by simp)
 refine⟨?_,?_⟩
 ·rw[bf,bf,ea,eb];refine((h.pm.append_right _).append_right _).trans ?_;have e1:=b8 ia a.toList;have e2:=b8 ib b.toList;rw[bu (a.toList.take ia),e2];refine(List.perm_append_comm.append_right _).trans ?_;rw[bu,e1];exact List.perm_append_comm
 ·rw[bf,bf];refine List.pairwise_append.mpr ⟨List.pairwise_append.mpr ⟨h.sr,eD Sb _ _,λx hx y hy=>?_⟩,eD Sa _ _,λx hx y hy=>?_⟩
  ·obtain⟨i,g1,g2,g3,rfl⟩:=qJ hy;exact h.lb x hx i g1 g3
  ·obtain⟨i,g1,g2,g3,rfl⟩:=qJ hy;rcases List.mem_append.mp hx with hx|hx
   ·exact h.la x hx i g1 g3
   ·obtain⟨j,k1,k2,k3,rfl⟩:=qJ hx;have:i=ia:=by lia
    subst this;exact W.asym _ _ (hb j k3)
end
abbrev setG(st:aK)(g:Nat):SortSt:=aK.mk' (kindOf st) (ah st) (aZ st) g (failedOf st)
section
variable{prog:aF}{w:aB}{A:aG}{E:ae->af->Prop}{s:af}{κ:SortKind}{D:aq->Prop}{LT:aq->aq->Bool}
theorem Cmp.wo(C:Cmp prog w A s κ D LT):Wo LT:=⟨C.asym,C.neg⟩
theorem lz(W:Wo LT){a:Array aq}(S:Srt LT a.toList){left:Bool}{key:aq}{base n:Nat}(hn:base+n<=a.size):∀i j,i<=j->j<n->bey LT left key (at' a (base+j))=true->bey LT left key (at' a (base+i))=true:=by
 intro i j Ge hj h;have o:=du W S (show base+i<=base+j by lia) (by lia);cases left with
 |true=>
  have h:LT (at' a (base+j)) key=true:=h;show LT (at' a (base+i)) key=true;exact W.le_lt o h
 |false=>
  have h:(!LT key (at' a (base+j)))=true:=h;show (!LT key (at' a (base+i)))=true;have h':LT key (at' a (base+j))=false:=by simpa using h
  rw[W.neg _ _ _ o h'];rfl
theorem share1{α γ:Type}{M:Model}{c:α->Prop} [∀u,Decidable (c u)]{X F:α->StateT aK Sem γ}{Q:γ->aK->Prop}{st:aK}(hG:(∀u,wpS M A E s (F u) Q st)->∀u,wpS M A E s (if c u then X u else F u) Q st)(H:∀u,wpS M A E s (F u) Q st):∀u,wpS M A E s (if c u then X u else F u) Q st:=hG H
theorem jZ{α β γ:Type}{M:Model}{c:Prop} [Decidable c]{X F:α->β->StateT aK Sem γ}{x:α}{y:β}{Q:γ->aK->Prop}{st:aK}(C:α->β->Prop)(hG:(∀u v,C u v->wpS M A E s (F u v) Q st)->∀u,x=u->∀v,y=v->wpS M A E s (if c then X u v else F u v) Q st)(H:∀u v,C u v->wpS M A E s (F u v) Q st):∀u,x=u->∀v,y=v->wpS M A E s (if c then X u v else F u v) Q st:=hG H
theorem mi0{a b:Array aq}:MI LT a b #[] 0 0:=⟨by simp,by simp[Srt],by simp,by simp⟩
theorem Cp(C:Cmp prog w A s κ D LT){a b:Array aq}{st:aK}{Q:Array aq->aK->Prop}(hk:kindOf st=κ)(Da:∀i,i<a.size->D (at' a i))(Db:∀i,i<b.size->D (at' b i))(Sa:Srt LT a.toList)(Sb:Srt LT b.toList)
  (ha:0<a.size) (hb:0<b.size) (h0:LT (at' b 0) (at' a 0)=true) (hl:∀j,j<b.size->LT (at' b j) (at' a (a.size-1))=true) (h:∀r g,Mg LT a b r->Q r (setG st g)):wpS (ao prog w) A E s (p6 a b) Q st:=by
 have W:=C.wo;have Hs:∀{ia:Nat},ia+1=a.size->∀j,j<b.size->LT (at' b j) (at' a ia)=true:=λ{ia} e j hj=>by
  have:ia=a.size-1:=by lia
  rw[this];exact hl j hj
 unfold p6;refine au (wpS_lift (wpAny_rule ⟨rfl,?_⟩));refine au (zc (qt hb) ?_);have M1:MI LT a b #[at' b 0] 0 1:=(mi0 (LT:=LT)).pushB W Sa Sb hb λ_=>h0
 dsimp only;refine wpI (λe1=>?_) λe1=>?_
 ·exact av (h _ (gallopOf st) (M1.done W Sa Sb (.inl (by simpa using e1))))
 refine wpI (λe2=>?_) λe2=>?_
 ·exact av (h _ (gallopOf st) (M1.last W Sa Sb (by simpa using e2) (Hs (by simpa using e2))))
 have J3:1≠b.size:=by simpa using e1
 have J4:1≠a.size:=by simpa using e2
 refine au (wpS_get ?_);refine au (wpS_mono (Q:=λc st'=>∃r g,c.1=some r/\Mg LT a b r/\st'=setG st g) ?_ ?_)
 ·refine wpS_forRange (λi c st'=>∃g,st'=setG st g/\c.1=none/\MI LT a b c.2.1 c.2.2.1 c.2.2.2.1/\c.2.2.1+1<a.size/\c.2.2.2.1<b.size/\i<=c.2.2.1+c.2.2.2.1) ?_ ?_ ⟨gallopOf st,rfl,rfl,M1,by show 0+1<a.size;lia,by show 1<b.size;lia,bU _⟩
  ·refine λi=>pr5 λc0 out ia ib mg st' _ hi x=>exE (λg y=>stE y.1 ?_) x
   clear x;have M:=y.2.2.1;have h1:=y.2.2.2.1;have h2:=y.2.2.2.2.1;have h3:=y.2.2.2.2.2;clear y;dsimp only at M h1 h2 h3 ⊢;refine au (wpS_mono (Q:=λc st'=>st'=setG st g/\((∃r,c.1=some r/\Mg LT a b r)\/(c.1=none/\MI LT a b c.2.1 c.2.2.1 c.2.2.2.1/\c.2.2.1+1<a.size/\c.2.2.2.1<b.size/\ia+ib+1<=c.2.2.1+c.2.2.2.1))) ?_ ?_)
   ·refine wpS_forRange (λj c st'=>st'=setG st g/\c.1=none/\MI LT a b c.2.1 c.2.2.1 c.2.2.2.1/\c.2.2.1+1<a.size/\c.2.2.2.1<b.size/\ia+ib+j<=c.2.2.1+c.2.2.2.1) ?_ ?_ ⟨rfl,rfl,M,h1,h2,aH _⟩
    ·refine λj=>pr6 λc0 out Gv GN ac bc st' _ hj y=>stE y.1 ?_
     have M:=y.2.2.1;have h1:=y.2.2.2.1;have h2:=y.2.2.2.2.1;have h3:=y.2.2.2.2.2;clear y;dsimp only at M h1 h2 h3 ⊢;refine au (zc (qt h2) ?_);refine au (zc (qt (show Gv<a.size by lia)) ?_);refine au (i3 C (Db _ h2) (Da _ (by lia)) hk ?_);dsimp only;refine wpI (λq=>?_) λq=>?_
     ·refine au (zc (qt h2) ?_);have M2:=M.pushB W Sa Sb h2 λ_=>q
      refine wpI (λe3=>?_) λe3=>?_
      ·exact av ⟨rfl,.inl ⟨_,rfl,M2.done W Sa Sb (.inl (by simpa using e3))⟩⟩
      have J5:GN+1≠b.size:=by simpa using e3
      refine wpI (λe4=>?_) λe4=>?_
      ·exact av ⟨rfl,.inr ⟨rfl,M2,h1,by show GN+1<b.size;lia,by show ia+ib+1<=Gv+(GN+1);lia⟩⟩
      ·exact av ⟨rfl,rfl,M2,h1,by show GN+1<b.size;lia,by show ia+ib+(j+1)<=Gv+(GN+1);lia⟩
     ·have q:=eq_false_of_ne_true q;refine au (zc (qt (show Gv<a.size by lia)) ?_);have M2:=M.pushA W Sa Sb (by lia) λ_=>q
      refine wpI (λe3=>?_) λe3=>?_
      ·exact av ⟨rfl,.inl ⟨_,rfl,M2.last W Sa Sb (by simpa using e3) (Hs (by simpa using e3))⟩⟩
      have J5:Gv+1+1≠a.size:=by simpa using e3
      refine wpI (λe4=>?_) λe4=>?_
      ·exact av ⟨rfl,.inr ⟨rfl,M2,by show Gv+1+1<a.size;lia,h2,by show ia+ib+1<=Gv+1+GN;lia⟩⟩
      ·exact av ⟨rfl,rfl,M2,by show Gv+1+1<a.size;lia,h2,by show ia+ib+(j+1)<=Gv+1+GN;lia⟩
    ·rintro⟨c0,out,Gv,GN,ac,bc⟩ st' ⟨rfl,rfl,M,h1,h2,h3⟩;dsimp only at M h1 h2 h3;exact absurd h3 (by lia)
   ·refine pr6 λc0 out Gv GN ac bc st' y=>stE y.1 ?_
    have hc:=y.2;clear y;dsimp only at hc ⊢;rcases hc with ⟨r,rfl,hm⟩|⟨rfl,M,h1,h2,h3⟩
    ·exact av ⟨r,g,rfl,hm,rfl⟩
    dsimp only;refine au (wpS_lift (wpAny_rule ⟨rfl,?_⟩));refine au (wpS_mono (Q:=λc st'=>∃g,st'=setG st g/\((∃r,c.1=some r/\Mg LT a b r)\/(c.1=none/\MI LT a b c.2.1 c.2.2.1 c.2.2.2.1/\c.2.2.1+1<a.size/\c.2.2.2.1<b.size/\ia+ib+1<=c.2.2.1+c.2.2.2.1))) ?_ ?_)
    ·refine wpS_forRange (λj c st'=>∃g,st'=setG st g/\c.1=none/\MI LT a b c.2.1 c.2.2.1 c.2.2.2.1/\c.2.2.1+1<a.size/\c.2.2.2.1<b.size/\ia+ib+1+j<=c.2.2.1+c.2.2.2.1) ?_ ?_ ⟨g,rfl,rfl,M,h1,h2,h3⟩
     ·clear M h1 h2 h3;refine λj=>pr7 λc0 out Gv GN G7 ac bc st' _ hj x=>exE (λg y=>stE y.1 ?_) x
      clear x;have M:=y.2.2.1;have h1:=y.2.2.2.1;have h2:=y.2.2.2.2.1;have h3:=y.2.2.2.2.2;clear y;dsimp only at M h1 h2 h3 ⊢;revert G7;refine share1 (λH G7=>?_) ?_
      ·show wpS _ _ _ _ _ _ _;by_cases e0:¬ G7>1
       ·rw[if_neg e0];exact H G7
       ·rw[if_pos (Decidable.not_not.mp e0)];exact H (G7-1)
      intro OM;refine au (wpS_modify ?_);refine au (zc (qt h2) ?_);refine au (iz C hk (Db _ h2) (λi=>at' a (Gv+i)) (λi hi=>⟨qt (by lia),Da _ (by lia)⟩) (by lia) (lz W Sa (by lia)) λk l1 l2 l3=>?_);dsimp only;have t2:∀i,Gv<=i->i<Gv+k->LT (at' b GN) (at' a i)=false:=λi g1 g2=>by
       have:=l2 (i-Gv) (by lia);rw[show Gv+(i-Gv)=i by lia]at this;have this:(!LT (at' b GN) (at' a i))=true:=this
       simpa using this
      have t3:Gv+k<a.size->LT (at' b GN) (at' a (Gv+k))=true:=λz=>by
       have:=l3 k (aH _) (by lia);have this:(!LT (at' b GN) (at' a (Gv+k)))=false:=this
       simpa using this
      generalize hu:out=u;generalize hv:Gv=v;revert u v;refine jZ (λHk ia'=>MI LT a b Hk ia' GN/\ia'+1<a.size/\Gv<=ia'/\LT (at' b GN) (at' a ia')=true) (λH u hu v hv=>?_) ?_
      ·subst hu;subst hv;by_cases e4:¬ k>0
       ·rw[if_neg e4];refine H out Gv ⟨M,h1,aH _,?_⟩;have:=t3 (by lia);rw[show k=0 by lia]at this;exact this
       ·rw[if_pos (Decidable.not_not.mp e4)];have M2:=M.takeA W Sa k λi g1 g2 _ j' g3 g4=>W.neg _ _ _ (t2 i g1 g2) (du W Sb g3 g4)
        refine wpI (λe3=>?_) λe3=>?_
        ·exact av ⟨_,rfl,.inl ⟨_,rfl,M2.last W Sa Sb (by simpa using e3) (Hs (by simpa using e3))⟩⟩
        have J5:Gv+k+1≠a.size:=by simpa using e3
        refine wpI (λe9=>?_) λe9=>?_
        ·exact av ⟨_,rfl,.inl ⟨_,rfl,M2.done W Sa Sb (.inr (by simpa using e9))⟩⟩
        have ON:Gv+k≠a.size:=by simpa using e9
        exact H _ _ ⟨M2,by lia,by lia,t3 (by lia)⟩
      rintro Jf ia3 ⟨M2,Qu,Gm,q2⟩
      try dsimp only
      refine au (zc (qt h2) ?_);have M3:=M2.pushB W Sa Sb h2 λ_=>q2
      refine wpI (λe5=>?_) λe5=>?_
      ·exact av ⟨_,rfl,.inl ⟨_,rfl,M3.done W Sa Sb (.inl (by simpa using e5))⟩⟩
      have Nb:GN+1≠b.size:=by simpa using e5
      refine au (zc (qt (show ia3<a.size by lia)) ?_);generalize Jf.push (at' b GN)=out5 at M3 ⊢;have hY:∃n,GN+1=n:=⟨_,rfl⟩
      obtain⟨HE,hY⟩:=hY;rw[hY]at M3 Nb ⊢;refine au (iz C hk (Da _ (by lia)) (λi=>at' b (HE+i)) (λi hi=>⟨qt (by lia),Db _ (by lia)⟩) (by lia) (lz W Sb (by lia)) λk' l1 l2 l3=>?_);dsimp only;have t2:∀i,HE<=i->i<HE+k'->LT (at' b i) (at' a ia3)=true:=λi g1 g2=>by
       have:=l2 (i-HE) (by lia);rw[show HE+(i-HE)=i by lia]at this;exact this
      have t3:HE+k'<b.size->LT (at' b (HE+k')) (at' a ia3)=false:=λz=>l3 k' (aH _) (by lia)
      generalize hu:out5=u;generalize hv:HE=v;revert u v;refine jZ (λHk ib'=>MI LT a b Hk ia3 ib'/\ib'<b.size/\HE<=ib'/\LT (at' b ib') (at' a ia3)=false) (λH u hu v hv=>?_) ?_
      ·subst hu;subst hv;by_cases e6:¬ k'>0
       ·rw[if_neg e6];refine H out5 HE ⟨M3,by lia,aH _,?_⟩;have:=t3 (by lia);rw[show k'=0 by lia]at this;exact this
       ·rw[if_pos (Decidable.not_not.mp e6)];have M4:=M3.takeB W Sb k' λi g1 g2 _ j' g3 g4=>W.neg _ _ _ (W.asym _ _ (t2 i g1 g2)) (du W Sa g3 g4)
        refine wpI (λe8=>?_) λe8=>?_
        ·exact av ⟨_,rfl,.inl ⟨_,rfl,M4.done W Sa Sb (.inl (by simpa using e8))⟩⟩
        have OO:HE+k'≠b.size:=by simpa using e8
        exact H _ _ ⟨M4,by lia,by lia,t3 (by lia)⟩
      rintro Mh ib4 ⟨M4,Qv,Qw,q5⟩
      try dsimp only
      refine au (zc (qt (show ia3<a.size by lia)) ?_);have M5:=M4.pushA W Sa Sb (show ia3<a.size by lia) λ_=>q5
      refine wpI (λe7=>?_) λe7=>?_
      ·exact av ⟨_,rfl,.inl ⟨_,rfl,M5.last W Sa Sb (by simpa using e7) (Hs (by simpa using e7))⟩⟩
      have OP:ia3+1+1≠a.size:=by simpa using e7
      split
      ·exact av ⟨_,rfl,.inr ⟨rfl,M5,by show ia3+1+1<a.size;lia,by show ib4<b.size;lia,by show ia+ib+1<=ia3+1+ib4;lia⟩⟩
      ·exact av ⟨_,rfl,rfl,M5,by show ia3+1+1<a.size;lia,by show ib4<b.size;lia,by show ia+ib+1+(j+1)<=ia3+1+ib4;lia⟩
     ·clear M h1 h2 h3;rintro⟨c0,out,Gv,GN,G7,ac,bc⟩ st' ⟨g,rfl,rfl,M,h1,h2,h3⟩;dsimp only at M h1 h2 h3;exact absurd h3 (by lia)
    ·refine pr7 λc0 out Gv GN G7 ac bc st' x=>exE (λg y=>stE y.1 ?_) x
     clear x;have hc:=y.2;clear y;dsimp only at hc ⊢;rcases hc with ⟨r,rfl,hm⟩|⟨rfl,M,h1,h2,h3⟩
     ·exact av ⟨r,g,rfl,hm,rfl⟩
     dsimp only;refine au (wpS_modify ?_);exact av ⟨G7+1,rfl,rfl,M,h1,h2,by show i+1<=Gv+GN;lia⟩
  ·rintro⟨c0,out,ia,ib,mg⟩ st' ⟨g,rfl,rfl,M,h1,h2,h3⟩;dsimp only at M h1 h2 h3;exact absurd h3 (by lia)
 ·rintro⟨c0,out,ia,ib,mg⟩ st' ⟨r,g,hr,hm,rfl⟩;dsimp only at hr ⊢;subst hr;exact av (h r g hm)
end
section
variable{LT:aq->aq->Bool}
structure MH(LT:aq->aq->Bool)(a b out:Array aq)(na nb:Nat):Prop where
 pm:out.toList.Perm (a.toList.drop na++b.toList.drop nb)
 sr:Srt LT out.toList.reverse
 la:∀x∈out.toList,∀j,j<na->LT x (at' a j)=false
 lb:∀x∈out.toList,∀j,j<nb->LT x (at' b j)=false
variable{a b out:Array aq}{na nb:Nat}
theorem og{l:List aq}{m n:Nat}(h:m<=n):l.drop m=(l.drop m).take (n-m)++l.drop n:=by
 have:=(b8 (n-m) (l.drop m)).symm;rw[List.drop_drop,show m+(n-m)=n by lia]at this;exact this
theorem MH.takeA(W:Wo LT)(h:MH LT a b out na nb)(Sa:Srt LT a.toList)(Nc:na<=a.size)(m:Nat)(hm:m<=na)(hb:∀i,m<=i->i<na->∀j,j<nb->LT (at' a i) (at' b j)=false):MH LT a b (out++(a.extract m na).reverse) m nb:=by
 have mem:∀{x},x∈(out++(a.extract m na).reverse).toList->x∈out.toList\/x∈(a.extract m na).toList:=λ{x} hx=>by
  rw[bf,Array.toList_reverse]at hx;rcases List.mem_append.mp hx with hx|hx
  ·exact .inl hx
  ·exact .inr (List.mem_reverse.mp hx)
 refine⟨?_,?_,λx hx j h1=>?_,λx hx j h1=>?_⟩
 ·rw[bf,Array.toList_reverse,zJ];have e:=og (l:=a.toList) hm;generalize (a.toList.drop m).take (na-m)=T at e ⊢;rw[e];refine(h.pm.append (List.reverse_perm _)).trans ?_;refine List.perm_append_comm.trans ?_;rw[bu]
 ·rw[bf,Array.toList_reverse,List.reverse_append,List.reverse_reverse];refine List.pairwise_append.mpr ⟨eD Sa _ _,h.sr,λx hx y hy=>?_⟩;obtain⟨i,g1,g2,g3,rfl⟩:=qJ hx;exact h.la y (List.mem_reverse.mp hy) i g2
 ·rcases mem hx with hx|hx
  ·exact h.la x hx j (by lia)
  ·obtain⟨i,g1,g2,g3,rfl⟩:=qJ hx;exact du W Sa (by lia) g3
 ·rcases mem hx with hx|hx
  ·exact h.lb x hx j h1
  ·obtain⟨i,g1,g2,g3,rfl⟩:=qJ hx;exact hb i g1 g2 j h1
theorem MH.takeB(W:Wo LT)(h:MH LT a b out na nb)(Sb:Srt LT b.toList)(Nd:nb<=b.size)(m:Nat)(hm:m<=nb)(hb:∀i,m<=i->i<nb->∀j,j<na->LT (at' b i) (at' a j)=false):MH LT a b (out++(b.extract m nb).reverse) na m:=by
 have mem:∀{x},x∈(out++(b.extract m nb).reverse).toList->x∈out.toList\/x∈(b.extract m nb).toList:=λ{x} hx=>by
  rw[bf,Array.toList_reverse]at hx;rcases List.mem_append.mp hx with hx|hx
  ·exact .inl hx
  ·exact .inr (List.mem_reverse.mp hx)
 refine⟨?_,?_,λx hx j h1=>?_,λx hx j h1=>?_⟩
 ·rw[bf,Array.toList_reverse,zJ];have e:=og (l:=b.toList) hm;generalize (b.toList.drop m).take (nb-m)=T at e ⊢;rw[e];refine(h.pm.append (List.reverse_perm _)).trans ?_;rw[bu];exact List.perm_append_comm.append_left _
 ·rw[bf,Array.toList_reverse,List.reverse_append,List.reverse_reverse];refine List.pairwise_append.mpr ⟨eD Sb _ _,h.sr,λx hx y hy=>?_⟩;obtain⟨i,g1,g2,g3,rfl⟩:=qJ hx;exact h.lb y (List.mem_reverse.mp hy) i g2
 ·rcases mem hx with hx|hx
  ·exact h.la x hx j h1
  ·obtain⟨i,g1,g2,g3,rfl⟩:=qJ hx;exact hb i g1 g2 j h1
 ·rcases mem hx with hx|hx
  ·exact h.lb x hx j (by lia)
  ·obtain⟨i,g1,g2,g3,rfl⟩:=qJ hx;exact du W Sb (by lia) g3
theorem tq{a out:Array aq}{i:Nat}(h:i<a.size):out.push (at' a i)=out++(a.extract i (i+1)).reverse:=by
 have:=lZ (out:=(#[]:Array aq)) h;have e:a.extract i (i+1) = #[at' a i]:=by
  have h2:(#[]:Array aq)++a.extract i (i+1)=a.extract i (i+1):=by simp
  rw[h2]at this;rw[<-this];rfl
 rw[e];simp
theorem MH.pushA(W:Wo LT)(h:MH LT a b out (na+1) nb)(Sa:Srt LT a.toList)(Sb:Srt LT b.toList)(hi:na<a.size)(Nd:nb<=b.size)(hb:0<nb->LT (at' b (nb-1)) (at' a na)=true):MH LT a b (out.push (at' a na)) na nb:=by
 rw[tq hi];refine h.takeA W Sa (by lia) na (by lia) λi h1 h2 j g1=>?_
 have:i=na:=by lia
 subst this;exact W.neg _ _ _ (du W Sb (show j<=nb-1 by lia) (by lia)) (W.asym _ _ (hb (by lia)))
theorem MH.pushB(W:Wo LT)(h:MH LT a b out na (nb+1))(Sa:Srt LT a.toList)(Sb:Srt LT b.toList)(hi:nb<b.size)(Nc:na<=a.size)(hb:0<na->LT (at' b nb) (at' a (na-1))=false):MH LT a b (out.push (at' b nb)) na nb:=by
 rw[tq hi];refine h.takeB W Sb (by lia) nb (by lia) λi h1 h2 j g1=>?_
 have:i=nb:=by lia
 subst this;exact W.neg _ _ _ (du W Sa (show j<=na-1 by lia) (by lia)) (hb (by lia))
theorem ko(a:Array aq)(n:Nat):(a.extract 0 n).toList=a.toList.take n:=by
 rw[zJ,List.drop_zero];rfl
theorem MH.done(W:Wo LT)(h:MH LT a b out na nb)(Sa:Srt LT a.toList)(Sb:Srt LT b.toList)(he:na=0\/nb=0):Mg LT a b (a.extract 0 na++b.extract 0 nb++out.reverse):=by
 refine⟨?_,?_⟩
 ·rw[bf,bf,Array.toList_reverse,ko,ko];refine((List.reverse_perm _).trans h.pm).append_left _ |>.trans ?_;have e1:=b8 na a.toList;have e2:=b8 nb b.toList;rcases he with he|he
  ·subst he;rw[List.take_zero,List.drop_zero,List.nil_append];refine List.perm_append_comm.trans ?_;rw[bu];refine(List.perm_append_comm.append_left _).trans ?_;rw[e2]
  ·subst he;rw[List.take_zero,List.drop_zero,c_,<-bu,e1]
 ·rw[bf,bf,Array.toList_reverse];refine List.pairwise_append.mpr ⟨List.pairwise_append.mpr ⟨eD Sa _ _,eD Sb _ _,λx hx y hy=>?_⟩,h.sr,λx hx y hy=>?_⟩
  ·obtain⟨i,g1,g2,g3,rfl⟩:=qJ hx;obtain⟨j,k1,k2,k3,rfl⟩:=qJ hy;lia
  ·have hy:=List.mem_reverse.mp hy;rcases List.mem_append.mp hx with hx|hx
   ·obtain⟨i,g1,g2,g3,rfl⟩:=qJ hx;exact h.la y hy i g2
   ·obtain⟨i,g1,g2,g3,rfl⟩:=qJ hx;exact h.lb y hy i g2
theorem MH.first(W:Wo LT)(h:MH LT a b out na nb)(Sa:Srt LT a.toList)(Sb:Srt LT b.toList)(hl:nb=1)(hb:∀j,j<a.size->LT (at' b 0) (at' a j)=true):Mg LT a b (b.extract 0 nb++a.extract 0 na++out.reverse):=by
 subst hl;refine⟨?_,?_⟩
 ·rw[bf,bf,Array.toList_reverse,ko,ko];refine((List.reverse_perm _).trans h.pm).append_left _ |>.trans ?_;have e1:=b8 na a.toList;have e2:=b8 1 b.toList;rw[bu,<-bu (a.toList.take na),e1];refine List.perm_append_comm.trans ?_;rw[bu];refine(List.perm_append_comm.append_left _).trans ?_;rw[e2]
 ·rw[bf,bf,Array.toList_reverse];refine List.pairwise_append.mpr ⟨List.pairwise_append.mpr ⟨eD Sb _ _,eD Sa _ _,λx hx y hy=>?_⟩,h.sr,λx hx y hy=>?_⟩
  ·obtain⟨i,g1,g2,g3,rfl⟩:=qJ hx;obtain⟨j,k1,k2,k3,rfl⟩:=qJ hy;have:i=0:=by lia
   subst this;exact W.asym _ _ (hb j k3)
  ·have hy:=List.mem_reverse.mp hy;rcases List.mem_append.mp hx with hx|hx
   ·obtain⟨i,g1,g2,g3,rfl⟩:=qJ hx;exact h.lb y hy i g2
   ·obtain⟨i,g1,g2,g3,rfl⟩:=qJ hx;exact h.la y hy i g2
theorem mh0{a b:Array aq}:MH LT a b #[] a.size b.size:=⟨by
 rw[List.drop_eq_nil_of_le (by simp),List.drop_eq_nil_of_le (by simp)];simp,by simp[Srt],by simp,by simp⟩
end
section
variable{prog:aF}{w:aB}{A:aG}{E:ae->af->Prop}{s:af}{κ:SortKind}{D:aq->Prop}{LT:aq->aq->Bool}
theorem nZ(W:Wo LT){a:Array aq}(S:Srt LT a.toList){left:Bool}{key:aq}{n:Nat}(hn:n<=a.size):∀i j,i<=j->j<n->bey LT left key (at' a j)=true->bey LT left key (at' a i)=true:=by
 intro i j h1 h2 h3;have:=lz W S (left:=left) (key:=key) (base:=0) (n:=n) (by lia) i j h1 h2;rw[Nat.zero_add,Nat.zero_add]at this;exact this h3
theorem DI(C:Cmp prog w A s κ D LT){a b:Array aq}{st:aK}{Q:Array aq->aK->Prop}(hk:kindOf st=κ)(Da:∀i,i<a.size->D (at' a i))(Db:∀i,i<b.size->D (at' b i))(Sa:Srt LT a.toList)(Sb:Srt LT b.toList)
  (ha:0<a.size) (hb:0<b.size) (h0:LT (at' b 0) (at' a 0)=true) (hl:∀j,j<b.size->LT (at' b j) (at' a (a.size-1))=true) (h:∀r g,Mg LT a b r->Q r (setG st g)):wpS (ao prog w) A E s (oQ a b) Q st:=by
 have W:=C.wo;have fst:∀j,j<a.size->LT (at' b 0) (at' a j)=true:=λj hj=>W.lt_le h0 (du W Sa (bU j) hj)
 unfold oQ;refine au (wpS_lift (wpAny_rule ⟨rfl,?_⟩));refine au (zc (qt (show a.size-1<a.size by lia)) ?_);have M1:MH LT a b #[at' a (a.size-1)] (a.size-1) b.size:=by
  have M0:MH LT a b #[] (a.size-1+1) b.size:=by rw[show a.size-1+1=a.size by lia];exact mh0
  exact M0.pushA W Sa Sb (by lia) (aH _) λ_=>hl _ (by lia)
 dsimp only;refine wpI (λe1=>?_) λe1=>?_
 ·exact av (h _ (gallopOf st) (M1.done W Sa Sb (.inl (by simpa using e1))))
 refine wpI (λe2=>?_) λe2=>?_
 ·exact av (h _ (gallopOf st) (M1.first W Sa Sb (by simpa using e2) fst))
 have J3:a.size-1≠0:=by simpa using e1
 have J4:b.size≠1:=by simpa using e2
 refine au (wpS_get ?_);refine au (wpS_mono (Q:=λc st'=>∃r g,c.1=some r/\Mg LT a b r/\st'=setG st g) ?_ ?_)
 ·refine wpS_forRange (λi c st'=>∃g,st'=setG st g/\c.1=none/\MH LT a b c.2.2.2.1 c.2.1 c.2.2.1/\(1<=c.2.1/\c.2.1<a.size)/\(2<=c.2.2.1/\c.2.2.1<=b.size)/\c.2.1+c.2.2.1+i<=a.size+b.size) ?_ ?_ ⟨gallopOf st,rfl,rfl,M1,by show 1<=a.size-1/\a.size-1<a.size;lia,by show 2<=b.size/\b.size<=b.size;lia,by show a.size-1+b.size+0<=_;lia⟩
  ·refine λi=>pr5 λc0 na nb out mg st' _ hi x=>exE (λg y=>stE y.1 ?_) x
   clear x;have M:=y.2.2.1;have h1:=y.2.2.2.1;have h2:=y.2.2.2.2.1;have h3:=y.2.2.2.2.2;clear y;dsimp only at M h1 h2 h3 ⊢;refine au (wpS_mono (Q:=λc st'=>st'=setG st g/\((∃r,c.1=some r/\Mg LT a b r)\/(c.1=none/\MH LT a b c.2.2.2.1 c.2.1 c.2.2.1/\(1<=c.2.1/\c.2.1<a.size)/\(2<=c.2.2.1/\c.2.2.1<=b.size)/\c.2.1+c.2.2.1+1<=na+nb))) ?_ ?_)
   ·refine wpS_forRange (λj c st'=>st'=setG st g/\c.1=none/\MH LT a b c.2.2.2.1 c.2.1 c.2.2.1/\(1<=c.2.1/\c.2.1<a.size)/\(2<=c.2.2.1/\c.2.2.1<=b.size)/\c.2.1+c.2.2.1+j<=na+nb) ?_ ?_ ⟨rfl,rfl,M,h1,h2,aH _⟩
    ·clear M;refine λj=>pr6 λc0 Ht HP out ac bc st' _ hj y=>stE y.1 ?_
     have M:=y.2.2.1;have g1:=y.2.2.2.1;have g2:=y.2.2.2.2.1;have g3:=y.2.2.2.2.2;clear y;dsimp only at M g1 g2 g3 ⊢;refine au (zc (qt (show HP-1<b.size by lia)) ?_);refine au (zc (qt (show Ht-1<a.size by lia)) ?_);refine au (i3 C (Db _ (by lia)) (Da _ (by lia)) hk ?_);obtain⟨Hx,rfl⟩:∃n,Ht=n+1:=⟨Ht-1,by lia⟩
     obtain⟨Gy,rfl⟩:∃n,HP=n+1:=⟨HP-1,by lia⟩
     simp only[Nat.add_sub_cancel];refine wpI (λq=>?_) λq=>?_
     ·refine au (zc (qt (show Hx<a.size by lia)) ?_);have M2:=M.pushA W Sa Sb (by lia) (by lia) λ_=>q
      refine wpI (λe3=>?_) λe3=>?_
      ·exact av ⟨rfl,.inl ⟨_,rfl,M2.done W Sa Sb (.inl (by simpa using e3))⟩⟩
      have J5:Hx≠0:=by simpa using e3
      refine wpI (λe4=>?_) λe4=>?_
      ·exact av ⟨rfl,.inr ⟨rfl,M2,by show 1<=Hx/\Hx<a.size;lia,g2,by show Hx+(Gy+1)+1<=na+nb;lia⟩⟩
      ·exact av ⟨rfl,rfl,M2,by show 1<=Hx/\Hx<a.size;lia,g2,by show Hx+(Gy+1)+(j+1)<=na+nb;lia⟩
     ·have q:=eq_false_of_ne_true q;refine au (zc (qt (show Gy<b.size by lia)) ?_);have M2:=M.pushB W Sa Sb (by lia) (by lia) λ_=>q
      refine wpI (λe3=>?_) λe3=>?_
      ·exact av ⟨rfl,.inl ⟨_,rfl,M2.first W Sa Sb (by simpa using e3) fst⟩⟩
      have J5:Gy≠1:=by simpa using e3
      refine wpI (λe4=>?_) λe4=>?_
      ·exact av ⟨rfl,.inr ⟨rfl,M2,g1,by show 2<=Gy/\Gy<=b.size;lia,by show Hx+1+Gy+1<=na+nb;lia⟩⟩
      ·exact av ⟨rfl,rfl,M2,g1,by show 2<=Gy/\Gy<=b.size;lia,by show Hx+1+Gy+(j+1)<=na+nb;lia⟩
    ·clear M;rintro⟨c0,Ht,HP,out,ac,bc⟩ st' ⟨rfl,rfl,M,g1,g2,g3⟩;dsimp only at M g1 g2 g3;exact absurd g3 (by lia)
   ·refine pr6 λc0 Ht HP out ac bc st' y=>stE y.1 ?_
    have hc:=y.2;clear y;dsimp only at hc ⊢;rcases hc with ⟨r,rfl,hm⟩|⟨rfl,M,g1,g2,g3⟩
    ·exact av ⟨r,g,rfl,hm,rfl⟩
    dsimp only;refine au (wpS_lift (wpAny_rule ⟨rfl,?_⟩));refine au (wpS_mono (Q:=λc st'=>∃g,st'=setG st g/\((∃r,c.1=some r/\Mg LT a b r)\/(c.1=none/\MH LT a b c.2.2.2.1 c.2.1 c.2.2.1/\(1<=c.2.1/\c.2.1<a.size)/\(2<=c.2.2.1/\c.2.2.1<=b.size)/\c.2.1+c.2.2.1+1<=na+nb))) ?_ ?_)
    ·refine wpS_forRange (λj c st'=>∃g,st'=setG st g/\c.1=none/\MH LT a b c.2.2.2.1 c.2.1 c.2.2.1/\(1<=c.2.1/\c.2.1<a.size)/\(2<=c.2.2.1/\c.2.2.1<=b.size)/\c.2.1+c.2.2.1+1+j<=na+nb) ?_ ?_ ⟨g,rfl,rfl,M,g1,g2,g3⟩
     ·clear M g1 g2 g3;refine λj=>pr7 λc0 Ht HP out G7 ac bc st' _ hj x=>exE (λg y=>stE y.1 ?_) x
      clear x;have M:=y.2.2.1;have g1:=y.2.2.2.1;have g2:=y.2.2.2.2.1;have g3:=y.2.2.2.2.2;clear y;dsimp only at M g1 g2 g3 ⊢;obtain⟨Gy,rfl⟩:∃n,HP=n+1:=⟨HP-1,by lia⟩
      revert G7;refine share1 (λH G7=>?_) ?_
      ·by_cases e0:¬ G7>1
       ·rw[if_neg e0];exact H G7
       ·rw[if_pos (Decidable.not_not.mp e0)];exact H (G7-1)
      intro OM;refine au (wpS_modify ?_);refine au (zc (qt (show Gy+1-1<b.size by lia)) ?_);refine au (iz C hk (Db _ (by lia)) (λi=>at' a i) (λi hi=>⟨by rw[Nat.zero_add];exact qt (by lia),Da _ (by lia)⟩) (by lia) (nZ W Sa (by lia)) λk l1 l2 l3=>?_);simp only[Nat.add_sub_cancel]at l2 l3;dsimp only;have t2:∀i,i<k->LT (at' b Gy) (at' a i)=false:=λi g1=>by
       have this:(!LT (at' b Gy) (at' a i))=true:=l2 i g1
       simpa using this
      have t3:∀i,k<=i->i<Ht->LT (at' b Gy) (at' a i)=true:=λi z1 z2=>by
       have this:(!LT (at' b Gy) (at' a i))=false:=l3 i z1 z2
       simpa using this
      generalize Qx:Ht-k=ac2;generalize hu:out=u;generalize hv:Ht=v;revert u v;refine jZ (λHk Ku=>MH LT a b Hk Ku (Gy+1)/\1<=Ku/\Ku<=Ht/\LT (at' b Gy) (at' a (Ku-1))=false) (λH u hu v hv=>?_) ?_
      ·subst hu;subst hv;by_cases e4:¬ ac2>0
       ·rw[if_neg e4];exact H out Ht ⟨M,by lia,aH _,t2 _ (by lia)⟩
       ·rw[if_pos (Decidable.not_not.mp e4)];have M2:=M.takeA W Sa (by lia) k (by lia) λi g1 g2 j' g3=>W.neg _ _ _ (du W Sb (show j'<=Gy by lia) (by lia)) (W.asym _ _ (t3 i g1 g2))
        refine wpI (λe3=>?_) λe3=>?_
        ·exact av ⟨_,rfl,.inl ⟨_,rfl,M2.done W Sa Sb (.inl (by simpa using e3))⟩⟩
        have J5:k≠0:=by simpa using e3
        exact H _ _ ⟨M2,by lia,by lia,t2 _ (by lia)⟩
      rintro Jf Hx ⟨M2,Qy,MP,q2⟩;obtain⟨Hy,rfl⟩:∃n,Hx=n+1:=⟨Hx-1,by lia⟩
      try dsimp only
      simp only[Nat.add_sub_cancel];refine au (zc (qt (show Gy<b.size by lia)) ?_);have M3:=M2.pushB W Sa Sb (by lia) (by lia) λ_=>q2
      refine wpI (λe5=>?_) λe5=>?_
      ·exact av ⟨_,rfl,.inl ⟨_,rfl,M3.first W Sa Sb (by simpa using e5) fst⟩⟩
      have Nb:Gy≠1:=by simpa using e5
      refine au (zc (qt (show Hy<a.size by lia)) ?_);generalize Jf.push (at' b Gy)=out5 at M3 ⊢;refine au (iz C hk (Da _ (by lia)) (λi=>at' b i) (λi hi=>⟨by rw[Nat.zero_add];exact qt (by lia),Db _ (by lia)⟩) (by lia) (nZ W Sb (by lia)) λk' l1' Nf l3'=>?_);dsimp only;generalize Qz:Gy-k'=bc2;generalize hu:out5=u;generalize hv:Gy=v;revert u v;refine jZ (λHk Kv=>MH LT a b Hk (Hy+1) Kv/\2<=Kv/\Kv<=Gy/\LT (at' b (Kv-1)) (at' a Hy)=true) (λH u hu v hv=>?_) ?_
      ·subst hu;subst hv;by_cases e6:¬ bc2>0
       ·rw[if_neg e6];exact H out5 Gy ⟨M3,by lia,aH _,Nf (Gy-1) (by lia)⟩
       ·rw[if_pos (Decidable.not_not.mp e6)];have M4:=M3.takeB W Sb (by lia) k' (by lia) λi g1 g2 j' g3=>by
         have z:LT (at' b i) (at' a Hy)=false:=l3' i g1 g2;exact W.neg _ _ _ (du W Sa (show j'<=Hy by lia) (by lia)) z
        refine wpI (λe8=>?_) λe8=>?_
        ·exact av ⟨_,rfl,.inl ⟨_,rfl,M4.first W Sa Sb (by simpa using e8) fst⟩⟩
        have OO:k'≠1:=by simpa using e8
        refine wpI (λe9=>?_) λe9=>?_
        ·exact av ⟨_,rfl,.inl ⟨_,rfl,M4.done W Sa Sb (.inr (by simpa using e9))⟩⟩
        have ON:k'≠0:=by simpa using e9
        exact H _ _ ⟨M4,by lia,by lia,Nf (k'-1) (by lia)⟩
      rintro Mh nb4 ⟨M4,Ng,QA,q5⟩
      try dsimp only
      refine au (zc (qt (show Hy<a.size by lia)) ?_);have M5:=M4.pushA W Sa Sb (by lia) (by lia) λ_=>q5
      refine wpI (λe7=>?_) λe7=>?_
      ·exact av ⟨_,rfl,.inl ⟨_,rfl,M5.done W Sa Sb (.inl (by simpa using e7))⟩⟩
      have OP:Hy≠0:=by simpa using e7
      split
      ·exact av ⟨_,rfl,.inr ⟨rfl,M5,by show 1<=Hy/\Hy<a.size;lia,by show 2<=nb4/\nb4<=b.size;lia,by show Hy+nb4+1<=na+nb;lia⟩⟩
      ·exact av ⟨_,rfl,rfl,M5,by show 1<=Hy/\Hy<a.size;lia,by show 2<=nb4/\nb4<=b.size;lia,by show Hy+nb4+1+(j+1)<=na+nb;lia⟩
     ·clear M g1 g2 g3;rintro⟨c0,Ht,HP,out,G7,ac,bc⟩ st' ⟨g,rfl,rfl,M,g1,g2,g3⟩;dsimp only at M g1 g2 g3;exact absurd g3 (by lia)
    ·refine pr7 λc0 Ht HP out G7 ac bc st' x=>exE (λg y=>stE y.1 ?_) x
     clear x;have hc:=y.2;clear y;dsimp only at hc ⊢;rcases hc with ⟨r,rfl,hm⟩|⟨rfl,M,g1,g2,g3⟩
     ·exact av ⟨r,g,rfl,hm,rfl⟩
     dsimp only;refine au (wpS_modify ?_);exact av ⟨G7+1,rfl,rfl,M,g1,g2,by show Ht+HP+(i+1)<=a.size+b.size;lia⟩
  ·rintro⟨c0,na,nb,out,mg⟩ st' ⟨g,rfl,rfl,M,h1,h2,h3⟩;dsimp only at M h1 h2 h3;exact absurd h3 (by lia)
 ·rintro⟨c0,na,nb,out,mg⟩ st' ⟨r,g,hr,hm,rfl⟩;dsimp only at hr ⊢;subst hr;exact av (h r g hm)
end
structure Rk(D:aq->Prop)(LT:aq->aq->Bool)(R:aq->Int):Prop where
 rk:∀x y,D x->D y->LT x y=decide (R x<R y)
structure SB(κ:SortKind)(p:Array (Nat×Nat×Nat))(a₁:Array aq)(lo:Nat)(st:aK):Prop where
 kd:kindOf st=κ
 fl:failedOf st=none
 pn:aZ st=p
 pm:(ah st).Perm a₁
 lw:∀i,i<lo->at' (ah st) i=at' a₁ i
noncomputable def Kr(R:aq->Int)(xs:Array aq)(i:Nat):Int:=R (at' xs i)
def Seg(R:aq->Int)(xs:Array aq)(lo n:Nat):Prop:=∀i j,i<=j->j<n->Kr R xs (lo+i)<=Kr R xs (lo+j)
def Dsc(R:aq->Int)(xs:Array aq)(lo n:Nat):Prop:=∀i j,i<=j->j<n->Kr R xs (lo+j)<=Kr R xs (lo+i)
theorem gO{xs ys:Array aq}{i j:Nat}(h:xs[i]? = ys[j]?):at' xs i=at' ys j:=by
 unfold at';rw[Array.getD_eq_getD_getElem?,Array.getD_eq_getD_getElem?,h]
theorem pv{xs:Array aq}{src d:Nat}(hs:src<xs.size)(hd:d<=src)(k:Nat) :
  at' (bubble xs src d) k=if k=src-d then at' xs src else if src-d<k/\k<=src then at' xs (k-1)else at' xs k:=by
 have e:=getElem?_bubble hs d hd k;by_cases h1:k=src-d
 ·rw[if_pos h1]at e ⊢;exact gO e
 ·rw[if_neg h1]at e ⊢;by_cases h2:src-d<k/\k<=src
  ·rw[if_pos h2]at e ⊢;exact gO e
  ·rw[if_neg h2]at e ⊢;exact gO e
theorem oo{xs:Array aq}{i j:Nat}(hj:j<=xs.size)(k:Nat) :
  at' (aW xs i j ((j-i)/2)) k=if i<=k/\k<j then at' xs (i+j-1-k)else at' xs k:=by
 have e:=getElem?_mirror_all (i:=i) hj k;by_cases h1:i<=k/\k<j
 ·rw[if_pos h1]at e ⊢;exact gO e
 ·rw[if_neg h1]at e ⊢;exact gO e
section
variable{prog:aF}{w:aB}{A:aG}{E:ae->af->Prop}{s:af}{κ:SortKind}{D:aq->Prop}{LT:aq->aq->Bool}{R:aq->Int}{p:Array (Nat×Nat×Nat)}{a₁:Array aq}{lo:Nat}
theorem sT{xs:Array aq}{src d:Nat}(hs:src<xs.size)(hd:d<=src)(k:Nat) :
  Kr R (bubble xs src d) k=if k=src-d then Kr R xs src else if src-d<k/\k<=src then Kr R xs (k-1)else Kr R xs k:=by
 unfold Kr;rw[pv hs hd];repeat' split
 all_goals rfl
theorem lC{xs:Array aq}{i j:Nat}(hj:j<=xs.size)(k:Nat) :
  Kr R (aW xs i j ((j-i)/2)) k=if i<=k/\k<j then Kr R xs (i+j-1-k)else Kr R xs k:=by
 unfold Kr;rw[oo hj];split
 all_goals rfl
theorem jL{xs:Array aq}{i j:Nat}(hj:j<=xs.size)(heq:∀k,i<=k->k<j->Kr R xs k=Kr R xs (j-1))(k:Nat) :
  Kr R (aW xs i j ((j-i)/2)) k=Kr R xs k:=by
 rw[lC hj];split
 ·rw[heq _ (by lia) (by lia),heq k (by lia) (by lia)]
 ·rfl
theorem SB.size{st:aK}(h:SB κ p a₁ lo st):(ah st).size=a₁.size:=h.pm.size_eq
theorem SB.dom{st:aK}(h:SB κ p a₁ lo st)(Da:∀x∈a₁.toList,D x){i:Nat}(hi:i<a₁.size):D (at' (ah st) i):=
 Da _ ((Array.perm_iff_toList_perm.mp h.pm).mem_iff.mp (jE (by rw[h.size];exact hi)))
theorem SB.setArr{st:aK}(h:SB κ p a₁ lo st){xs:Array aq}(hp:xs.Perm (ah st))(hl:∀i,i<lo->at' xs i=at' (ah st) i):SB κ p a₁ lo (setArr st xs):=
 ⟨h.kd,h.fl,h.pn,hp.trans h.pm,λi hi=>(hl i hi).trans (h.lw i hi)⟩
theorem SB.mir{st:aK}(h:SB κ p a₁ lo st){i j:Nat}(hi:lo<=i)(hj:j<=a₁.size):SB κ p a₁ lo (PyProof.Rows.setArr st (aW (ah st) i j ((j-i)/2))):=
 h.setArr (mirror_perm _ _ _ _) λk hk=>by
  rw[oo (by rw[h.size];exact hj),if_neg (by lia)]
theorem eI{st:aK}{i j:Nat}{Q:Option Bool->aK->Prop}(C:Cmp prog w A s κ D LT)(K:Rk D LT R)(Da:∀x∈a₁.toList,D x)(hB:SB κ p a₁ lo st)(hi:i<a₁.size)(hj:j<a₁.size)
  (h:Q (some (decide (Kr R (ah st) i<Kr R (ah st) j))) st):wpS (ao prog w) A E s (ltAt' i j) Q st:=by
 rw[ltAt'_eq];refine au (wpS_get ?_);refine au (zc (qt (by rw[hB.size];exact hi)) ?_);refine au (zc (qt (by rw[hB.size];exact hj)) ?_);refine i3 C (hB.dom Da hi) (hB.dom Da hj) hB.kd ?_;rw[K.rk _ _ (hB.dom Da hi) (hB.dom Da hj)];exact h
structure Hf(R:aq->Int)(xs:Array aq)(lo k x l r:Nat):Prop where
 lr:l<=r
 rk:r<=k
 fu:r-l+x<=k
 low:∀i,lo<=i->i<lo+l->Kr R xs i<=Kr R xs (lo+k)
 upp:∀i,lo+r<=i->i<lo+k->Kr R xs (lo+k)<Kr R xs i
theorem Seg.at{xs:Array aq}{n:Nat}(S:Seg R xs lo n){i j:Nat}(a:lo<=i)(b:i<=j)(c:j<lo+n):Kr R xs i<=Kr R xs j:=by
 have z:=S (i-lo) (j-lo) (by lia) (by lia)
 rwa[Nat.add_sub_cancel' a,Nat.add_sub_cancel' (br a b)]at z
theorem Hf.go{xs:Array aq}{k x l r:Nat}(h:Hf R xs lo k x l r)(S:Seg R xs lo k)(hl:l<r) :
  (Kr R xs (lo+k)<Kr R xs (lo+(l+r)/2)->Hf R xs lo k (x+1) l ((l+r)/2))/\(¬ Kr R xs (lo+k)<Kr R xs (lo+(l+r)/2)->Hf R xs lo k (x+1) ((l+r)/2+1) r):=by
 have:=h.rk;have:=h.fu;refine⟨λz=>⟨by lia,by lia,by lia,h.low,λi a b=>Int.lt_of_lt_of_le z (S.at (by lia) a (by lia))⟩,λz=>⟨by lia,h.rk,by lia,λi a b=>?_,h.upp⟩⟩;have:=S.at (i:=i) (j:=lo+(l+r)/2) a (by lia) (by lia);lia
theorem Hf.put{xs:Array aq}{k x l:Nat}(h:Hf R xs lo k x l l)(hk:lo+k<xs.size)(S:Seg R xs lo k) :
  Seg R (bubble xs (lo+k) (lo+k-(lo+l))) lo (k+1)/\∀i,i<lo->at' (bubble xs (lo+k) (lo+k-(lo+l))) i=at' xs i:=by
 have:=h.rk;have e:lo+k-(lo+k-(lo+l))=lo+l:=by lia
 refine⟨λi j Ge hj=>?_,λi hi=>by rw[pv hk (by lia),if_neg (by lia),if_neg (by lia)]⟩;rw[sT hk (by lia),sT hk (by lia),e];by_cases ai:lo+i=lo+l<;>by_cases aj:lo+j=lo+l<;>by_cases bi:lo+l<lo+i/\lo+i<=lo+k<;>by_cases bj:lo+l<lo+j/\lo+j<=lo+k<;>simp only[ai,aj,bi,bj,if_true,if_false,and_self]<;>first
  | (exfalso;lia)
  |lia
  |exact h.low _ (by lia) (by lia)
  |exact Int.le_of_lt (h.upp _ (by lia) (by lia))
  |exact S.at (by lia) (by lia) (by lia)
theorem DP(C:Cmp prog w A s κ D LT)(K:Rk D LT R)(Da:∀x∈a₁.toList,D x){st:aK}{n ok:Nat}{Q:Bool->aK->Prop}(hn:lo+n<=a₁.size)(hok:ok<=n)(hB:SB κ p a₁ lo st)(hs:Seg R (ah st) lo ok)
  (h:∀st',SB κ p a₁ lo st'->Seg R (ah st') lo n->Q true st'):wpS (ao prog w) A E s (binarySort' lo n ok) Q st:=by
 rw[binarySort'_eq];have Mi:Seg R (ah st) lo (min (max ok 1) n):=λi j a b=>by
  by_cases z:ok=0
  ·rw[show i=j by lia];exact Int.le_refl _
  ·exact hs i j a (by lia)
 refine au (wpS_mono (wpS_forRange (λk c t=>c=(none,())/\SB κ p a₁ lo t/\Seg R (ah t) lo (min k n)) (Q:=λc t=>c=(none,())/\SB κ p a₁ lo t/\Seg R (ah t) lo n) ?_ ?_ ⟨rfl,hB,Mi⟩) λc t ⟨e,b,z⟩=>by rw[e];exact av (h t b z))
 ·rintro k c t k1 k2 ⟨rfl,B,S⟩;rw[Nat.min_eq_left (Nat.le_of_lt k2)]at S;have kz:lo+k<a₁.size:=by lia
  have OQ:lo+k<(ah t).size:=by rw[B.size];exact kz
  refine au (wpS_mono (wpS_forRange (λx c u=>u=t/\∃l r,c=(none,l,r)/\Hf R (ah t) lo k x l r) (Q:=λc u=>u=t/\∃x l,c=(none,l,l)/\Hf R (ah t) lo k x l l) ?_ ?_ ⟨rfl,0,k,rfl,bU _,aH _,by lia,λi a b=>by lia,λi a b=>by lia⟩) ?_)
  ·rintro x c u _ x2 ⟨rfl,l,r,rfl,f⟩;dsimp only;have:=f.lr;by_cases z:l >= r
   ·rw[if_pos z];obtain rfl:l=r:=by lia
    exact av ⟨rfl,x,l,rfl,f⟩
   rw[if_neg z];have:=f.rk;refine au (eI C K Da B kz (by lia) ?_);obtain⟨g1,g2⟩:=f.go S (by lia);cases q:decide (Kr R (ah u) (lo+k)<Kr R (ah u) (lo+(l+r)/2))with
   |true=>exact av ⟨rfl,_,_,rfl,g1 (of_decide_eq_true q)⟩
   |false=>exact av ⟨rfl,_,_,rfl,g2 (of_decide_eq_false q)⟩
  ·rintro c u ⟨rfl,l,r,rfl,f⟩;have:=f.lr;have:=f.fu;obtain rfl:l=r:=by lia
   exact⟨rfl,_,l,rfl,f⟩
  ·rintro c u ⟨rfl,x,l,rfl,f⟩;obtain⟨g1,g2⟩:=f.put OQ S;dsimp only;rw[moveDown'_eq];refine au (wpS_modify (av ⟨rfl,B.setArr (bubble_perm _ _ _) g2,?_⟩));rw[Nat.min_eq_left k2];exact g1
 ·rintro c t ⟨e,b,z⟩;rw[show min (max (max ok 1) n) n=n by lia]at z;exact⟨e,b,z⟩
end
section
variable{prog:aF}{w:aB}{A:aG}{E:ae->af->Prop}{s:af}{κ:SortKind}{D:aq->Prop}{LT:aq->aq->Bool}{R:aq->Int}{p:Array (Nat×Nat×Nat)}{a₁:Array aq}{lo:Nat}{xs:Array aq}
theorem Seg.one:Seg R xs lo 1:=λi j a b=>by rw[show i=j by lia];exact Int.le_refl _
theorem Seg.more{n:Nat}(S:Seg R xs lo n)(z:1<=n->Kr R xs (lo+n-1)<=Kr R xs (lo+n)):Seg R xs lo (n+1):=λi j a b=>by
 by_cases c:j=n
 ·subst c;by_cases d:i=j
  ·rw[d];exact Int.le_refl _
  ·have y:=S i (j-1) (by lia) (by lia);rw[show lo+(j-1)=lo+j-1 by lia]at y;exact Int.le_trans y (z (by lia))
 ·exact S i j a (by lia)
theorem Dsc.one:Dsc R xs lo 1:=λi j a b=>by rw[show i=j by lia];exact Int.le_refl _
theorem Dsc.more{n:Nat}(S:Dsc R xs lo n)(z:1<=n->Kr R xs (lo+n)<=Kr R xs (lo+n-1)):Dsc R xs lo (n+1):=λi j a b=>by
 by_cases c:j=n
 ·subst c;by_cases d:i=j
  ·rw[d];exact Int.le_refl _
  ·have y:=S i (j-1) (by lia) (by lia);rw[show lo+(j-1)=lo+j-1 by lia]at y;exact Int.le_trans (z (by lia)) y
 ·exact S i j a (by lia)
theorem Dsc.alike{ys:Array aq}{n:Nat}(S:Dsc R xs lo n)(e:∀k,Kr R ys k=Kr R xs k):Dsc R ys lo n:=λi j a b=>by rw[e,e];exact S i j a b
theorem iU{st:aK}{a nrem:Nat}{β:Type}{mk:Nat->β}{Q:β->aK->Prop}(hn:lo+nrem<=a₁.size)(ha:1<=a)(Nh:a<=nrem)(S0:Seg R (ah st) lo a)
  {body:Nat->β->StateT aK Sem (ForInStep β)}
  (hb:∀x n (Q':ForInStep β->aK->Prop),lo+n<a₁.size->1<=n->(Kr R (ah st) (lo+n)<Kr R (ah st) (lo+n-1)->Q' (.done (mk n)) st)->(¬ Kr R (ah st) (lo+n)<Kr R (ah st) (lo+n-1)->Q' (.yield (mk (n+1))) st)->wpS (ao prog w) A E s (body x (mk n)) Q' st)
  (h:∀n,a<=n->n<=nrem->Seg R (ah st) lo n->(n≠nrem->Kr R (ah st) (lo+n)<Kr R (ah st) (lo+n-1))->Q (mk n) st) :
  wpS (ao prog w) A E s (forIn [a:nrem] (mk a) body) Q st:=
 wpS_forRange (λx c t=>t=st/\c=mk x/\Seg R (ah st) lo x) (λx c t x1 x2 ⟨e1,e2,S⟩=>by
   subst e1 e2;exact hb x x _ (by lia) (by lia) (λz=>h x x1 (by lia) S λ_=>z) λz=>⟨rfl,rfl,S.more λ_=>by lia⟩)
  (λc t ⟨e1,e2,S⟩=>by
   subst e1 e2;rw[Nat.max_eq_right Nh]at S ⊢;exact h nrem Nh (aH _) S λz=>absurd rfl z) ⟨rfl,rfl,S0⟩
theorem Dsc.turn{n:Nat}(S:Dsc R xs lo n)(hz:lo+n<=xs.size):Seg R (aW xs lo (lo+n) ((lo+n-lo)/2)) lo n:=λi j a b=>by
 have y:=S (n-1-j) (n-1-i) (by lia) (by lia);rw[show lo+(n-1-j)=lo+(lo+n)-1-(lo+j)by lia,show lo+(n-1-i)=lo+(lo+n)-1-(lo+i)by lia]at y
 rwa[lC hz,lC hz,if_pos ⟨by lia,by lia⟩,if_pos ⟨by lia,by lia⟩]
def Flat(R:aq->Int)(xs:Array aq)(lo m Gb:Nat):Prop:=∀i,lo+m-(Gb+1)<=i->i<lo+m->Kr R xs i=Kr R xs (lo+m-1)
theorem Flat.zero{m:Nat}:Flat R xs lo m 0:=λi a b=>by rw[show i=lo+m-1 by lia]
theorem Flat.more{m Gb:Nat}(f:Flat R xs lo m Gb)(z:Kr R xs (lo+m)=Kr R xs (lo+m-1)):Flat R xs lo (m+1) (Gb+1):=λi a b=>by
 rw[show lo+(m+1)-1=lo+m by lia];by_cases c:i=lo+m
 ·rw[c]
 ·rw[z];exact f i (by lia) (by lia)
theorem nU{st:aK}{n nrem:Nat}{β:Type}{mk:Nat->Nat->β}{Q:β->aK->Prop}(hn:lo+nrem<=a₁.size)(h1:1<=n)(Ni:n<=nrem)(B0:SB κ p a₁ lo st)(S0:Dsc R (ah st) lo n)
  {body:Nat->β->StateT aK Sem (ForInStep β)}
  (hb:∀x n Gb t (Q':ForInStep β->aK->Prop),SB κ p a₁ lo t->lo+n<a₁.size->1<=n ->
   (Kr R (ah t) (lo+n)<Kr R (ah t) (lo+n-1)->Gb>0->Q' (.yield (mk (n+1) 0)) (setArr t (aW (ah t) (lo+n-(Gb+1)) (lo+n) ((lo+n-(lo+n-(Gb+1)))/2)))) ->
   (Kr R (ah t) (lo+n)<Kr R (ah t) (lo+n-1)->¬ Gb>0->Q' (.yield (mk (n+1) 0)) t) ->
   (Kr R (ah t) (lo+n-1)<Kr R (ah t) (lo+n)->Q' (.done (mk n Gb)) t) ->
   (Kr R (ah t) (lo+n)=Kr R (ah t) (lo+n-1)->Q' (.yield (mk (n+1) (Gb+1))) t) ->
   wpS (ao prog w) A E s (body x (mk n Gb)) Q' t)
  (h:∀m Gb t,SB κ p a₁ lo t->n<=m->m<=nrem->Dsc R (ah t) lo m->Gb+1<=m->Flat R (ah t) lo m Gb->Q (mk m Gb) t) :
  wpS (ao prog w) A E s (forIn [n:nrem] (mk n 0) body) Q st:=
 wpS_forRange (λx c t=>∃Gb,c=mk x Gb/\SB κ p a₁ lo t/\Dsc R (ah t) lo x/\Gb+1<=x/\Flat R (ah t) lo x Gb) (λx c t x1 x2 ⟨Gb,e,B,S,q,f⟩=>by
   subst e;have hz:lo+x<=(ah t).size:=by rw[B.size];lia
   refine hb x x Gb t _ B (by lia) (by lia) (λz _=>?_) (λz _=>?_) (λ_=>h x Gb t B x1 (by lia) S q f) λz=>⟨Gb+1,rfl,B,S.more λ_=>Int.le_of_eq z,by lia,f.more z⟩
   ·exact⟨0,rfl,B.mir (by lia) (by lia),(S.more λ_=>Int.le_of_lt z).alike (jL hz f),by lia,Flat.zero⟩
   ·exact⟨0,rfl,B,S.more λ_=>Int.le_of_lt z,by lia,Flat.zero⟩)
  (λc t ⟨Gb,e,B,S,q,f⟩=>by
   subst e;rw[Nat.max_eq_right Ni]at S q f ⊢;exact h nrem Gb t B Ni (aH _) S q f) ⟨0,rfl,B0,S0,by lia,Flat.zero⟩
theorem D6(C:Cmp prog w A s κ D LT)(K:Rk D LT R)(Da:∀x∈a₁.toList,D x){st:aK}{nrem:Nat}{Q:Option Nat->aK->Prop}(hn:lo+nrem<=a₁.size)(h1:1<=nrem)(hB:SB κ p a₁ lo st)
  (h:∀m st',SB κ p a₁ lo st'->1<=m->m<=nrem->Seg R (ah st') lo m->Q (some m) st') :
  wpS (ao prog w) A E s (countRun' lo nrem) Q st:=by
 rw[countRun'_eq];refine au (iU (R:=R) (mk:=λn=>(none,n)) hn (aH 1) h1 Seg.one ?_ ?_)
 ·intro x n Q' hl n1 q1 q2;dsimp only;refine au (eI C K Da (hB) hl (by lia) ?_);cases z:decide (Kr R (ah st) (lo+n)<Kr R (ah st) (lo+n-1))with
  |true=>exact av (q1 (of_decide_eq_true z))
  |false=>exact av (q2 (of_decide_eq_false z))
 intro n n1 n2 S z;dsimp only;by_cases e:(n==nrem)=true
 ·rw[if_pos e];exact av (h n st hB n1 n2 S)
 rw[if_neg e];have e':n≠nrem:=by simpa using e
 have lt:=z e';have hz:lo+n<=(ah st).size:=by rw[hB.size];lia
 by_cases g:n>1
 ·rw[if_pos g];refine au (eI C K Da hB (by lia) (by lia) ?_);cases y:decide (Kr R (ah st) lo<Kr R (ah st) (lo+n-1))with
  |true=>exact av (h n st hB n1 n2 S)
  |false=>
   have y':=of_decide_eq_false y;have f:∀k,lo<=k->k<lo+n->Kr R (ah st) k=Kr R (ah st) (lo+n-1):=λk a b=>by
    have b1:=S.at (i:=lo) (j:=k) (aH _) a b;have b2:=S.at (i:=k) (j:=lo+n-1) a (by lia) (by lia);lia
   dsimp only;rw[if_neg cG];refine au (wpS_reverse ?_);have dB:SB κ p a₁ lo (setArr st (aW (ah st) lo (lo+n) ((lo+n-lo)/2))):=hB.mir (aH _) (by lia);have dS:Dsc R (ah (setArr st (aW (ah st) lo (lo+n) ((lo+n-lo)/2)))) lo (n+1):=Dsc.alike (xs:=ah st) (Dsc.more (λi j a b=>by rw[f (lo+i) (by lia) (by lia),f (lo+j) (by lia) (by lia)];exact Int.le_refl _) λ_=>Int.le_of_lt lt) (jL hz f);refine au (wpS_lift (wpAny_rule ⟨rfl,?_⟩));refine au (nU (mk:=λn q=>(none,n,q)) hn (by lia) (by lia) (dB) dS ?_ ?_)
   ·intro x n Gb t Q' tB hl n1 q1 q2 q3 q4;dsimp only;refine au (eI C K Da tB hl (by lia) ?_);cases z:decide (Kr R (ah t) (lo+n)<Kr R (ah t) (lo+n-1))with
    |true=>
     by_cases y:Gb>0
     ·dsimp only;rw[if_pos rfl,if_pos y];exact au (wpS_reverse (av (q1 (of_decide_eq_true z) y)))
     ·dsimp only;rw[if_pos rfl,if_neg y];exact av (q2 (of_decide_eq_true z) y)
    |false=>
     have z':=of_decide_eq_false z;refine au (eI C K Da tB (by lia) hl ?_);cases y:decide (Kr R (ah t) (lo+n-1)<Kr R (ah t) (lo+n))with
     |true=>exact av (q3 (of_decide_eq_true y))
     |false=>
      have y':=of_decide_eq_false y;exact av (q4 (by lia))
   ·intro m Gb t tB m1 m2 tS nm f;have hz:lo+m<=(ah t).size:=by rw[tB.size];lia
    dsimp only;by_cases y:Gb>0
    ·rw[if_pos y];refine au (wpS_reverse ?_);have MB:SB κ p a₁ lo (setArr t (aW (ah t) (lo+m-(Gb+1)) (lo+m) ((lo+m-(lo+m-(Gb+1)))/2))):=tB.mir (by lia) (by lia);have MS:Dsc R (ah (setArr t (aW (ah t) (lo+m-(Gb+1)) (lo+m) ((lo+m-(lo+m-(Gb+1)))/2)))) lo m:=tS.alike (jL hz f);refine au (wpS_reverse ?_);have TB:SB κ p a₁ lo (setArr (setArr t (aW (ah t) (lo+m-(Gb+1)) (lo+m) ((lo+m-(lo+m-(Gb+1)))/2))) (aW (ah (setArr t (aW (ah t) (lo+m-(Gb+1)) (lo+m) ((lo+m-(lo+m-(Gb+1)))/2)))) lo (lo+m) ((lo+m-lo)/2))):=(MB).mir (aH _) (by lia);refine au (iU (R:=R) (mk:=λn=>(none,n)) hn (by lia) m2 (Dsc.turn (MS) (by show lo+m<=(ah (setArr t (aW (ah t) (lo+m-(Gb+1)) (lo+m) ((lo+m-(lo+m-(Gb+1)))/2)))).size;rw[(MB).size];lia)) ?_ ?_)
     ·intro x n Q' hl n1 q1 q2;dsimp only;refine au (eI C K Da (TB) hl (by lia) ?_);cases z:decide (Kr R (ah (setArr (setArr t (aW (ah t) (lo+m-(Gb+1)) (lo+m) ((lo+m-(lo+m-(Gb+1)))/2))) (aW (ah (setArr t (aW (ah t) (lo+m-(Gb+1)) (lo+m) ((lo+m-(lo+m-(Gb+1)))/2)))) lo (lo+m) ((lo+m-lo)/2)))) (lo+n)<Kr R (ah (setArr (setArr t (aW (ah t) (lo+m-(Gb+1)) (lo+m) ((lo+m-(lo+m-(Gb+1)))/2))) (aW (ah (setArr t (aW (ah t) (lo+m-(Gb+1)) (lo+m) ((lo+m-(lo+m-(Gb+1)))/2)))) lo (lo+m) ((lo+m-lo)/2)))) (lo+n-1))with
      |true=>exact av (q1 (of_decide_eq_true z))
      |false=>exact av (q2 (of_decide_eq_false z))
     ·intro j j1 j2 j3 _;exact av (h j _ TB (by lia) j2 j3)
    ·rw[if_neg y];refine au (wpS_reverse ?_);have TB:SB κ p a₁ lo (setArr t (aW (ah t) lo (lo+m) ((lo+m-lo)/2))):=(tB).mir (aH _) (by lia);refine au (iU (R:=R) (mk:=λn=>(none,n)) hn (by lia) m2 (Dsc.turn (tS) (by show lo+m<=(ah t).size;rw[(tB).size];lia)) ?_ ?_)
     ·intro x n Q' hl n1 q1 q2;dsimp only;refine au (eI C K Da (TB) hl (by lia) ?_);cases z:decide (Kr R (ah (setArr t (aW (ah t) lo (lo+m) ((lo+m-lo)/2)))) (lo+n)<Kr R (ah (setArr t (aW (ah t) lo (lo+m) ((lo+m-lo)/2)))) (lo+n-1))with
      |true=>exact av (q1 (of_decide_eq_true z))
      |false=>exact av (q2 (of_decide_eq_false z))
     ·intro j j1 j2 j3 _;exact av (h j _ TB (by lia) j2 j3)
 ·rw[if_neg g];obtain rfl:n=1:=by lia
  have dS:Dsc R (ah st) lo (1+1):=Dsc.one.more λ_=>Int.le_of_lt lt
  refine au (wpS_lift (wpAny_rule ⟨rfl,?_⟩));refine au (nU (mk:=λn q=>(none,n,q)) hn (by lia) (by lia) (hB) dS ?_ ?_)
  ·intro x n Gb t Q' tB hl n1 q1 q2 q3 q4;dsimp only;refine au (eI C K Da tB hl (by lia) ?_);cases z:decide (Kr R (ah t) (lo+n)<Kr R (ah t) (lo+n-1))with
   |true=>
    by_cases y:Gb>0
    ·dsimp only;rw[if_pos rfl,if_pos y];exact au (wpS_reverse (av (q1 (of_decide_eq_true z) y)))
    ·dsimp only;rw[if_pos rfl,if_neg y];exact av (q2 (of_decide_eq_true z) y)
   |false=>
    have z':=of_decide_eq_false z;refine au (eI C K Da tB (by lia) hl ?_);cases y:decide (Kr R (ah t) (lo+n-1)<Kr R (ah t) (lo+n))with
    |true=>exact av (q3 (of_decide_eq_true y))
    |false=>
     have y':=of_decide_eq_false y;exact av (q4 (by lia))
  ·intro m Gb t tB m1 m2 tS nm f;have hz:lo+m<=(ah t).size:=by rw[tB.size];lia
   dsimp only;by_cases y:Gb>0
   ·rw[if_pos y];refine au (wpS_reverse ?_);have MB:SB κ p a₁ lo (setArr t (aW (ah t) (lo+m-(Gb+1)) (lo+m) ((lo+m-(lo+m-(Gb+1)))/2))):=tB.mir (by lia) (by lia);have MS:Dsc R (ah (setArr t (aW (ah t) (lo+m-(Gb+1)) (lo+m) ((lo+m-(lo+m-(Gb+1)))/2)))) lo m:=tS.alike (jL hz f);refine au (wpS_reverse ?_);have TB:SB κ p a₁ lo (setArr (setArr t (aW (ah t) (lo+m-(Gb+1)) (lo+m) ((lo+m-(lo+m-(Gb+1)))/2))) (aW (ah (setArr t (aW (ah t) (lo+m-(Gb+1)) (lo+m) ((lo+m-(lo+m-(Gb+1)))/2)))) lo (lo+m) ((lo+m-lo)/2))):=(MB).mir (aH _) (by lia);refine au (iU (R:=R) (mk:=λn=>(none,n)) hn (by lia) m2 (Dsc.turn (MS) (by show lo+m<=(ah (setArr t (aW (ah t) (lo+m-(Gb+1)) (lo+m) ((lo+m-(lo+m-(Gb+1)))/2)))).size;rw[(MB).size];lia)) ?_ ?_)
    ·intro x n Q' hl n1 q1 q2;dsimp only;refine au (eI C K Da (TB) hl (by lia) ?_);cases z:decide (Kr R (ah (setArr (setArr t (aW (ah t) (lo+m-(Gb+1)) (lo+m) ((lo+m-(lo+m-(Gb+1)))/2))) (aW (ah (setArr t (aW (ah t) (lo+m-(Gb+1)) (lo+m) ((lo+m-(lo+m-(Gb+1)))/2)))) lo (lo+m) ((lo+m-lo)/2)))) (lo+n)<Kr R (ah (setArr (setArr t (aW (ah t) (lo+m-(Gb+1)) (lo+m) ((lo+m-(lo+m-(Gb+1)))/2))) (aW (ah (setArr t (aW (ah t) (lo+m-(Gb+1)) (lo+m) ((lo+m-(lo+m-(Gb+1)))/2)))) lo (lo+m) ((lo+m-lo)/2)))) (lo+n-1))with
     |true=>exact av (q1 (of_decide_eq_true z))
     |false=>exact av (q2 (of_decide_eq_false z))
    ·intro j j1 j2 j3 _;exact av (h j _ TB (by lia) j2 j3)
   ·rw[if_neg y];refine au (wpS_reverse ?_);have TB:SB κ p a₁ lo (setArr t (aW (ah t) lo (lo+m) ((lo+m-lo)/2))):=(tB).mir (aH _) (by lia);refine au (iU (R:=R) (mk:=λn=>(none,n)) hn (by lia) m2 (Dsc.turn (tS) (by show lo+m<=(ah t).size;rw[(tB).size];lia)) ?_ ?_)
    ·intro x n Q' hl n1 q1 q2;dsimp only;refine au (eI C K Da (TB) hl (by lia) ?_);cases z:decide (Kr R (ah (setArr t (aW (ah t) lo (lo+m) ((lo+m-lo)/2)))) (lo+n)<Kr R (ah (setArr t (aW (ah t) lo (lo+m) ((lo+m-lo)/2)))) (lo+n-1))with
     |true=>exact av (q1 (of_decide_eq_true z))
     |false=>exact av (q2 (of_decide_eq_false z))
    ·intro j j1 j2 j3 _;exact av (h j _ TB (by lia) j2 j3)
end
theorem j9(a:Array aq)(i:Nat):at' a i=(a.toList[i]?).getD df:=by
 unfold at';rw[Array.getD_eq_getD_getElem?,Array.getElem?_toList]
theorem pB{a:Array aq}{i j m:Nat}(hj:j<=a.size)(hm:i+m<j):at' (a.extract i j) m=at' a (i+m):=by
 refine gO ?_;rw[Array.getElem?_extract,if_pos (by lia)]
noncomputable def putAll(s:Nat)(l:List aq)(n:Nat)(a:Array aq):Array Keyed:=(l.zipIdx n).foldl (λa (p:aq×Nat)=>a.setIfInBounds (s+p.2) p.1) a
theorem lV(s:Nat):∀(l:List aq) (n:Nat) (a:Array aq),s+n+l.length<=a.size->(putAll s l n a).toList=a.toList.take (s+n)++l++a.toList.drop (s+n+l.length)
 | [],n,a,_=>by
  show a.toList=_;simp
 |x::l,n,a,h=>by
  show (putAll s l (n+1) (a.setIfInBounds (s+n) x)).toList=_;rw[bM]at h;rw[lV s l (n+1) _ (by rw[Array.size_setIfInBounds];lia)];have hl:s+n<a.toList.length:=by rw[a_];lia
  rw[Array.toList_setIfInBounds,show s+(n+1)=s+n+1 by lia,List.take_set,List.drop_set,if_pos (by lia),bM,
   show s+n+1+l.length=s+n+(l.length+1)by lia]
  congr 1
  rw[show (x::l)=[x]++l from rfl,<-bu]
  congr 1
  rw[List.take_succ_eq_append_getElem hl,List.set_append_right _ _ (by rw[dH];lia),dH,Nat.min_eq_left (by lia),Nat.sub_self]
  rfl
theorem lx{s:Nat}{r a:Array aq}(h:s+r.size<=a.size)(t:Nat):at' (putAll s r.toList 0 a) t=if s<=t/\t<s+r.size then at' r (t-s)else at' a t:=by
 rw[j9,lV s _ _ _ (by rw[a_];lia),Nat.add_zero,a_];have h1:(a.toList.take s).length=s:=by rw[dH,a_];lia
 by_cases e1:t<s
 ·rw[if_neg (by lia),bu,List.getElem?_append_left (by lia),List.getElem?_take,if_pos e1,j9]
 ·rw[bu,List.getElem?_append_right (by lia),h1];by_cases e2:t<s+r.size
  ·rw[if_pos (by lia),List.getElem?_append_left (by rw[a_];lia),j9]
  ·rw[if_neg (by lia),List.getElem?_append_right (by rw[a_];lia),List.getElem?_drop,a_,j9]
   congr 2;lia
theorem tx{s e:Nat}{r x y a:Array aq}{m:Nat}(h1:s<=m)(h2:m<=e)(h3:e<=a.size)(hx:x=a.extract s m)(hy:y=a.extract m e)(hr:r.toList.Perm (x.toList++y.toList)):r.size=e-s/\(putAll s r.toList 0 a).Perm a:=by
 have hl:r.size=e-s:=by
  have:=hr.length_eq;rw[d_,a_,a_,a_,hx,hy,Array.size_extract,Array.size_extract]at this;lia
 refine⟨hl,Array.perm_iff_toList_perm.mpr ?_⟩;rw[lV s _ _ _ (by rw[a_];lia),Nat.add_zero,a_,hl];have Jv:x.toList++y.toList=(a.toList.drop s).take (e-s):=by
  rw[hx,hy,zJ,zJ,show e-s=(m-s)+(e-m)by lia,List.take_add,List.drop_drop,show s+(m-s)=m by lia]
 have e0:a.toList=a.toList.take s++(a.toList.drop s).take (e-s)++a.toList.drop (s+(e-s)):=by
  rw[bu,<-List.drop_drop,b8,b8]
 conv=>rhs;rw[e0]
 rw[Jv]at hr;exact(hr.append_left _).append_right _
section
variable{prog:aF}{w:aB}{A:aG}{E:ae->af->Prop}{s:af}{κ:SortKind}{D:aq->Prop}{LT:aq->aq->Bool}{R:aq->Int}
theorem Aj{a r x y:Array aq}{sa s' sb e' en:Nat}(h1:sa<=s')(h2:s'<sb)(h3:sb<=e')(h4:e'<=en)(h5:en<=a.size)
  (SX:∀i j,sa<=i->i<=j->j<sb->Kr R a i<=Kr R a j) (SY:∀i j,sb<=i->i<=j->j<en->Kr R a i<=Kr R a j)
  (F1:∀i,sa<=i->i<s'->Kr R a i<=Kr R a sb) (QB:sb<en) (F2:∀i,e'<=i->i<en->Kr R a (sb-1)<=Kr R a i)
  (hx:x=a.extract s' sb) (hy:y=a.extract sb e') (hr:r.toList.Perm (x.toList++y.toList)) (hs:∀i j,i<=j->j<r.size->Kr R r i<=Kr R r j) :
  ∀i j,sa<=i->i<=j->j<en->Kr R (putAll s' r.toList 0 a) i<=Kr R (putAll s' r.toList 0 a) j:=by
 have hp:=tx (by lia) h3 (by lia) hx hy hr;have mid:∀v,v<r.size->∃z,s'<=z/\z<e'/\at' r v=at' a z:=λv hv=>by
  have:=hr.mem_iff.mp (jE hv);rw[List.mem_append,hx,hy]at this;rcases this with q|q
  ·obtain⟨z,z1,z2,z3,z4⟩:=qJ q;exact⟨z,z1,by lia,z4⟩
  ·obtain⟨z,z1,z2,z3,z4⟩:=qJ q;exact⟨z,by lia,z2,z4⟩
 intro i j hi Ge hj;unfold Kr;rw[lx (by lia),lx (by lia)];by_cases ci:s'<=i/\i<s'+r.size
 ·rw[if_pos ci];by_cases cj:s'<=j/\j<s'+r.size
  ·rw[if_pos cj];exact hs _ _ (by lia) (by lia)
  ·rw[if_neg cj];obtain⟨z,z1,z2,z3⟩:=mid (i-s') (by lia);rw[z3];by_cases hz:z<sb
   ·exact Int.le_trans (SX z (sb-1) (by lia) (by lia) (by lia)) (F2 j (by lia) hj)
   ·exact SY z j (by lia) (by lia) hj
 ·rw[if_neg ci];by_cases cj:s'<=j/\j<s'+r.size
  ·rw[if_pos cj];obtain⟨z,z1,z2,z3⟩:=mid (j-s') (by lia);rw[z3];by_cases hz:z<sb
   ·exact SX i z hi (by lia) hz
   ·exact Int.le_trans (F1 i hi (by lia)) (SY sb z (by lia) (by lia) (by lia))
  ·rw[if_neg cj];by_cases c1:i<s'
   ·by_cases c2:j<s'
    ·exact SX i j hi Ge (by lia)
    ·exact Int.le_trans (F1 i hi c1) (SY sb j (by lia) (by lia) hj)
   ·exact SY i j (by lia) Ge hj
end
theorem Ct{σ:Type}{M:Model}{A:aG}{E:ae->af->Prop}{s:af}{x:σ}{Q:PUnit->σ->Prop}{st:σ}(h:Q ⟨⟩ x):wpS M A E s (set x:StateT σ Sem PUnit) Q st:=by
 unfold wpS;exact aA ⟨rfl,h⟩
section
variable{prog:aF}{w:aB}{A:aG}{E:ae->af->Prop}{s:af}{κ:SortKind}{D:aq->Prop}{LT:aq->aq->Bool}{R:aq->Int}
noncomputable def gM(p:Array (Nat×Nat×Nat))(i sa na nb pw:Nat):Array (Nat×Nat×Nat):=(p.setIfInBounds i (sa,na+nb,pw)).eraseIdxIfInBounds (i+1)
theorem wI(C:Cmp prog w A s κ D LT)(K:Rk D LT R){st:aK}{i sa na pw sb nb Nj:Nat}{Q:Bool->aK->Prop}(hk:kindOf st=κ)(hf:failedOf st=none)(Da:∀x∈(ah st).toList,D x)
  (h1:(aZ st)[i]? = some (sa,na,pw)) (h2:(aZ st)[i+1]? = some (sb,nb,Nj)) (MV:sb=sa+na) (Nc:1<=na) (Nd:1<=nb) (HC:sb+nb<=(ah st).size)
  (SX:Seg R (ah st) sa na) (SY:Seg R (ah st) sb nb)
  (h:∀st',kindOf st'=κ->failedOf st'=none->aZ st'=gM (aZ st) i sa na nb pw->(ah st').Perm (ah st)->(∀j,(j<sa\/sb+nb<=j)->at' (ah st') j=at' (ah st) j)->Seg R (ah st') sa (na+nb)->Q true st') :
  wpS (ao prog w) A E s (mergeAt' i) Q st:=by
 have dm:∀j,j<(ah st).size->D (at' (ah st) j):=λj hj=>Da _ (jE hj)
 have rk:∀x y,x<(ah st).size->y<(ah st).size->LT (at' (ah st) x) (at' (ah st) y)=decide (Kr R (ah st) x<Kr R (ah st) y):=λx y hx hy=>K.rk _ _ (dm x hx) (dm y hy)
 have SX':∀i j,sa<=i->i<=j->j<sb->Kr R (ah st) i<=Kr R (ah st) j:=λi j a b c=>by
  have:=SX (i-sa) (j-sa) (by lia) (by lia)
  rwa[show sa+(i-sa)=i by lia,show sa+(j-sa)=j by lia]at this
 have SY':∀i j,sb<=i->i<=j->j<sb+nb->Kr R (ah st) i<=Kr R (ah st) j:=λi j a b c=>by
  have:=SY (i-sb) (j-sb) (by lia) (by lia)
  rwa[show sb+(i-sb)=i by lia,show sb+(j-sb)=j by lia]at this
 have W:=C.wo;unfold mergeAt';refine au (wpS_get ?_);rw[h1,h2];dsimp only;refine au (Ct ?_);refine au (zc (qt (show sb<(ah st).size by lia)) ?_);refine au (iz C (by exact hk) (dm sb (by lia)) (λj=>at' (ah st) (sa+j)) (λj hj=>⟨qt (show sa+j<(ah st).size by lia),dm _ (by lia)⟩) (by lia) ?_ ?_)
 ·intro i j Ge hj hb;unfold bey at hb ⊢;simp only[bL,if_false]at hb ⊢;rw[rk _ _ (by lia) (by lia)]at hb ⊢;have:=SX' (sa+i) (sa+j) (by lia) (by lia) (by lia);simp only[bY,decide_eq_false_iff_not]at hb ⊢;lia
 intro k Jq hk2 hk3;dsimp only;have F1:∀j,sa<=j->j<sa+k->Kr R (ah st) j<=Kr R (ah st) sb:=λj a b=>by
  have:=hk2 (j-sa) (by lia);unfold bey at this;simp only[bL,if_false]at this;rw[show sa+(j-sa)=j by lia,rk _ _ (by lia) (by lia)]at this;simp only[bY,decide_eq_false_iff_not]at this;lia
 have F1':∀j,sa+k<=j->j<sb->Kr R (ah st) sb<Kr R (ah st) j:=λj a b=>by
  have:=hk3 (j-sa) (by lia) (by lia);unfold bey at this;simp only[bL,if_false]at this;rw[show sa+(j-sa)=j by lia,rk _ _ (by lia) (by lia)]at this;simp only[Bool.not_eq_false',decide_eq_true_eq]at this;lia
 by_cases e1:(na-k==0)=true
 ·rw[if_pos e1];have J3:na-k=0:=by simpa using e1
  refine av (h _ hk hf rfl (Array.Perm.refl _) (λ_ _=>rfl) ?_);intro x y Jv hy;show Kr R (ah st) (sa+x)<=Kr R (ah st) (sa+y);by_cases c:y<na
  ·exact SX x y Jv c
  ·by_cases c2:x<na
   ·exact Int.le_trans (F1 _ (by lia) (by lia)) (SY' sb _ (by lia) (by lia) (by lia))
   ·exact SY' _ _ (by lia) (by lia) (by lia)
 rw[if_neg e1];have J3:na-k≠0:=by simpa using e1
 rw[show sa+k+(na-k)-1=sb-1 by lia];refine au (zc (qt (show sb-1<(ah st).size by lia)) ?_);refine au (iz C (by exact hk) (dm (sb-1) (by lia)) (λj=>at' (ah st) (sb+j)) (λj hj=>⟨qt (show sb+j<(ah st).size by lia),dm _ (by lia)⟩) (by lia) ?_ ?_)
 ·intro i j Ge hj hb;unfold bey at hb ⊢;simp only[if_true]at hb ⊢;rw[rk _ _ (by lia) (by lia)]at hb ⊢;have:=SY' (sb+i) (sb+j) (by lia) (by lia) (by lia);simp only[decide_eq_true_eq]at hb ⊢;lia
 intro m Nk Mj hm3;dsimp only;have F2:∀j,sb<=j->j<sb+m->Kr R (ah st) j<Kr R (ah st) (sb-1):=λj a b=>by
  have:=Mj (j-sb) (by lia);unfold bey at this;simp only[if_true]at this;rw[show sb+(j-sb)=j by lia,rk _ _ (by lia) (by lia)]at this
  simpa using this
 have F2':∀j,sb+m<=j->j<sb+nb->Kr R (ah st) (sb-1)<=Kr R (ah st) j:=λj a b=>by
  have:=hm3 (j-sb) (by lia) (by lia);unfold bey at this;simp only[if_true]at this;rw[show sb+(j-sb)=j by lia,rk _ _ (by lia) (by lia)]at this;simp only[decide_eq_false_iff_not]at this;lia
 by_cases e2:(m==0)=true
 ·exfalso;have J4:m=0:=by simpa using e2
  have a1:=F1' (sb-1) (by lia) (by lia);have a2:=F2' sb (by lia) (by lia);lia
 rw[if_neg e2];have J4:m≠0:=by simpa using e2
 have sx:((ah st).extract (sa+k) sb).size=na-k:=by rw[Array.size_extract];lia
 have sy:((ah st).extract sb (sb+m)).size=m:=by rw[Array.size_extract];lia
 have ax:∀j,j<na-k->at' ((ah st).extract (sa+k) sb) j=at' (ah st) (sa+k+j):=λj hj=>pB (by lia) (by lia)
 have ay:∀j,j<m->at' ((ah st).extract sb (sb+m)) j=at' (ah st) (sb+j):=λj hj=>pB (by lia) (by lia)
 have Nl:∀(z:Array aq) (o:Nat),(∀j,j<z.size->o+j<(ah st).size/\at' z j=at' (ah st) (o+j))->(∀i j,i<=j->j<z.size->Kr R (ah st) (o+i)<=Kr R (ah st) (o+j))->Srt LT z.toList:=λz o hz hs=>by
  unfold Srt;rw[List.pairwise_iff_getElem];intro i j hi hj Ge;rw[a_]at hi hj;have b1:=qt hi;have b2:=qt hj;rw[Array.getElem?_eq_getElem hi]at b1;rw[Array.getElem?_eq_getElem hj]at b2;injection b1 with b1
  injection b2 with b2
  rw[Array.getElem_toList,Array.getElem_toList,b1,b2,(hz i hi).2,(hz j hj).2,rk _ _ (hz j hj).1 (hz i hi).1];have:=hs i j (by lia) hj;simp only[decide_eq_false_iff_not];lia
 have Sx:Srt LT ((ah st).extract (sa+k) sb).toList:=Nl _ (sa+k) (λj hj=>⟨by lia,ax j (by lia)⟩) (λi j Ge hj=>SX' _ _ (by lia) (by lia) (by lia));have Sy:Srt LT ((ah st).extract sb (sb+m)).toList:=Nl _ sb (λj hj=>⟨by lia,ay j (by lia)⟩) (λi j Ge hj=>SY' _ _ (by lia) (by lia) (by lia));have h0:LT (at' ((ah st).extract sb (sb+m)) 0) (at' ((ah st).extract (sa+k) sb) 0)=true:=by
  rw[ax 0 (by lia),ay 0 (by lia),rk _ _ (by lia) (by lia)];exact decide_eq_true (F1' _ (by lia) (by lia))
 have hl:∀j,j<((ah st).extract sb (sb+m)).size->LT (at' ((ah st).extract sb (sb+m)) j) (at' ((ah st).extract (sa+k) sb) (((ah st).extract (sa+k) sb).size-1))=true:=λj hj=>by
  rw[ax _ (by lia),ay j (by lia),sx,rk _ _ (by lia) (by lia),show sa+k+(na-k-1)=sb-1 by lia];exact decide_eq_true (F2 _ (by lia) (by lia))
 have Dx:∀j,j<((ah st).extract (sa+k) sb).size->D (at' ((ah st).extract (sa+k) sb) j):=λj hj=>by
  rw[ax j (by lia)];exact dm _ (by lia)
 have Dy:∀j,j<((ah st).extract sb (sb+m)).size->D (at' ((ah st).extract sb (sb+m)) j):=λj hj=>by
  rw[ay j (by lia)];exact dm _ (by lia)
 have fin:∀r g,Mg LT ((ah st).extract (sa+k) sb) ((ah st).extract sb (sb+m)) r->wpS (ao prog w) A E s (do
   modify λs=>setArr s (putAll (sa+k) r.toList 0 (ah s))
   return (failedOf (<-get)).isNone) Q (setG (setPending st (gM (aZ st) i sa na nb pw)) g):=λr g M=>by
  refine au (wpS_modify ?_);refine au (wpS_get ?_);refine av ?_;have hp:=tx (by lia) (by lia) (by lia) rfl rfl M.1;have e3:(failedOf (setArr (setG (setPending st (gM (aZ st) i sa na nb pw)) g) (putAll (sa+k) r.toList 0 (ah st)))).isNone=true:=by
   show (failedOf st).isNone=true;rw[hf];rfl
  show Q (failedOf (setArr (setG (setPending st (gM (aZ st) i sa na nb pw)) g) (putAll (sa+k) r.toList 0 (ah st)))).isNone _;rw[e3];refine h _ hk hf rfl hp.2 (λj hj=>?_) ?_
  ·show at' (putAll (sa+k) r.toList 0 (ah st)) j=_;rw[lx (by lia),if_neg (by lia)]
  ·have dr:∀j,j<r.size->D (at' r j):=λj hj=>by
    have:=M.1.mem_iff.mp (jE hj);rw[List.mem_append]at this;rcases this with q|q
    ·obtain⟨z,z1,z2,z3,z4⟩:=qJ q;rw[z4];exact dm z z3
    ·obtain⟨z,z1,z2,z3,z4⟩:=qJ q;rw[z4];exact dm z z3
   have:=Aj (R:=R) (a:=ah st) (sa:=sa) (s':=sa+k) (sb:=sb) (e':=sb+m) (en:=sb+nb) (by lia) (by lia) (by lia) (by lia) HC SX' SY' F1 (by lia) F2' rfl rfl M.1 (λx y Jv hy=>by
    have:=du W M.2 Jv hy;rw[K.rk _ _ (dr _ hy) (dr _ (by lia))]at this;simp only[decide_eq_false_iff_not]at this;unfold Kr;lia)
   intro x y Jv hy;exact this _ _ (by lia) (by lia) (by lia)
 by_cases e4:na-k<=m
 ·rw[if_pos e4];exact au (Cp C (by exact hk) Dx Dy Sx Sy (show 0<((ah st).extract (sa+k) sb).size by lia) (show 0<((ah st).extract sb (sb+m)).size by lia) h0 hl fin)
 ·rw[if_neg e4];exact au (DI C (by exact hk) Dx Dy Sx Sy (show 0<((ah st).extract (sa+k) sb).size by lia) (show 0<((ah st).extract sb (sb+m)).size by lia) h0 hl fin)
end
noncomputable def pr(x:Nat×Nat×Nat):Nat×Nat:=(x.1,x.2.1)
def Runs(R:aq->Int)(a:Array aq):Nat->List (Nat×Nat)->Nat->Prop
 |b,[],e=>b=e
 |b,x::l,e=>x.1=b/\1<=x.2/\Seg R a b x.2/\Runs R a (b+x.2) l e
section
variable{R:aq->Int}{a a':Array aq}
theorem Runs.le:∀{l:List (Nat×Nat)}{b e:Nat},Runs R a b l e->b+l.length<=e
 | [],b,e,h=>by simp only[List.length_nil];exact Nat.le_of_eq h
 |x::l,b,e,h=>by
  have:=h.2.2.2.le;have:=h.2.1;simp only[bM];lia
theorem Seg.congr{b n:Nat}(h:Seg R a b n)(hc:∀j,b<=j->j<b+n->at' a' j=at' a j):Seg R a' b n:=λi j Ge hj=>by
 unfold Kr;rw[hc _ (by lia) (by lia),hc _ (by lia) (by lia)];exact h i j Ge hj
theorem Runs.congr:∀{l:List (Nat×Nat)}{b e:Nat},Runs R a b l e->(∀j,b<=j->j<e->at' a' j=at' a j)->Runs R a' b l e
 | [],b,e,h,_=>h
 |x::l,b,e,h,hc=>by
  have:=h.2.2.2.le;exact⟨h.1,h.2.1,h.2.2.1.congr λj h1 h2=>hc j h1 (by lia),h.2.2.2.congr λj h1 h2=>hc j (by lia) h2⟩
theorem Runs.append:∀{l l':List (Nat×Nat)}{b e:Nat},Runs R a b (l++l') e↔∃m,Runs R a b l m/\Runs R a m l' e
 | [],l',b,e=>⟨λh=>⟨b,rfl,h⟩,λ⟨m,h1,h2⟩=>by cases h1;exact h2⟩
 |x::l,l',b,e=>by
  constructor
  ·rintro⟨h1,h2,h3,h4⟩;obtain⟨m,h5,h6⟩:=Runs.append.mp h4;exact⟨m,⟨h1,h2,h3,h5⟩,h6⟩
  ·rintro⟨m,⟨h1,h2,h3,h4⟩,h5⟩;exact⟨h1,h2,h3,Runs.append.mpr ⟨m,h4,h5⟩⟩
theorem Fy{α:Type}{l:List α}{i:Nat}{x y:α}(h1:l[i]? = some x)(h2:l[i+1]? = some y):∃u v,l=u++x::y::v/\u.length=i:=by
 obtain⟨hl,e2⟩:=List.getElem?_eq_some_iff.mp h2;obtain⟨JU,e1⟩:=List.getElem?_eq_some_iff.mp h1;refine⟨l.take i,l.drop (i+2),?_,by rw[dH];lia⟩
 conv=>lhs;rw[<-b8 i l]
 rw[fK JU,fK hl,e1,e2]
theorem AF{p:Array (Nat×Nat×Nat)}{u v:List (Nat×Nat×Nat)}{x y:Nat×Nat×Nat}{sa na nb pw:Nat}(h:p.toList=u++x::y::v):(gM p u.length sa na nb pw).toList=u++(sa,na+nb,pw)::v:=by
 unfold gM;have hs:p.size=u.length+v.length+2:=by rw[<-a_,h];simp;lia
 rw[Array.eraseIdxIfInBounds_eq,dif_pos (by rw[Array.size_setIfInBounds];lia),Array.toList_eraseIdx,Array.toList_setIfInBounds,h];rw[List.set_append_right _ _ (aH _),Nat.sub_self];rw[List.eraseIdx_append_of_length_le (by lia)];rw[show u.length+1-u.length=1 by lia]
 rfl
end
structure SR(κ:SortKind)(R:aq->Int)(a₁:Array aq)(lo:Nat)(st:aK):Prop where
 kd:kindOf st=κ
 fl:failedOf st=none
 pm:(ah st).Perm a₁
 rn:Runs R (ah st) 0 ((aZ st).toList.map pr) lo
 le:lo<=a₁.size
section
variable{prog:aF}{w:aB}{A:aG}{E:ae->af->Prop}{s:af}{κ:SortKind}{D:aq->Prop}{LT:aq->aq->Bool}{R:aq->Int}{a₁:Array aq}{lo:Nat}
theorem SR.sz{st:aK}(h:SR κ R a₁ lo st):(ah st).size=a₁.size:=h.pm.size_eq
theorem SR.dom{st:aK}(h:SR κ R a₁ lo st)(Da:∀x∈a₁.toList,D x):∀x∈(ah st).toList,D x:=λx hx=>Da x ((Array.perm_iff_toList_perm.mp h.pm).mem_iff.mp hx)
theorem SR.merge(C:Cmp prog w A s κ D LT)(K:Rk D LT R)(Da:∀x∈a₁.toList,D x){st:aK}{i:Nat}{Q:Bool->aK->Prop}(H:SR κ R a₁ lo st)(hi:i+1<(aZ st).size)
  (h:∀st',SR κ R a₁ lo st'->(∀j,lo<=j->at' (ah st') j=at' (ah st) j)->(aZ st').size+1=(aZ st).size->Q true st') :
  wpS (ao prog w) A E s (mergeAt' i) Q st:=by
 obtain⟨⟨sa,na,pw⟩,hx⟩:∃x,(aZ st)[i]? = some x:=⟨_,Array.getElem?_eq_getElem (by lia)⟩
 obtain⟨⟨sb,nb,Nj⟩,hy⟩:∃x,(aZ st)[i+1]? = some x:=⟨_,Array.getElem?_eq_getElem hi⟩
 obtain⟨u,v,hl,hu⟩:=Fy (l:=(aZ st).toList) (by rw[Array.getElem?_toList];exact hx) (by rw[Array.getElem?_toList];exact hy);have rn:=H.rn;rw[hl,List.map_append]at rn;obtain⟨m,r1,r2⟩:=Runs.append.mp rn;obtain⟨q1,q2,q3,q4,q5,q6,q7⟩:=r2;have q1:sa=m:=q1;have q2:1<=na:=q2;have q3:Seg R (ah st) m na:=q3;have q4:sb=m+na:=q4;have q5:1<=nb:=q5;have q6:Seg R (ah st) (m+na) nb:=q6;have q7:Runs R (ah st) (m+na+nb) (v.map pr) lo:=q7;have hle:=q7.le;have OR:=r1.le;have Hg:=H.le;have hz:=H.sz;subst q1;refine wI C K H.kd H.fl (H.dom Da) hx hy q4 q2 q5 (by lia) q3 (by rw[q4];exact q6) λst' k1 k2 k3 k4 k5 k6=>?_
 have hp:(aZ st').toList=u++(sa,na+nb,pw)::v:=by rw[k3,<-hu];exact AF hl
 refine h st' ⟨k1,k2,k4.trans H.pm,?_,H.le⟩ (λj hj=>k5 j (.inr (by lia))) ?_
 ·rw[hp,List.map_append];refine Runs.append.mpr ⟨sa,r1.congr λj _ hj=>k5 j (.inl hj),rfl,show 1<=na+nb by lia,k6,?_⟩;show Runs R (ah st') (sa+(na+nb)) (v.map pr) lo;rw[<-Nat.add_assoc];exact q7.congr λj hj _=>k5 j (.inr (by lia))
 ·rw[<-a_,hp,<-a_,hl];simp;lia
end
section
variable{prog:aF}{w:aB}{A:aG}{E:ae->af->Prop}{s:af}{κ:SortKind}{D:aq->Prop}{LT:aq->aq->Bool}{R:aq->Int}{a₁:Array aq}{lo:Nat}
theorem oh{p:Array (Nat×Nat×Nat)}{i pw:Nat}:(p.modify i λx=>(x.1,x.2.1,pw)).toList.map pr=p.toList.map pr:=by
 apply List.ext_getElem?;intro k;rw[List.getElem?_map,List.getElem?_map,Array.getElem?_toList,Array.getElem?_toList,Array.getElem?_modify];split
 ·rename_i e
  subst e;cases p[i]? <;> rfl
 ·rfl
theorem SR.pend{st:aK}{p:Array (Nat×Nat×Nat)}(H:SR κ R a₁ lo st)(hp:p.toList.map pr=(aZ st).toList.map pr):SR κ R a₁ lo (setPending st p):=
 ⟨H.kd,H.fl,H.pm,by show Runs R (ah st) 0 (p.toList.map pr) lo;rw[hp];exact H.rn,H.le⟩
theorem SR.push{st:aK}{n:Nat}(H:SR κ R a₁ lo st)(h1:1<=n)(h2:lo+n<=a₁.size)(hs:Seg R (ah st) lo n):SR κ R a₁ (lo+n) (setPending st ((aZ st).push (lo,n,0))):=
 ⟨H.kd,H.fl,H.pm,by
  show Runs R (ah st) 0 (((aZ st).push (lo,n,0)).toList.map pr) (lo+n);rw[Array.toList_push,List.map_append];exact Runs.append.mpr ⟨lo,H.rn,rfl,h1,hs,rfl⟩,h2⟩
theorem SR.base{st:aK}(H:SR κ R a₁ lo st):SB κ (aZ st) (ah st) lo st:=⟨H.kd,H.fl,rfl,Array.Perm.refl _,λ_ _=>rfl⟩
theorem SR.back{st st':aK}(H:SR κ R a₁ lo st)(B:SB κ (aZ st) (ah st) lo st'):SR κ R a₁ lo st':=
 ⟨B.kd,B.fl,B.pm.trans H.pm,by rw[B.pn];exact H.rn.congr λj _ hj=>B.lw j hj,H.le⟩
theorem DE(C:Cmp prog w A s κ D LT)(K:Rk D LT R)(Da:∀x∈a₁.toList,D x){st:aK}{Q:Unit->aK->Prop}(hk:kindOf st=κ)(hf:failedOf st=none)(hp:aZ st = #[])(ha:ah st=a₁)(h2:2<=a₁.size)
  (h:∀st',(ah st').Perm a₁->failedOf st'=none->Seg R (ah st') 0 a₁.size->Q () st'):wpS (ao prog w) A E s sortRuns' Q st:=by
 have H0:SR κ R a₁ 0 st:=⟨hk,hf,by rw[ha],by rw[hp];rfl,by lia⟩
 rw[sortRuns'_eq];refine au (wpS_get ?_);dsimp only;rw[ha];generalize minRun' a₁.size a₁.size 0=mr;refine au (wpS_mono (wpS_forRange
  (I:=λx c st'=>∃lo,c=(none,lo)/\SR κ R a₁ lo st'/\x<=lo)
  (Q:=λc st'=>c=(none,a₁.size)/\SR κ R a₁ a₁.size st') ?step ?fin ⟨0,rfl,H0,aH _⟩) ?post)
 case fin=>
  rintro c st' ⟨lo,rfl,H,hx⟩;have:=H.le;have:lo=a₁.size:=by lia
  subst this;exact⟨rfl,H⟩
 case step=>
  rintro x c st' _ hx ⟨lo,rfl,H,QC⟩;dsimp only;have hle:=H.le;by_cases e:lo >= a₁.size
  ·rw[if_pos e];have:lo=a₁.size:=by lia
   subst this;exact av ⟨rfl,H⟩
  rw[if_neg e];have hz:=H.sz;refine au (D6 C K (H.dom Da) (by lia) (by lia) H.base λm Iv B2 m1 m2 S2=>?_);dsimp only;by_cases e3:m<mr
  ·rw[if_pos e3];refine au (wpS_lift (wpAny_rule ⟨rfl,?_⟩));by_cases e4:m<=min (a₁.size-lo) mr
   ·refine au (DP C K (H.dom Da) (by lia) e4 B2 S2 λG3 B3 S3=>?_);simp only[Bool.not_true,bL,if_false];have Hn:=H.back B3;refine au (wpS_get ?_);cases hb:(aZ G3).back? with
    |none=>
     dsimp only;exact au (wpS_modify (av ⟨_,rfl,Hn.push (by lia) (by lia) S3,by lia⟩))
    |some q=>
     obtain⟨s1,k1,w1⟩:=q;dsimp only;generalize power' _ _ _ _=pw;refine au (wpS_mono (wpS_forRange (I:=λ_ c st'=>c=(none,())/\SR κ R a₁ lo st'/\∀j,lo<=j->at' (ah st') j=at' (ah G3) j)
      (Q:=λc st'=>c=(none,())/\SR κ R a₁ lo st'/\∀j,lo<=j->at' (ah st') j=at' (ah G3) j) ?_ (λ_ _ h=>h) ⟨rfl,Hn,λ_ _=>rfl⟩) ?_)
     ·rintro y c st8 _ _ ⟨rfl,H8,c8⟩;refine au (wpS_get ?_);by_cases e1:(aZ st8).size>1
      ·rw[if_pos e1];obtain⟨⟨u1,u2,HQ⟩,hy⟩:∃x,(aZ st8)[(aZ st8).size-2]? = some x:=⟨_,Array.getElem?_eq_getElem (by lia)⟩
       rw[hy];dsimp only;by_cases e2:HQ<=pw
       ·rw[if_pos e2];exact av ⟨rfl,H8,c8⟩
       ·rw[if_neg e2];refine au (H8.merge C K Da (by lia) λOS H9 c9 _=>?_);exact av ⟨rfl,H9,λj hj=>(c9 j hj).trans (c8 j hj)⟩
      ·rw[if_neg e1];exact av ⟨rfl,H8,c8⟩
     ·rintro c st8 ⟨rfl,H8,c8⟩;dsimp only;refine au (wpS_modify ?_);exact au (wpS_modify (av ⟨_,rfl,(H8.pend oh).push (by lia) (by lia) (S3.congr λj hj _=>c8 j hj),by lia⟩))
   ·exfalso;lia
  ·rw[if_neg e3];have Hn:=H.back B2;refine au (wpS_get ?_);cases hb:(aZ Iv).back? with
   |none=>
    dsimp only;exact au (wpS_modify (av ⟨_,rfl,Hn.push (m1) (by lia) S2,by lia⟩))
   |some q=>
    obtain⟨s1,k1,w1⟩:=q;dsimp only;generalize power' _ _ _ _=pw;refine au (wpS_mono (wpS_forRange (I:=λ_ c st'=>c=(none,())/\SR κ R a₁ lo st'/\∀j,lo<=j->at' (ah st') j=at' (ah Iv) j)
     (Q:=λc st'=>c=(none,())/\SR κ R a₁ lo st'/\∀j,lo<=j->at' (ah st') j=at' (ah Iv) j) ?_ (λ_ _ h=>h) ⟨rfl,Hn,λ_ _=>rfl⟩) ?_)
    ·rintro y c st8 _ _ ⟨rfl,H8,c8⟩;refine au (wpS_get ?_);by_cases e1:(aZ st8).size>1
     ·rw[if_pos e1];obtain⟨⟨u1,u2,HQ⟩,hy⟩:∃x,(aZ st8)[(aZ st8).size-2]? = some x:=⟨_,Array.getElem?_eq_getElem (by lia)⟩
      rw[hy];dsimp only;by_cases e2:HQ<=pw
      ·rw[if_pos e2];exact av ⟨rfl,H8,c8⟩
      ·rw[if_neg e2];refine au (H8.merge C K Da (by lia) λOS H9 c9 _=>?_);exact av ⟨rfl,H9,λj hj=>(c9 j hj).trans (c8 j hj)⟩
     ·rw[if_neg e1];exact av ⟨rfl,H8,c8⟩
    ·rintro c st8 ⟨rfl,H8,c8⟩;dsimp only;refine au (wpS_modify ?_);exact au (wpS_modify (av ⟨_,rfl,(H8.pend oh).push (m1) (by lia) (S2.congr λj hj _=>c8 j hj),by lia⟩))
 case post=>
  rintro c st' ⟨rfl,H⟩;dsimp only;have hl:=H.rn.le;rw[bG,a_]at hl;refine au (wpS_mono (wpS_forRange (I:=λx c st''=>c=(none,())/\SR κ R a₁ a₁.size st''/\((aZ st'').size<=1\/(aZ st'').size+x<=a₁.size))
   (Q:=λc st''=>c=(none,())/\SR κ R a₁ a₁.size st''/\(aZ st'').size<=1) ?_ ?_ ⟨rfl,H,.inr (by lia)⟩) ?_)
  ·rintro x c G3 _ hx ⟨rfl,H3,c3⟩;refine au (wpS_get ?_);by_cases e1:(aZ G3).size<=1
   ·rw[if_pos e1];exact av ⟨rfl,H3,e1⟩
   rw[if_neg e1];refine au (H3.merge C K Da ?_ λQD H4 c4 z4=>?_)
   ·(repeat' split)<;>lia
   ·exact av ⟨rfl,H4,by lia⟩
  ·rintro c G3 ⟨rfl,H3,c3⟩;exact⟨rfl,H3,by lia⟩
  ·rintro c G3 ⟨rfl,H3,c3⟩;refine av (h G3 H3.pm H3.fl ?_);have rn:=H3.rn;generalize hq:(aZ G3).toList.map pr=q at rn;have OT:q.length<=1:=by rw[<-hq,bG,a_];exact c3
   match q,rn,OT with
   | [],rn,_=>exact absurd rn (by show ¬ (0=a₁.size);lia)
   | [x],rn,_=>
    obtain⟨_,_,r3,r4⟩:=rn;have r4:0+x.2=a₁.size:=r4;rw[<-r4,Nat.zero_add];exact r3
end
theorem pS{α:Type}{p q:α->Bool}{a:α}:∀{l:List α},(∀x∈l,p x=true->q x=true)->a∈l->p a=false->q a=true->l.countP p<l.countP q
 | [],_,h,_,_=>nomatch h
 |x::l,hi,h,h1,h2=>by
  rw[List.countP_cons,List.countP_cons];have le:=List.countP_mono_left (l:=l) (p:=p) (q:=q) λy hy=>hi y (aO _ hy)
  rcases aP.mp h with e|h
  ·subst e;rw[h1,h2];simp only[bL,if_false,if_true];lia
  ·have:=pS (λy hy=>hi y (aO _ hy)) h h1 h2;have:=hi x aQ;cases e:p x with
   |true=>rw[this e];simp only[if_true];lia
   |false=>simp only[bL,if_false];split<;>lia
noncomputable def jH(LT:aq->aq->Bool)(l:List aq)(x:aq):Int:=(l.countP λz=>LT z x:Nat)
theorem Wo.rank{LT:aq->aq->Bool}(W:Wo LT)(l:List aq):Rk (·∈l) LT (jH LT l):=⟨λx y hx hy=>by
 unfold jH;cases e:LT x y with
 |true=>
  have:=pS (p:=λz=>LT z x) (q:=λz=>LT z y) (a:=x) (λz _ q=>W.lt_le (x:=z) (y:=x) (z:=y) q (W.asym x y e)) hx (W.irr x) e;exact(decide_eq_true (by lia)).symm
 |false=>
  have:=List.countP_mono_left (l:=l) (p:=λz=>LT z y) (q:=λz=>LT z x) λz _ q=>W.lt_le (x:=z) (y:=y) (z:=x) q e
  exact(decide_eq_false (by lia)).symm⟩
noncomputable def ltL:List Int->List Int->Bool
 | [],[]=>false
 | [],_::_=>true
 |_::_,[]=>false
 |a::x,b::y=>if a=b then ltL x y else decide (a<b)
theorem i8:∀{x y:List Int},ltL x y=true->ltL y x=false
 | [],[],h=>nomatch h
 | [],_::_,_=>rfl
 |_::_,[],h=>nomatch h
 |a::x,b::y,h=>by
  unfold ltL at h ⊢;by_cases e:a=b
  ·rw[if_pos e]at h;rw[if_pos e.symm];exact i8 h
  ·rw[if_neg e]at h;have:=of_decide_eq_true h;rw[if_neg (λz=>e z.symm)];exact decide_eq_false (by lia)
theorem jy:∀{x y z:List Int},ltL y x=false->ltL z y=false->ltL z x=false
 | [],_,[],_,_=>rfl
 |_::_,[],[],h,_=>nomatch h
 |_::_,_::_,[],_,h=>nomatch h
 | [],_,_::_,_,_=>rfl
 |_::_,[],_::_,h,_=>nomatch h
 |a::x,b::y,c::z,h1,h2=>by
  unfold ltL at h1 h2 ⊢;by_cases e1:b=a
  ·rw[if_pos e1]at h1;by_cases e2:c=b
   ·rw[if_pos e2]at h2;rw[if_pos (e2.trans e1)];exact jy h1 h2
   ·rw[if_neg e2]at h2;have:=of_decide_eq_false h2;rw[if_neg (λq=>e2 (q.trans e1.symm))];exact decide_eq_false (by lia)
  ·rw[if_neg e1]at h1;have q1:=of_decide_eq_false h1;by_cases e2:c=b
   ·rw[if_neg (λq=>e1 (e2.symm.trans q))];exact decide_eq_false (by lia)
   ·rw[if_neg e2]at h2;have q2:=of_decide_eq_false h2;rw[if_neg (by lia)];exact decide_eq_false (by lia)
theorem F4(f:aq->List Int):Wo λx y=>ltL (f x) (f y):=⟨λ_ _ h=>i8 h,λ_ _ _ h1 h2=>jy h1 h2⟩
theorem sU:∀{x y:List Int},ltL x y=false->ltL y x=false->x=y
 | [],[],_,_=>rfl
 | [],_::_,h,_=>nomatch h
 |_::_,[],_,h=>nomatch h
 |a::x,b::y,h1,h2=>by
  unfold ltL at h1 h2;by_cases e:a=b
  ·rw[if_pos e]at h1;rw[if_pos e.symm]at h2;rw[e,sU h1 h2]
  ·rw[if_neg e]at h1;rw[if_neg (λz=>e z.symm)]at h2;have:=of_decide_eq_false h1;have:=of_decide_eq_false h2;lia
theorem oW:∀x y:List Int,ltL x y=HT.lexLt x y
 | [],[]=>(HT.tJ).symm
 | [],_::_=>(HT.nS ..).symm
 |_::_,[]=>(HT.nr ..).symm
 |a::x,b::y=>by
  rw[HT.rL,<-oW x y]
  rfl
section
variable{prog:aF}{w:aB}{A:aG}{E:ae->af->Prop}{s:af}
theorem Ee{l b:Addr}{items Gd:Array ae}{ns ms:List Int}{Q:Bool->af->Prop}(hl:IsTup s.heap l items)(hb:IsTup s.heap b Gd)(hi:bz items.toList ns)(hj:bz Gd.toList ms)
  (hu:A.units<cLine) (h:Q (ltL ns ms) s):ak (ao prog w) A (oneLt' true (.ref l) (.ref b)) Q E s:=by
 obtain⟨⟨c1,d1,a1,s1⟩,ho,hc,n,hd⟩:=id hl;obtain⟨⟨c2,d2,a2,s2⟩,Hd,GX,n2,hd2⟩:=id hb;simp only at hc hd GX hd2;subst hc hd GX hd2;rw[oW]at h;rw[oneLt'_eq];simp only[if_true];refine ag (wpAny_cRoomFor hu ?_);refine ag (wpAny_callSpecialIfBound?_slot ⟨_,ho,rfl⟩ PySem.F.slot_tuple_lt (call_meets PySem.F.slot_tuple_lt ⟨_,ho,rfl⟩ PySem.F.entry_tuple_lt (PySem.F.args_tuple_lt_2 _ _) (HT.sV l b items Gd n n2 d1 d2 s1 s2 ns ms hi hj) ⟨ho,Hd,?_⟩));exact bP h
end
end TS
namespace TS
open PySem PySem.W PyProof.Rows
def TupAt(h:Heap)(v:ae)(ns:List Int):Prop:=∃a o items n,v=.ref a/\h.get? a=some o/\o.cls=.type "tuple"/\o.data=.seq items n/\bz items.toList ns
inductive cf(h:Heap):List ae->List (List Int)->Prop
 |nil:cf h [] []
 |cons {v:ae}{vs:List ae}{k:List Int}{ks:List (List Int)}:TupAt h v k->cf h vs ks->cf h (v::vs) (k::ks)
theorem cf.mem{h:Heap}{vs:List ae}{ks:List (List Int)}(t:cf h vs ks):∀v∈vs,∃k,TupAt h v k:=by
 induction t with
 |nil=>intro v hv;cases hv
 |cons a t ih=>
  intro v hv;rcases aP.mp hv with e|hv
  ·subst e;exact⟨_,a⟩
  ·exact ih v hv
section
variable{M:Model}{A:aG}{E:ae->af->Prop}{s:af}
theorem ni{h:Heap}{v:ae}{k:List Int}(t:TupAt h v k):Looks M h (typeOf v) (.type "tuple"):=by
 obtain⟨a,o,items,n,rfl,ho,hc,_⟩:=t;have:Looks M h (typeOf (.ref a)) o.cls:=(Looks.ld ho).andThen .now
 rwa[hc]at this
theorem yF{vs:List ae}{ks:List (List Int)}(t:cf s.heap vs ks):∀{Q:List (Option ae)->af->Prop},(∀os:List (Option ae),os.map Option.isSome=ks.map (λk=>!k.isEmpty)->Q os s)->ak M A (vs.mapM firstOfTuple') Q E s:=by
 induction t with
 |nil=>intro Q h;rw[List.mapM_nil];exact aA (h [] rfl)
 | @cons v vs k ks a t ih=>
  intro Q h;rw[List.mapM_cons];refine ag ?_;rw[kas_first_eq];refine ag ((ni a).here ?_);rw[if_neg (by first|decide|simp)];obtain⟨b,o,items,n,rfl,ho,hc,hd,hi⟩:=a;refine ag (listItems_at ho hd (aA (ag (ih λos e=>aA (h _ ?_)))));rw[aN,e,aN]
  congr 1
  obtain⟨l⟩:=items;cases hi with
  |nil=>rfl
  |cons _ _ _=>rfl
theorem Eg{vs:List ae}{ks:List (List Int)}{Q:SortKind->af->Prop}(t:cf s.heap vs ([]::ks))(h:Q oneType' s):ak M A (keyKind' vs.toArray) Q E s:=by
 rw[keyKind'_eq,List.mapM_toArray,map_eq_pure_bind];refine ag (ag (yF t λos e=>aA ?_));obtain⟨o,Jn,rfl,eo⟩:∃o Jn,os=o::Jn/\o.isSome=false:=by
  cases os with
  |nil=>cases e
  |cons o Jn=>rw[aN,aN]at e;exact⟨o,Jn,rfl,(List.cons.inj e).1⟩
 obtain rfl:o=none:=by cases o with
  |none=>rfl
  |some _=>cases eo
 rw[if_neg (by simp),if_neg (by simp),oneTypeOnly'_eq,List.mapM_toArray,map_eq_pure_bind];refine ag (ag (ag (kas_mapM (r:=ae.type "tuple") _ (λv hv Q' hq=>by obtain⟨k,a⟩:=t.mem v hv;exact(ni a).here hq) (aA ?_))));have e0:(List.map (λ_=>ae.type "tuple") vs).toArray[0]? = some (ae.type "tuple"):=by
  cases t with
  |cons a t=>simp
 have e1:((List.map (λ_=>ae.type "tuple") vs).toArray.all λx=>x==ae.type "tuple")=true:=by
  simp only[List.all_toArray,List.all_map,bF];intro _ _
  rfl
 rw[e0];simp only[e1,if_true];exact aA (aA h)
end
section
variable{M:Model}{A:aG}{E:ae->af->Prop}{s:af}
theorem cf.firsts{h:Heap}{vs:List ae}{ks:List (List Int)}(t:cf h vs ks)(Gu:∀k∈ks,k≠[]):∃fs,KatTups h vs fs/\fs.length=vs.length/\∀v∈fs,∃i t,v=ae.int i t:=by
 induction t with
 |nil=>exact⟨[],trivial,rfl,λ_ h=>nomatch h⟩
 | @cons v vs k ks a t ih=>
  obtain⟨fs,k1,k2,k3⟩:=ih λk hk=>Gu k (aO _ hk)
  obtain⟨b,o,items,n,rfl,ho,hc,hd,hi⟩:=a;obtain⟨l⟩:=items;cases hi with
  |nil=>exact absurd rfl (Gu [] aQ)
  |cons i t _=>exact⟨.int i t::fs,KatTups.cons ho hc hd rfl k1,by simp[k2],λw hw=>(aP.mp hw).elim (λz=>⟨i,t,z⟩) (k3 w)⟩
theorem kind_all{vs:List ae}{ks:List (List Int)}{Q:SortKind->af->Prop}(t:cf s.heap vs ks)(h1:0<vs.length)(Gu:∀k∈ks,k≠[])(h:Q (tuples' true) s):ak M A (keyKind' vs.toArray) Q E s:=by
 obtain⟨fs,k1,k2,k3⟩:=t.firsts Gu;refine kat_kind (T:=.type "int") (fs:=fs) k1 (by lia) (λv hv=>?_) (by decide) ?_
 ·obtain⟨i,t,rfl⟩:=k3 v hv;exact Looks.of_pure rfl
 ·have hb:((ae.type "int") != ae.type "tuple")=true:=by decide
  rw[hb];exact h
theorem oP{prog:aF}{w:aB}{Q:Bool->af->Prop}{fin:Bool}:∀{xs ys:List ae}{ns ms:List Int} (i:Nat),bz xs ns->bz ys ms->fin=decide (xs.length<ys.length)->Q (ltL ns ms) s->KatLex prog w A true fin Q (xs.zip ys) i s
 |_,_,_,_,i,.nil,.nil,hf,h=>kat_nil (by rw[hf];exact h)
 |_,_,_,_,i,.nil,.cons _ _ _,hf,h=>kat_nil (by rw[hf];exact h)
 |_,_,_,_,i,.cons _ _ _,.nil,hf,h=>kat_nil (by rw[hf];exact h)
 |_,_,_,_,i,.cons (vs:=xs) (ns:=ns) a t hx,.cons (vs:=ys) (ns:=ms) b u hy,hf,h=>by
  rw[List.zip_cons_cons];refine kat_cons (SeqAt.EqAt.int_int _ _ _ _ prog w _ _ ?_);unfold ltL at h;by_cases hc:a=b
  ·rw[if_pos hc]at h;rw[show (a==b)=true by simp[hc]];exact kat_yes (oP (i+1) hx hy (by rw[hf];simp) h)
  ·rw[if_neg hc]at h;rw[show (a==b)=false by simp[hc]];refine kat_no ?_;cases i with
   |zero=>exact oneLt_int h
   |succ i=>exact kat_one _ _ (lt_int h)
end
noncomputable def dg(h:Heap)(x:aq):List Int:=open Classical in if z:∃k,TupAt h x.1 k then z.choose else []
theorem TupAt.keep{h h':Heap}(k:∀b o,h.get? b=some o->h'.get? b=some o){v:ae}{ns:List Int}(t:TupAt h v ns):TupAt h' v ns:=by
 obtain⟨a,o,its,n,e1,e2,e3⟩:=t;exact⟨a,o,its,n,e1,k _ _ e2,e3⟩
theorem cf.keep{h h':Heap}(k:∀b o,h.get? b=some o->h'.get? b=some o){vs:List ae}{ks:List (List Int)}(t:cf h vs ks):cf h' vs ks:=by
 induction t with
 |nil=>exact .nil
 |cons a _ ih=>exact .cons (a.keep k) ih
theorem iX{h:Heap}{x:aq}(z:∃k,TupAt h x.1 k):TupAt h x.1 (dg h x):=by
 unfold dg;rw[dif_pos z];exact z.choose_spec
theorem we{prog:aF}{w:aB}{A:aG}{s:af}{h0:Heap}{l:List aq}(hk:∀b o,h0.get? b=some o->s.heap.get? b=some o)(hl:∀x∈l,∃k,TupAt h0 x.1 k)(hu:A.units<cLine):Cmp prog w A s oneType' (·∈l) (λx y=>ltL (dg h0 x) (dg h0 y)):=
 ⟨λx y hx hy Q h=>by
  obtain⟨a,o,its,n,e1,e2,e3,e4,e5⟩:=(iX (hl x hx)).keep hk;obtain⟨a',o',its',n',f1,f2,f3,f4,f5⟩:=(iX (hl y hy)).keep hk;rw[keyLt'_oneType,e1,f1];exact Ee ⟨o,e2,e3,n,e4⟩ ⟨o',f2,f3,n',f4⟩ e5 f5 hu h,
  λ_ _ h=>i8 h,λ_ _ _ h1 h2=>jy h1 h2⟩
theorem D0{prog:aF}{w:aB}{A:aG}{s:af}{h0:Heap}{l:List aq}(hk:∀b o,h0.get? b=some o->s.heap.get? b=some o)(hl:∀x∈l,∃k,TupAt h0 x.1 k):Cmp prog w A s (tuples' true) (·∈l) (λx y=>ltL (dg h0 x) (dg h0 y)):=
 ⟨λx y hx hy Q h=>by
  obtain⟨a,o,its,n,e1,e2,e3,e4,e5⟩:=(iX (hl x hx)).keep hk;obtain⟨a',o',its',n',f1,f2,f3,f4,f5⟩:=(iX (hl y hy)).keep hk;rw[e1,f1];refine kat_lt e2 e4 f2 f4 (oP 0 e5 f5 ?_ h);rw[a_,a_],
  λ_ _ h=>i8 h,λ_ _ _ h1 h2=>jy h1 h2⟩
theorem pd{h:Heap}:∀(l:List aq),(∀x∈l,x.1=x.2/\∃k,TupAt h x.1 k)->cf h (l.map (·.2)) (l.map (dg h))
 | [],_=>.nil
 |x::l,z=>.cons (by have:=z x aQ;show TupAt h x.2 _;rw[<-this.1];exact iX this.2) (pd l λy hy=>z y (aO _ hy))
theorem Bw{LT:aq->aq->Bool}{R:aq->Int}{a:Array aq}(S:Seg R a 0 a.size)(K:∀x∈a.toList,∀y∈a.toList,LT x y=decide (R x<R y)):a.toList.Pairwise λx y=>LT y x=false:=by
 rw[List.pairwise_iff_getElem];intro i j hi hj Ge;rw[K _ (cZ hj) _ (cZ hi)];rw[a_]at hi hj;have:=S i j (by lia) hj;unfold Kr at this;have e1:=qt hi;have e2:=qt hj;rw[Array.getElem?_eq_getElem hi]at e1;rw[Array.getElem?_eq_getElem hj]at e2;injection e1 with e1
 injection e2 with e2
 rw[Nat.zero_add,Nat.zero_add,<-e1,<-e2]at this;rw[Array.getElem_toList,Array.getElem_toList];exact decide_eq_false (by lia)
section
variable{prog:aF}{w:aB}{A:aG}{E:ae->af->Prop}{s:af}
theorem CM{h0:Heap}{a:Addr}{vs:List ae}{ks:List (List Int)}{P:Fin->af->Prop}(GJ:s.heap.get? a=some (a7 "list" vs.toArray 0))(keep:∀b o,h0.get? b=some o->s.heap.get? b=some o)(J6:∀b o,h0.get? b=some o->b≠a)(h2:2<=vs.length)(hz:vs.length<=aR)(t:cf h0 vs ks)(Mk:ks.head? = some []\/∀k∈ks,k≠[])(hu:A.units<cLine)
  (h:∀(out:List ae) (Ip:List (List Int)),out.Perm vs->cf h0 out Ip->Ip.Pairwise (λa b=>ltL b a=false)->P (.done (.ret .none)) {s with heap:=sortedHeap s.heap a vs out.toArray}) :
  ak (ao prog w) A (Builtin.«list.sort» ⟨[.ref a],[]⟩) P E s:=by
 rw[list_sort_plain];refine ag (listItems_at  GJ rfl ?_);refine ag (listUpdate_at  GJ rfl ?_ (by rw[aU];exact hz) (bU _));obtain⟨e1,JV⟩:∃e1,(s.heap.update a (bx λ_=>#[])).get? a=some (a7 "list" #[] e1):=⟨_,get?_update_seq GJ (λ_=>#[])⟩
 refine ag (seqEpoch_at JV rfl ?_);refine ag (wpAny_newTuple ?_ (by show vs.length<=_;exact hz));refine ag (wpAny_newList ?_ (bU _));refine b6 ?_;have Gg:a<s.heap.objs.size:=aM GJ;have k6:∀b o,h0.get? b=some o->(((s.heap.update a (bx λ_=>#[])).push (a7 "tuple" vs.toArray 0)).push (a7 "list" #[] 0)).get? b=some o:=λb o q=>
  Heap.get?_push_of_some _ (Heap.get?_push_of_some _ (by rw[Heap.get?_update_ne _ _ _ _ (J6 b o q)];exact keep b o q))
 have JW:(((s.heap.update a (bx λ_=>#[])).push (a7 "tuple" vs.toArray 0)).push (a7 "list" #[] 0)).get? a=some (a7 "list" #[] e1):=Heap.get?_push_of_some _ (Heap.get?_push_of_some _ JV);show ak (ao prog w) _ _ _ _ {s with heap:=((s.heap.update a (bx λ_=>#[])).push (a7 "tuple" vs.toArray 0)).push (a7 "list" #[] 0)};dsimp only;have IA:¬ vs.toArray.size<2:=by rw[aU];lia
 rw[if_neg IA,if_neg IA];have pz:(vs.toArray.zip vs.toArray)=pairsOf vs:=rfl;have hx:∀x∈(pairsOf vs).toList,x.1=x.2/\∃k,TupAt h0 x.1 k:=λx hx=>by
  rw[pairsOf_toList]at hx;obtain⟨b1,b2⟩:=mem_zip_self hx;exact⟨b1,t.mem _ b2⟩
 obtain⟨κ,kk,C⟩:∃κ,(∀Q:SortKind->af->Prop,Q κ {s with heap:=((s.heap.update a (bx λ_=>#[])).push (a7 "tuple" vs.toArray 0)).push (a7 "list" #[] 0)}->ak (ao prog w) A (keyKind' vs.toArray) Q E {s with heap:=((s.heap.update a (bx λ_=>#[])).push (a7 "tuple" vs.toArray 0)).push (a7 "list" #[] 0)})/\Cmp prog w A {s with heap:=((s.heap.update a (bx λ_=>#[])).push (a7 "tuple" vs.toArray 0)).push (a7 "list" #[] 0)} κ (·∈(pairsOf vs).toList) (λx y=>ltL (dg h0 x) (dg h0 y)):=by
  rcases Mk with hh|hh
  ·refine⟨oneType',λQ q=>?_,we k6 (λx z=>(hx x z).2) hu⟩;cases ks with
   |nil=>cases hh
   |cons k ks=>
    cases hh;exact Eg (t.keep k6) q
  ·exact⟨tuples' true,λQ q=>kind_all (t.keep k6) (by lia) hh q,D0 k6 λx z=>(hx x z).2⟩
 refine ag (kk _ ?_);have K:=(F4 (dg h0)).rank (pairsOf vs).toList;refine ag (bK (DE (Q:=λ_ st'=>(ah st').Perm (pairsOf vs)/\failedOf st'=none/\Seg (jH (λx y=>ltL (dg h0 x) (dg h0 y)) (pairsOf vs).toList) (ah st') 0 (pairsOf vs).size) C K (λ_ z=>z) rfl rfl rfl rfl (by rw[pairsOf_size];exact h2) λst' z1 z2 z3=>⟨z1,z2,z3⟩) ?_ λ_ _ e=>e);rintro⟨⟨⟩,st'⟩ s' ⟨rfl,pm,fl,sg⟩;dsimp only;have pl:=Array.perm_iff_toList_perm.mp pm;have om:((ah st').map (·.2))=((ah st').toList.map (·.2)).toArray:=by
  generalize ah st'=z;apply Array.toList_inj.mp;rw[Array.toList_map]
 have op:((ah st').toList.map (·.2)).Perm vs:=by
  have:=pl.map (·.2)
  rwa[pairsOf_toList,List.map_snd_zip (aH _)]at this
 have ht:=pd (ah st').toList λx z=>hx x (pl.mem_iff.mp z)
 have hs:=Bw (LT:=λx y=>ltL (dg h0 x) (dg h0 y)) (R:=jH (λx y=>ltL (dg h0 x) (dg h0 y)) (pairsOf vs).toList) (a:=ah st') (by rw[pm.size_eq];exact sg) λx z1 y z2=>K.rk x y (pl.mem_iff.mp z1) (pl.mem_iff.mp z2)
 have fin:=h _ _ op ht (by rw[List.pairwise_map];exact hs);refine ag (seqEpoch_at JW rfl ?_);refine ag (listUpdate_at JW rfl ?_ (bU _) (by rw[om,aU,op.length_eq];lia));rw[fl];simp only[bne_self_eq_false,bL,if_false];refine aA ?_;rw[om];exact fin
theorem xg{l:Addr}{vs:List ae}{ks:List (List Int)}{Q:ae->af->Prop}(hl:s.heap.IsList l vs.toArray)(h2:2<=vs.length)(hz:vs.length<=aR)(t:cf s.heap vs ks)(Mk:ks.head? = some []\/∀k∈ks,k≠[])(hu:A.in1.in1.units<cLine)
  (h:∀(out:List ae) (Ip:List (List Int)),out.Perm vs->cf s.heap out Ip->Ip.Pairwise (λa b=>ltL b a=false)->Q (.ref (s.heap.objs.size+1)) {s with heap:=sortedAll s.heap vs out.toArray}) :
  ak (ao prog w) A (call (.builtin "sorted") [.ref l]) Q E s:=by
 refine Calls.call_function_entry kind_sorted plain_sorted entry_sorted (args_sorted1 _) ?_;unfold Builtin.«sorted»;refine ag (m:=checkCount "sorted" 1 1 _) (aA ?_);refine ag (collect_list hl ?_ hz);refine ag (wpAny_newList ?_ hz);have Gq:((s.heap.push (a7 "list" #[] 0)).update s.heap.objs.size (bx (· ++ vs.toArray))).objs.size=s.heap.objs.size+1:=by rw[Heap.size_update,size_push']
 have GJ:(((s.heap.push (a7 "list" #[] 0)).update s.heap.objs.size (bx (· ++ vs.toArray))).push (a7 "list" vs.toArray 0)).get? (s.heap.objs.size+1)=some (a7 "list" vs.toArray 0):=by rw[<-Gq];exact Heap.get?_push_size _ rfl
 have keep:∀b o,s.heap.get? b=some o->(((s.heap.push (a7 "list" #[] 0)).update s.heap.objs.size (bx (· ++ vs.toArray))).push (a7 "list" vs.toArray 0)).get? b=some o:=λb o q=>by
  have Gg:b<s.heap.objs.size:=aM q;rw[Heap.get?_push_ne _ _ _ (by rw[Gq];exact bg (dD Gg)),Heap.get?_update_ne _ _ _ _ (bg Gg),Heap.get?_push_ne _ _ _ (bg Gg)];exact q
 show ak _ _ _ _ _ {s with heap:=((s.heap.push (a7 "list" #[] 0)).update s.heap.objs.size (bx (· ++ vs.toArray))).push (a7 "list" vs.toArray 0)};rw[Gq];refine ag (b6 (cH slot_list_sort ⟨_,GJ,rfl⟩ entry_list_sort ?body (args_list_sort _)))
 case body=>
  have J6:∀b o,s.heap.get? b=some o->b≠s.heap.objs.size+1:=λb o q=>bg (dD (aM q))
  refine CM (h0:=s.heap) GJ keep J6 h2 hz t Mk hu λout Ip a1 a2 a3=>⟨_,rfl,aA ⟨_,rfl,h out Ip a1 a2 a3⟩⟩
end
end TS
namespace L2
open PySem PySem.Spec PyProof.Rows TS
theorem rh:∀{vs:List ae}{a b:List Int},bz vs a->bz vs b->a=b
 |_,_,_,.nil,.nil=>rfl
 |_,_,_,.cons n t h,h'=>by
  cases h' with
  |cons n' t' Kp=>rw[rh h Kp]
theorem pG{h:Heap}{v:ae}{a b:List Int}(x:TupAt h v a)(y:TupAt h v b):a=b:=by
 obtain⟨p,o,its,n,rfl,e2,_,e4,e5⟩:=x;obtain⟨p',o',its',n',f1,f2,_,f4,f5⟩:=y;cases f1;rw[e2]at f2;cases f2;rw[e4]at f4;cases f4;exact rh e5 f5
theorem mi{h:Heap}{f:Addr->List Int}:∀(ps:List Addr),(∀p∈ps,TupAt h (.ref p) (f p))->cf h (ps.map a8) (ps.map f)
 | [],_=>.nil
 |p::ps,z=>.cons (z p aQ) (mi ps λq hq=>z q (aO _ hq))
theorem xP{h:Heap}{vs:List ae}{a b:List (List Int)}(x:cf h vs a)(y:cf h vs b):a=b:=by
 induction x generalizing b with
 |nil=>cases y;rfl
 |cons t _ ih=>
  cases y with
  |cons t' y'=>rw[pG t t',ih y']
theorem yJ{ps:List Addr}:∀{us:List ae},Vals (ps.map V.ref) us->us=ps.map ae.ref:=by
 induction ps with
 |nil=>intro us r;cases r;rfl
 |cons p ps ih=>
  intro us r;cases r with
  |cons h t=>rw[ih t,show _=a8 p from h];rfl
theorem sE:∀(ps:List Addr),Vals (ps.map V.ref) (ps.map a8)
 | []=>.nil
 |p::ps=>.cons rfl (sE ps)
noncomputable def gA:ae->Addr
 | .ref a=>a
 |_=>0
def y6(K:az):List V->Hp->VK->Prop:=λvs H Q=>∃(l:Addr) (p:Addr) (ps:List Addr) (f:Addr->List Int),vs=[.ref l]/\SqL K H l ((p::ps).map V.ref)/\ps≠[]/\(f p=[]\/∀q∈p::ps,f q≠[]) /\
 (∀q∈p::ps,SqT K H q ((f q).map V.int))/\∀(D:Addr) (qs:List Addr),H D=none->qs.Perm (p::ps)->(qs.map f).Pairwise (λa b=>ltL b a=false)->Q (.ref D) (upd H D (.lst (qs.map V.ref)))
theorem vm{X:Cx}(hu:X.A.in1.in1.units<cLine):za X (.builtin "sorted") (y6 X.K):=by
 intro pins s σ H xs us Q I r h;obtain⟨l,p,ps,f,rfl,hl,Gu,hf,hp,q⟩:=h;obtain⟨u,rfl,ru⟩:=r.one;cases ru;obtain⟨its,rv,pl,hz⟩:=I.list hl;have ei:=yJ rv;subst ei;have tp:∀z∈p::ps,TupAt s.heap (.ref z) (f z):=λz hz=>by
  obtain⟨its,r2,⟨o,e1,e2,n,e3⟩,_⟩:=I.tuple (hp z hz);exact⟨z,o,its.toArray,n,rfl,e1,e2,e3,by simpa using intsAre_of r2⟩
 have t:=mi (p::ps) tp;have IB:((p::ps).map a8).length<=sizeLine:=by simpa using hz
 refine xg pl.isList (by cases ps with
  |nil=>exact absurd rfl Gu
  |cons _ _=>simp) IB t (by
   rcases hf with hf|hf
   ·left;rw[aN,hf];rfl
   ·right;intro k hk;obtain⟨q,hq,rfl⟩:=aY.mp hk;exact hf q hq) hu λout Ip op ot os=>?_
 have eo:out=(out.map gA).map ae.ref:=by
  rw[cc]
  conv=>lhs;rw[<-List.map_id out]
  refine List.map_congr_left λv hv=>?_
  obtain⟨a,_,rfl⟩:=aY.mp (op.mem_iff.mp hv)
  rfl
 have qp:(out.map gA).Perm (p::ps):=by
  have:=op.map gA
  rwa[cc,show (gA∘a8)=id from rfl,List.map_id]at this
 have ek:Ip=(out.map gA).map f:=by
  rw[eo]at ot;exact xP ot (mi _ λz hz=>tp z (qp.mem_iff.mp hz))
 subst ek;obtain⟨c,hc⟩:=sortedAll_at s.heap ((p::ps).map a8) out.toArray;have J7:s.heap.get? (s.heap.objs.size+1)=none:=Heap.get?_none_of_le (Nat.le_succ _);have q':=q (s.heap.objs.size+1) (out.map gA) (I.hok.free_of J7) qp os;refine⟨.ref (s.heap.objs.size+1),_,I.newList (s':={s with heap:=sortedAll s.heap ((p::ps).map a8) out.toArray}) (c:=c) (its:=out) rfl rfl (λb o _ e=>sortedAll_old e) (λm hm=>hm.keeps λb o e=>sortedAll_old e) J7 (Nat.ne_of_gt (dD I.lt)) hc (by have:=sE (out.map gA);rwa[<-eo]at this) (by rw[bG,bG,op.length_eq];exact IB),rfl,q'⟩
def tM(K:az):List V->Hp->VK->Prop:=λvs H Q=>∃(l:Addr) (as:List Addr) (ts:List (List Int)),vs=[.ref l]/\SqL K H l (as.map V.ref)/\as.length=ts.length/\2<=ts.length/\(ts[0]? = some []\/∀t∈ts,t≠[]) /\
 (∀(i:Nat) a t,as[i]? = some a->ts[i]? = some t->SqT K H a (t.map V.int)) /\
 ∀(D:Addr) (qs:List Addr) (f:Addr->List Int),H D=none->qs.Perm as->(∀(i:Nat) a t,as[i]? = some a->ts[i]? = some t->f a=t)->(qs.map f).Pairwise (λa b=>ltL b a=false)->Q (.ref D) (upd H D (.lst (qs.map V.ref)))
theorem Ej{X:Cx}(hu:X.A.in1.in1.units<cLine):za X (.builtin "sorted") (tM X.K):=by
 intro pins s σ H xs us Q I r h;obtain⟨l,as,ts,rfl,hl,hlen,h2,h0,ht,q⟩:=h;have tp:∀(i:Nat) a t,as[i]? = some a->ts[i]? = some t->TupAt s.heap (.ref a) t:=λi a t ha hb=>by
  obtain⟨its,r2,⟨o,e1,e2,n,e3⟩,_⟩:=I.tuple (ht i a t ha hb);exact⟨a,o,its.toArray,n,rfl,e1,e2,e3,by simpa using intsAre_of r2⟩
 let f:Addr->List Int:=λa=>ts.getD (as.idxOf a) []
 have hf:∀(i:Nat) a t,as[i]? = some a->ts[i]? = some t->f a=t:=λi a t ha hb=>by
  have hm:a∈as:=List.mem_of_getElem? ha;have hi:=List.idxOf_lt_length_of_mem hm;have e1:as[as.idxOf a]? = some a:=by rw[List.getElem?_eq_getElem hi];simp
  have e2:ts[as.idxOf a]? = some (f a):=by
   have:as.idxOf a<ts.length:=by lia
   simp[f,this]
  exact pG (tp _ _ _ e1 e2) (tp _ _ _ ha hb)
 match as,hlen with
 | [],hlen=>simp at hlen;lia
 |p::ps,hlen=>
  have Gu:ps≠[]:=λz=>by subst z;simp at hlen;lia
  refine vm hu pins s σ H _ us Q I r ⟨l,p,ps,f,rfl,hl,Gu,?_,λa ha=>?_,λD qs hD hp hs=>q D qs f hD hp hf hs⟩
  ·rcases h0 with h0|h0
   ·exact .inl (hf 0 p [] (by simp) h0)
   ·refine .inr λa ha=>?_
    obtain⟨i,hi,rfl⟩:=List.getElem_of_mem ha;have GY:i<ts.length:=by lia
    rw[hf i (p::ps)[i] ts[i] (by simp) (by simp)];exact h0 _ (cZ GY)
  obtain⟨i,hi,rfl⟩:=List.getElem_of_mem ha;have GY:i<ts.length:=by lia
  have e:=ht i (p::ps)[i] ts[i] (by simp) (by simp)
  rwa[<-hf i (p::ps)[i] ts[i] (by simp) (by simp)]at e
def CY(K:az):List V->Hp->VK->Prop:=λvs H Q=>∃(l:Addr) (xs:List V),vs=[.ref l]/\SqL K H l xs/\xs.length<2/\∀D,H D=none->Q (.ref D) (upd H D (.lst xs))
theorem Bo{X:Cx}:za X (.builtin "sorted") (CY X.K):=by
 intro pins s σ H xs us Q I r h;obtain⟨l,ys,rfl,hl,h2,q⟩:=h;obtain⟨u,rfl,ru⟩:=r.one;cases ru;obtain⟨its,rv,pl,hz⟩:=I.list hl;have Ia:=rv.length;refine w9 pl.isList (by lia) ?_;obtain⟨c,hc⟩:=sortedAll_at s.heap its its.toArray;have J7:s.heap.get? (s.heap.objs.size+1)=none:=Heap.get?_none_of_le (Nat.le_succ _);exact⟨.ref (s.heap.objs.size+1),_,I.newList (s':={s with heap:=sortedAll s.heap its its.toArray}) (c:=c) rfl rfl (λb o _ e=>sortedAll_old e) (λm hm=>hm.keeps λb o e=>sortedAll_old e) J7 (Nat.ne_of_gt (dD I.lt)) hc rv (by rw[bJ];lia),rfl,q _ (I.hok.free_of J7)⟩
end L2
namespace EV
open PySem PySem.Spec PySem.P PyProof.Rows L2
theorem kH(p:Int×Int):∀l,(fo p l).Perm (p::l)
 | []=>.refl _
 |j::r=>by
  unfold fo;split
  ·exact((kH p r).cons j).trans (.swap ..)
  ·exact .refl _
theorem mG:∀l,(dN l).Perm l
 | []=>.refl _
 |i::r=>(kH i _).trans ((mG r).cons i)
theorem rZ{a b:Int×Int}:ltP a b=true↔a.1<b.1\/(a.1=b.1/\a.2<b.2):=by
 unfold ltP;by_cases h:a.1=b.1
 ·simp[h]
 ·simp[h]
theorem sj{a b:Int×Int}:ltP a b=false↔b.1<a.1\/(a.1=b.1/\b.2<=a.2):=by
 rw[<-Bool.not_eq_true,rZ];lia
theorem pN(p:Int×Int):∀{l:List (Int×Int)},l.Pairwise (λa b=>ltP b a=false)->(fo p l).Pairwise (λa b=>ltP b a=false)
 | [],_=>by simp[fo]
 |j::r,h=>by
  unfold fo;obtain⟨h1,h2⟩:=List.pairwise_cons.mp h;split
  ·rename_i Ge
   rw[rZ]at Ge;refine List.pairwise_cons.mpr ⟨λx hx=>?_,pN p h2⟩;rcases aP.mp ((kH p r).mem_iff.mp hx)with rfl|hx
   ·rw[sj];lia
   ·exact h1 x hx
  ·rename_i Ge
   have HR:ltP j p=false:=by simpa using Ge
   refine List.pairwise_cons.mpr ⟨λx hx=>?_,h⟩;rcases aP.mp hx with rfl|hx
   ·exact HR
   ·have:=h1 x hx;rw[sj]at this HR ⊢;lia
theorem pV:∀l:List (Int×Int),(dN l).Pairwise (λa b=>ltP b a=false)
 | []=>.nil
 |i::r=>pN i (pV r)
theorem so:∀(a b:List Int),dA a b=TS.ltL a b
 | [],[]=>rfl
 | [],_::_=>rfl
 |_::_,[]=>rfl
 |a::r,b::t=>by
  unfold dA TS.ltL;rw[so r t]
theorem l6(p:List Int):∀l,(fC p l).Perm (p::l)
 | []=>.refl _
 |j::r=>by
  unfold fC;split
  ·exact((l6 p r).cons j).trans (.swap ..)
  ·exact .refl _
theorem jk:∀l,(zH l).Perm l
 | []=>.refl _
 |i::r=>(l6 i _).trans ((jk r).cons i)
theorem sf(p:List Int):∀{l:List (List Int)},l.Pairwise (λa b=>TS.ltL b a=false)->(fC p l).Pairwise (λa b=>TS.ltL b a=false)
 | [],_=>by simp[fC]
 |j::r,h=>by
  unfold fC;obtain⟨h1,h2⟩:=List.pairwise_cons.mp h;rw[so];split
  ·rename_i Ge
   refine List.pairwise_cons.mpr ⟨λx hx=>?_,sf p h2⟩;rcases aP.mp ((l6 p r).mem_iff.mp hx)with rfl|hx
   ·exact TS.i8 Ge
   ·exact h1 x hx
  ·rename_i Ge
   have HR:TS.ltL j p=false:=by simpa using Ge
   refine List.pairwise_cons.mpr ⟨λx hx=>?_,h⟩;rcases aP.mp hx with rfl|hx
   ·exact HR
   ·exact TS.jy HR (h1 x hx)
theorem sJ:∀l:List (List Int),(zH l).Pairwise (λa b=>TS.ltL b a=false)
 | []=>.nil
 |i::r=>sf i (sJ r)
theorem vy{l m:List (List Int)}(h1:m.Perm l)(h2:m.Pairwise (λa b=>TS.ltL b a=false)):m=zH l:=
 (h1.trans (jk l).symm).eq_of_pairwise (λa b _ _ z1 z2=>TS.sU z2 z1) h2 (sJ l)
theorem lG(mx:Bool):∀(i:Int) (r:List Int) (n:Int),kl mx (i::r) n->n=cM mx i r
 |i,[],n,h=>by
  obtain⟨h1,_⟩:=h
  simpa[cM]using h1
 |i,j::r,n,h=>by
  obtain⟨h1,h2⟩:=h;unfold cM;refine lG mx _ r n ⟨?_,?_⟩
  ·have hi:=h2 i (by simp);have hj:=h2 j (by simp);rcases aP.mp h1 with rfl|h1
   ·cases mx<;>simp at hi hj ⊢ <;> left<;>first|lia|(intro _;lia)
   ·rcases aP.mp h1 with rfl|h1
    ·cases mx<;>simp at hi hj ⊢ <;> left<;>first|lia|(intro _;lia)
    ·exact aO _ h1
  ·intro m hm;rcases aP.mp hm with rfl|hm
   ·have hi:=h2 i (by simp);have hj:=h2 j (by simp);cases mx<;>simp at hi hj ⊢ <;> split<;>assumption
   ·exact h2 m (by simp[hm])
section
variable{X:Cx}{g:Gc}
theorem qq.tups{H:Hp}{ds:List D}:∀{vs:List V}{ts:List (List Int)},qq g H ds vs->tups? ds=some ts->ds=ts.map gW/\∃as:List Addr,vs=as.map V.ref/\as.length=ts.length/\∀(i:Nat) a t,as[i]? = some a->ts[i]? = some t->SqT g.K H a (t.map V.int)/\Rep g H (gW t) (.ref a):=by
 induction ds with
 |nil=>intro vs ts h e;cases h;cases e;exact⟨rfl,[],rfl,rfl,λi a p h=>by cases h⟩
 |cons d ds ih=>
  intro vs ts h e;cases h with
  |cons h t=>cases d with
   |tup xs=>
    obtain⟨n,e0,e⟩:=bD.mp (show (ints? xs).bind (λn=>(tups? ds).map (n :: ·))=some ts from e);obtain⟨ms,e1,rfl⟩:=bI.mp e;obtain⟨h1,as,h2,h3,h4⟩:=ih t e1;have hh:=h;cases h with
    | @tup a _ _ q r=>
     obtain⟨rfl,e2⟩:=r.ints e0;refine⟨by rw[h1,e2];rfl,a::as,by rw[h2];rfl,congrArg (· + 1) h3,λi b p hb hp=>?_⟩;cases i with
     |zero=>cases hb;cases hp;exact⟨q,by rw[e2]at hh;exact hh⟩
     |succ i=>exact h4 i b p hb hp
   |_=>cases (show none=some ts from e)
theorem qq.pairs{H:Hp}{ds:List D}:∀{vs:List V}{ps:List (Int×Int)},qq g H ds vs->pairs? ds=some ps->ds=ps.map pairD/\∃as:List Addr,vs=as.map V.ref/\as.length=ps.length/\∀(i:Nat) a p,as[i]? = some a->ps[i]? = some p->SqT g.K H a [.int p.1,.int p.2]:=by
 induction ds with
 |nil=>intro vs ps h e;cases h;cases e;exact⟨rfl,[],rfl,rfl,λi a p h=>by cases h⟩
 |cons d ds ih=>
  intro vs ps h e;have no:∀{P:Prop},pairs? (d::ds)=none->P:=λz=>by rw[z]at e;cases e
  cases h with
  |cons h t=>cases d with
   |tup xs=>cases xs with
    |nil=>exact no rfl
    |cons a xs=>cases a with
     |int x=>cases xs with
      |nil=>exact no rfl
      |cons b xs=>cases b with
       |int y=>cases xs with
        |cons _ _=>exact no rfl
        |nil=>
         obtain⟨ms,e1,rfl⟩:=bI.mp (show (pairs? ds).map ((x,y) :: ·)=some ps from e);obtain⟨h1,as,h2,h3,h4⟩:=ih t e1;cases h with
         | @tup a xs _ q r=>
          obtain⟨rfl,_⟩:=r.ints (ns:=[x,y]) rfl;refine⟨by rw[h1];rfl,a::as,by rw[h2];rfl,congrArg (· + 1) h3,λi b p hb hp=>?_⟩;cases i with
          |zero=>cases hb;cases hp;exact q
          |succ i=>exact h4 i b p hb hp
       |_=>exact no rfl
     |_=>exact no rfl
   |_=>exact no rfl
theorem rz{H:Hp}:∀{ts:List (List Int)}{as:List Addr},as.length=ts.length->(∀(i:Nat) a t,as[i]? = some a->ts[i]? = some t->Rep g H (gW t) (.ref a))->qq g H (ts.map gW) (as.map V.ref)
 | [],[],_,_=>.nil
 |t::ts,a::as,e,h=>.cons (h 0 a t rfl rfl) (rz (by simpa using e) λi b u hb hu=>h (i+1) b u (by simpa using hb) (by simpa using hu))
theorem mU:∀{xs:List D}{ps:List (Int×Int)},pairs? xs=some ps->tups? xs=some (ps.map λp=>[p.1,p.2])
 | [],_,h=>by cases h;rfl
 | .tup [.int i,.int j]::r,ps,h=>by
  simp only[pairs?,bI]at h;obtain⟨qs,h1,rfl⟩:=h;show (some [i,j]).bind (λn=>(tups? r).map (n :: ·))=_;rw[mU h1];rfl
theorem uc(p:Int×Int):∀qs:List (Int×Int),fC [p.1,p.2] (qs.map λp=>[p.1,p.2])=(fo p qs).map λp=>[p.1,p.2]
 | []=>rfl
 |q::r=>by
  have e:dA [q.1,q.2] [p.1,p.2]=ltP q p:=by
   simp only[dA,ltP];by_cases h:q.1=p.1
   ·rw[if_pos h,if_pos h];by_cases h':q.2=p.2
    ·rw[if_pos h',h'];simp
    ·rw[if_neg h']
   ·rw[if_neg h,if_neg h]
  rw[aN,fC,fo,e,uc p r];cases ltP q p<;>rfl
theorem m7:∀qs:List (Int×Int),zH (qs.map λp=>[p.1,p.2])=(dN qs).map λp=>[p.1,p.2]
 | []=>rfl
 |q::r=>by rw[aN,zH,dN,m7 r,uc]
theorem uw{xs:List D}{ps:List (Int×Int)}(h:pairs? xs=some ps)(h2:2<=ps.length):eW xs=.ok (.lst ((dN ps).map pairD)):=by
 rw[eW,mU h];have e:gF (ps.map λp=>[p.1,p.2])=true:=by
  match ps,h2 with
  |p::q::r,_=>simp[gF]
 show (if gF _=true then _ else _)=_;rw[e,if_pos rfl,m7,cc]
 rfl
theorem DT(hK:X.K=g.K)(hu:X.A.units+64<cLine):za X (.builtin "sorted") (rB1 g .sorted):=ft (Bo.or (Ej (show X.A.units+1+1<cLine by lia))) λS ds d vs H Q hs rs h q=>by
 obtain⟨x,rfl,h'⟩:=iy (λ_ _=>rfl) h;obtain⟨xs,rfl,h2⟩:=jx h'
 replace h:=h2
 cases rs with
 |cons r rs=>
  cases rs;obtain⟨a,us,rfl,h1,r1⟩:=r.lst;have big:eW xs=.ok d->tM X.K [.ref a] H Q:=λh=>by
   obtain⟨ts,e,h⟩:=iw h;split at h
   ·rename_i hh
    cases h;obtain⟨rfl,as,rfl,hl,hp⟩:=r1.tups e;have Nm:2<=ts.length/\(ts[0]? = some []\/∀t∈ts,t≠[]):=by
     match ts,hh with
     |p::q::r,hh=>
      refine⟨by simp,?_⟩;rw[gF,bQ]at hh;rcases hh with hh|hh
      ·exact .inl (by simpa using hh)
      ·exact .inr λt ht=>by simpa using bF.mp hh t ht
    refine⟨a,as,ts,rfl,by rw[hK];exact h1,hl,Nm.1,Nm.2,λi b t hb ht=>by rw[hK];exact zu zz (hp i b t hb ht).1,λD qs f hn pm hf ps=>?_⟩;have e1:as.map f=ts:=by
     refine List.ext_getElem (by simp[hl]) λi h1 h2=>?_
     rw[dE];have:i<as.length:=by simpa using h1
     exact hf i as[i] ts[i] (by simp[this]) (by simp[h2])
    have e2:qs.map f=zH ts:=vy (by have:=pm.map f;rwa[e1]at this) ps;have hR:qq g (hid H S) ((zH ts).map gW) (qs.map V.ref):=by
     rw[<-e2];refine rz (by simp) λi b t hb ht=>?_
     have hm:b∈as:=pm.mem_iff.mp (List.mem_of_getElem? hb);obtain⟨j,hj,rfl⟩:=List.getElem_of_mem hm;have Hr:j<ts.length:=by lia
     have e3:t=ts[j]:=by
      have e4:=hf j as[j] ts[j] (by simp[hj]) (by simp[Hr]);rw[List.getElem?_map,hb]at ht;simp at ht;rw[<-ht,e4]
     rw[e3];exact(hp j as[j] ts[j] (by simp[hj]) (by simp[Hr])).2
    exact q _ _ (qY hn) (gq hs hn hR) λ_=>iE (qf.refl _) hn hR
   ·cases h
  by_cases hz:xs.length<64
  ·rw[if_pos hz]at h
   all_goals
    cases e2:pairs? xs with
    |none=>rw[e2]at h;exact .inr (big h)
    |some ps=>
     rw[e2]at h;cases h;obtain⟨rfl,as,rfl,hl,hp⟩:=r1.pairs e2;by_cases h2:2<=ps.length
     ·exact .inr (big (uw e2 h2))
     ·have e3:dN ps=ps:=by
       match ps,h2 with
       | [],_=>rfl
       | [_],_=>rfl
       |_::_::r,h=>exact absurd (show 2<=r.length+1+1 by lia) h
      refine .inl ⟨a,as.map V.ref,rfl,by rw[hK];exact h1,by rw[bG];lia,λp hn=>?_⟩;rw[e3]at q;exact q _ _ (qY hn) (gq hs hn r1) λ_=>iE (qf.refl _) hn r1
  ·rw[if_neg hz]at h;exact .inr (big h)
theorem ue(hK:X.K=g.K)(hc:X.calm=true)(mx:Bool):za X (.builtin (if mx then "max" else "min")) (rB1 g (if mx then .max else .min)):=by
 have two:∀{S:Sh}{H:Hp}{x y:D}{vs:List V}{i j:Int},x=.int i->y=.int j->eN g H S [x,y] vs->vs=[.int i,.int j]:=by
  intro S H x y vs i j hx hy rs;subst hx hy;cases rs with
  |cons r1 rs=>
   cases rs with
   |cons r2 rs=>cases rs;rw[r1.int,r2.int]
 have one:∀{S:Sh}{H:Hp}{x d:D}{vs:List V},eN g H S [x] vs->b11 (if mx then .max else .min) x=.ok d->∃(l:Addr) (ns:List Int),vs=[.ref l]/\(SqL X.K H l (ns.map V.int)\/SqT X.K H l (ns.map V.int))/\ns≠[]/\∀n,kl mx ns n->d=.int n:=by
  intro S H x d vs rs hA;obtain⟨xs,e0,hB⟩:∃xs,seq? x=some xs/\(b7 (ints? xs) λns=>gK mx ns)=.ok d:=by
   cases mx<;>cases x<;>first|exact⟨_,rfl,hA⟩|(simp[b11,dt]at hA)
  obtain⟨ns,e,hC⟩:=iw hB;clear hA hB;have h:gK mx ns=.ok d:=hC;clear hC;cases rs with
  |cons r rs=>
   cases rs;obtain⟨a,us,rfl,h1,r1⟩:=r.seq e0;obtain⟨rfl,rfl⟩:=r1.ints e
   match ns,h with
   |i::r,h=>
    cases h;exact⟨a,i::r,rfl,by rw[hK];exact h1,by simp,λn hb=>by rw[lG _ _ _ _ hb]⟩
 have inv:∀{b:B1}{ds:List D}{d:D},b1 b ds=.ok d->(∃x,ds=[x]/\b11 b x=.ok d)\/∃x y,ds=[x,y]/\b12 b x y=.ok d:=by
  intro b ds d h
  match ds,h with
  | [x],h=>exact .inl ⟨x,rfl,h⟩
  | [x,y],h=>exact .inr ⟨x,y,rfl,h⟩
  | [],h=>cases h
  |_::_::_::_,h=>cases h
 cases mx
 ·exact ft ((BE hc).or ((nK hc false).or (p5 hc false))) λS ds d vs H Q hs rs h q=>by
   rcases inv h with ⟨x,rfl,h'⟩|⟨x,y,rfl,h'⟩
   ·obtain⟨l,ns,e1,e2,e3,e4⟩:=one rs h';rcases e2 with e2|e2
    ·exact .inr (.inl ⟨l,ns,e1,e2,e3,λn hb=>q _ _ (qf.refl _) (by rw[e4 n hb];exact .int _) (by simp)⟩)
    ·exact .inr (.inr ⟨l,ns,e1,e2,e3,λn hb=>q _ _ (qf.refl _) (by rw[e4 n hb];exact .int _) (by simp)⟩)
   ·obtain⟨i,j,hx,hy,h'⟩:=o5 h';cases h';exact .inl ⟨i,j,two hx hy rs,q _ _ (qf.refl _) (.int _) (by simp)⟩
 ·exact ft ((yN hc).or ((nK hc true).or (p5 hc true))) λS ds d vs H Q hs rs h q=>by
   rcases inv h with ⟨x,rfl,h'⟩|⟨x,y,rfl,h'⟩
   ·obtain⟨l,ns,e1,e2,e3,e4⟩:=one rs h';rcases e2 with e2|e2
    ·exact .inr (.inl ⟨l,ns,e1,e2,e3,λn hb=>q _ _ (qf.refl _) (by rw[e4 n hb];exact .int _) (by simp)⟩)
    ·exact .inr (.inr ⟨l,ns,e1,e2,e3,λn hb=>q _ _ (qf.refl _) (by rw[e4 n hb];exact .int _) (by simp)⟩)
   ·obtain⟨i,j,hx,hy,h'⟩:=o5 h';cases h';exact .inl ⟨i,j,two hx hy rs,q _ _ (qf.refl _) (.int _) (by simp)⟩
theorem E7{S:Sh}{H:Hp}{vs:List V}{i:Int}(rs:eN g H S [.int i] vs):vs=[.int i]:=by
 cases rs with
 |cons r1 rs=>cases rs;rw[r1.int]
theorem BW{S:Sh}{H:Hp}{vs:List V}{i:Bool}(rs:eN g H S [.bl i] vs):vs=[.bl i]:=by
 cases rs with
 |cons r1 rs=>cases rs;rw[r1.bl]
theorem uF:za X (.builtin "abs") (rB1 g .abs):=tO (λ_=>rfl) λ_ _=>rfl
theorem CJ:za X (.type "int") (rB1 g .int):=ft Ak λS ds d vs H Q hs rs h q=>by
 obtain⟨x,rfl,h'⟩:=iy (λ_ _=>rfl) h;rcases ym h' with ⟨i,rfl,h'⟩|⟨i,rfl,h'⟩
 ·cases h';exact .inl ⟨i,E7 rs,q _ _ (qf.refl _) (.int _) (by simp)⟩
 ·cases h';exact .inr ⟨i,BW rs,q _ _ (qf.refl _) (.int _) (by simp)⟩
theorem BV:za X (.type "bool") (rB1 g .bool):=tO (λ_=>rfl) λ_ _=>rfl
theorem vw(hK:X.K=g.K)(hc:X.calm=true):za X (.builtin "sum") (rB1 g .sum):=ft (xp hc) λS ds d vs H Q hs rs h q=>by
 obtain⟨x,rfl,h'⟩:=iy (λ_ _=>rfl) h;obtain⟨xs,rfl,h'⟩:=jx h';obtain⟨ns,e,h'⟩:=iw h';cases h';cases rs with
 |cons r rs=>
  cases rs;obtain⟨a,us,rfl,h1,r1⟩:=r.lst;obtain⟨rfl,rfl⟩:=r1.ints e;exact⟨a,ns,rfl,by rw[hK];exact h1,q _ _ (qf.refl _) (.int _) (by simp)⟩
theorem rT(hK:X.K=g.K)(hu:X.A.units+64<cLine)(hg:X.A.guards=some []):∀b,(X.calm=true\/b=.len\/b=.abs\/b=.tuple\/b=.list\/b=.int\/b=.bool)->za X (b1V b) (rB1 g b)
 | .len,_=>DJ hK
 | .tuple,_=>Cs hK
 | .list,_=>FQ hK
 | .sorted,_=>DT hK hu
 | .all,h=>sA hK (by simpa using h) true
 | .any,h=>sA hK (by simpa using h) false
 | .sum,h=>vw hK (by simpa using h)
 | .min,h=>ue hK (by simpa using h) false
 | .max,h=>ue hK (by simpa using h) true
 | .abs,_=>uF
 | .int,_=>CJ
 | .bool,_=>BV
 | .repr,_=>Ad hK hu hg
theorem pJ{H:Hp}{ds:List D}{vs:List V}(r:qq g H ds vs):ds.isEmpty=vs.isEmpty:=by cases r<;>rfl
theorem D4(hK:X.K=g.K){S:Sh}{H:Hp}{d:D}{v:V}{b:Bool}(r:zw g H S d v)(e:truth d=.ok b):kU X.K v H b:=by
 cases d with
 |non=>cases r.rep;cases e;exact rfl
 |bl c=>cases r.rep;cases e;exact rfl
 |int i=>cases r.rep;cases e;exact rfl
 |tup xs=>
  cases e;obtain⟨a,vs,rfl,h1,r1⟩:=r.tup;exact .inr (.inl ⟨vs,by rw[hK];exact h1,by rw[pJ r1]⟩)
 |lst xs=>
  cases e;obtain⟨a,vs,rfl,h1,r1⟩:=r.lst;exact .inl ⟨vs,by rw[hK];exact h1,by rw[pJ r1]⟩
 |_=>cases e
theorem uS(hK:X.K=g.K):za X (.builtin "isinstance") (λxs H Q=>∃S d v n t,xs=[v,.ty n]/\zw g H S d v/\tyD d=some t/\n∈["int","bool","str","list","tuple"]/\Q (.bl (ig t n)) H):=by
 intro pins s σ H xs us Q I r h;obtain⟨S,d,v,n,t,rfl,rd,ht,hn,q⟩:=h;obtain⟨u,cu,rfl,rx,rc⟩:=r.two;cases rc;have fin:∀tk,EP X pins σ Q (.bool (ig t n)) {s with toks:=tk}:=λtk=>⟨.bl _,H,I.tok tk,rfl,q⟩
 have kb:t∈["NoneType","bool","int","str","list","tuple","dict"]->b_ X.K (.type t) (.type n)=some (ig t n):=λh=>z_ h hn
 cases d with
 |non=>cases ht;cases rd.rep;exact jh I rx .non (kb (by simp)) fin
 |bl c=>cases ht;cases rd.rep;exact jh I rx (.bl c) (kb (by simp)) fin
 |int i=>cases ht;cases rd.rep;exact jh I rx (.int i) (kb (by simp)) fin
 |str i=>cases ht;cases rd.rep;exact jh I rx (.str i) (kb (by simp)) fin
 |tup xs=>
  cases ht;obtain⟨a,vs,rfl,h1,_⟩:=rd.tup;cases rx;obtain⟨its,_,⟨o,e1,e2,_⟩,_⟩:=I.tuple (by rw[hK];exact h1);exact b4 PySem.W.kitx_tuple I.kIn ⟨o,e1,e2⟩ (kb (by simp)) (λz=>nomatch z) fin
 |lst xs=>
  cases ht;obtain⟨a,vs,rfl,h1,_⟩:=rd.lst;cases rx;obtain⟨its,_,pl,_⟩:=I.list (by rw[hK];exact h1);obtain⟨o,e1,e2,_⟩:=pl.isList;exact b4 PySem.W.kitx_list I.kIn ⟨o,e1,e2⟩ (kb (by simp)) (λz=>nomatch z) fin
 |dic=>
  cases ht;cases rd.rep with
  |dic h1=>exact jh I rx (.dK h1) (kb (by simp)) fin
 |_=>cases ht
end
theorem B5{o:O2}{a b:Int}{c:Xc}:opI o a b≠.ex c:=by
 cases o<;>simp only[opI]<;>(try split)<;>intro h<;>cases h
theorem yP{o:O2}{a b:D}{c:Xc}:op2 o a b≠.ex c:=by
 unfold op2;split
 ·exact B5
 all_goals ((try split)<;>intro h<;>cases h)
theorem mO{n:Bool}{a b:D}{c:Xc}:isB n a b≠.ex c:=by
 unfold isB;split<;>intro h<;>cases h
theorem Av{o:C2}{a b:D}{c:Xc}:qh o a b≠.ex c:=by
 cases o with
 |is=>rw[zZ];split<;>first|(intro h;cases h;done)|exact mO
 |isnot=>rw[zq];split<;>first|(intro h;cases h;done)|exact mO
 |isin=>rw[zy];split<;>(try split)<;>first|(intro h;cases h;done)|(intro h;cases h;done)
 |notin=>rw[zt];split<;>(try split)<;>first|(intro h;cases h;done)|(intro h;cases h;done)
 |eq=>rw[dW];split<;>first|(intro h;cases h;done)|(intro h;cases h;done)
 |ne=>rw[zY];split<;>first|(intro h;cases h;done)|(intro h;cases h;done)
 |_=>cases a<;>first|(intro h;cases h;done)|(cases b<;>first|(intro h;cases h;done)|(intro h;cases h;done)|(rw[zX];split<;>(intro h;cases h;done)))
theorem BR{a:D}{c:Xc}:truth a≠.ex c:=by
 unfold truth;split<;>intro h<;>cases h
theorem Fd{a b:D}{c:Xc}:ixD a b≠.ex c:=by
 unfold ixD;split<;>(try split)<;>intro h<;>cases h
theorem DL{a:D}{l h:Option Int}{c:Xc}:slD a l h≠.ex c:=by
 unfold slD;split<;>(try split)<;>intro h<;>cases h
theorem jq{x:D}{k:List D->R D}{c:Xc}(h:∀xs,k xs≠.ex c):dt x k≠.ex c:=by
 cases x with
 |lst xs=>exact h xs
 |_=>intro z;cases z
theorem uH{x:D}{f:Int->R D}{q:Bool->R D}{c:Xc}(h:∀i,f i≠.ex c)(h':∀i,q i≠.ex c):ibR x f q≠.ex c:=by
 cases x with
 |int i=>exact h i
 |bl i=>exact h' i
 |_=>intro z;cases z
theorem oz{x y:D}{k:Int->Int->R D}{c:Xc}(h:∀i j,k i j≠.ex c):iiR x y k≠.ex c:=by
 cases x with
 |int i=>
  cases y with
  |int j=>exact h i j
  |_=>intro z;cases z
 |_=>intro z;cases z
theorem eY{α β:Type}{o:Option α}{k:α->R β}{c:Xc}(h:∀a,k a≠.ex c):b7 o k≠.ex c:=by
 cases o with
 |some a=>exact h a
 |none=>intro z;cases z
theorem dw{α:Type}{a:α}{c:Xc}:R.ok a≠.ex c:=by intro z;cases z
theorem dJ{α:Type}{c:Xc}:(R.no:R α)≠.ex c:=by intro z;cases z
theorem pq{xs:List D}{c:Xc}:eW xs≠.ex c:=eY λ_=>by
 split
 ·exact dw
 ·exact dJ
theorem nN{mx:Bool}{ns:List Int}{c:Xc}:gK mx ns≠.ex c:=by
 cases ns
 ·exact dJ
 ·exact dw
theorem C7{d:D}{c:Xc}:gJ d≠.ex c:=by
 unfold gJ;split
 ·split
  ·exact dw
  ·exact dJ
 ·exact dJ
theorem Bv{b:B1}{d:D}{c:Xc}:b11 b d≠.ex c:=by
 cases b with
 |len=>exact eY λ_=>dw
 |tuple=>exact eY λ_=>dw
 |list=>exact eY λ_=>dw
 |all=>exact jq λ_=>eY λ_=>dw
 |any=>exact jq λ_=>eY λ_=>dw
 |sorted=>
  refine jq λ_=>?_
  split
  ·split
   ·exact dw
   ·exact pq
  ·exact pq
 |abs=>exact dJ
 |int=>exact uH (λ_=>dw) λ_=>dw
 |bool=>exact dJ
 |sum=>exact jq λ_=>eY λ_=>dw
 |repr=>exact C7
 |min=>cases d<;>first|exact eY λ_=>nN|exact dJ
 |max=>cases d<;>first|exact eY λ_=>nN|exact dJ
theorem Bb{b:B1}{ds:List D}{c:Xc}:b1 b ds≠.ex c:=by
 match ds with
 | []=>exact dJ
 | [_]=>exact Bv
 | [x,y]=>
  cases b with
  |min=>exact oz λ_ _=>dw
  |max=>exact oz λ_ _=>dw
  |_=>exact dJ
 |_::_::_::_=>exact dJ
structure bC(g:Gc)(c:Cc)(e:E)(S:Sh)(H:Hp)(d:D)(v:V)(H':Hp):Prop where
 same:qf H H'
 rb:zw g H' S d v
 st:esc e=true->Rep g (hid H' S) d v
 fr:fresh c e=true->Fr g H S H' d v
theorem fj.hid{H0 H H':Hp}{S:Sh}{dx:Option Addr}{fs:List (Str×Int)}(h:fj H0 H dx fs)(sb:Sub S H0)(e:qf H H'):i9 (hid H' S) dx fs:=by
 rcases h with h|⟨d,h1,h2,h3⟩
 ·exact .inl h
 ·exact .inr ⟨d,h1,bW.mpr ⟨sb.free h2,e _ _ h3⟩⟩
structure SE(g:Gc)(c:Cc)(τ:Env)(σ:L2.St)(H:Hp)(S:Sh):Prop where
 len:τ.length=σ.length
 val:∀(i:Nat) (d:D),τ[i]? = some (some d)->∃v,σ[i]? = some (some v)/\zw g H S d v/\∀x,c.N[i]? = some x->c.own.contains x=false->Rep g (hid H S) d v
 sub:Sub S H
theorem SE.up{g:Gc}{c:Cc}{τ:Env}{σ:L2.St}{H H':Hp}{S:Sh}(s:SE g c τ σ H S)(e:qf H H'):SE g c τ σ H' S:=
 ⟨s.len,λi d h=>let ⟨v,h1,h2,h3⟩:=s.val i d h;⟨v,h1,h2.mono e,λx a b=>(h3 x a b).mono (qZ e)⟩,s.sub.same e⟩
def tR{α:Type}(g:Gc)(E:XK)(H:Hp)(r:R α)(k:α->Prop):Prop:=match r with
 | .ok a=>k a
 | .ex c=>∀H' C dx,qf H H'->g.clA c.nm=some C->fj H H' dx c.fs->E (.ref C) dx H'
 | .no=>False
theorem tR.up{α:Type}{g:Gc}{E:XK}{H H':Hp}{r:R α}{k:α->Prop}(h:tR g E H r k)(e:qf H H'):tR g E H' r k:=by
 cases r with
 |ok a=>exact h
 |ex c=>exact λH2 C dx e2 hc hx=>h H2 C dx (e.trans e2) hc (hx.low e)
 |no=>exact h
theorem tR.imp{α:Type}{g:Gc}{E:XK}{H:Hp}{r:R α}{k k':α->Prop}(h:tR g E H r k)(i:∀a,k a->k' a):tR g E H r k':=by
 cases r with
 |ok a=>exact i a h
 |ex c=>exact h
 |no=>exact h
section
variable(w:W)(g:Gc)(c:Cc)(E:XK)
def tE(e:EV.E):TE:=λσ H Q=>∃τ S,SE g c τ σ H S/\tR g E H (evE w e τ) λd=>∀v H',bC g c e S H d v H'->Q v H'
def tT(t:T):TT:=λσ H Q=>∃τ S,SE g c τ σ H S/\tR g E H (evT w t τ) λb=>∀H',qf H H'->Q b H'
def tA(es:Es):TA:=λσ H Q=>∃τ S,SE g c τ σ H S/\tR g E H (qD w es τ) λds=>∀vs H',qf H H'->eN g H' S ds vs->(eP es=true->qq g (hid H' S) ds vs)->Q vs H'
def tOe(o:OE):TO:=λσ H Q=>∃τ S,SE g c τ σ H S/\tR g E H (evO w o τ) λi=>∀H',qf H H'->Q i H'
def Goes(g:Gc)(J:L2.It)(ds:List D)(H:Hp)(S:Sh):Prop:=
 (∀i,ds.length<=i->J.stop i H)/\∀i d,ds[i]? = some d->J.go i H/\∀x H',J.yld i H x H'->qf H H'/\Rep g (hid H' S) d x
def tIt(it:It):TI:=λσ H R=>∃τ S,SE g c τ σ H S/\tR g E H (evI w it τ) λds=>∀J H',qf H H' ->
 (∀H2 S2,qf H' H2->qf (hid H' S) (hid H2 S2)->Sub S2 H2->Goes g J ds H2 S2)->(owned it=false->∀H2 S2,qf (hid H' S) (hid H2 S2)->Sub S2 H2->Goes g J ds H2 S2)->R J H'
end
theorem PE.imp{X:Cx}{e:Expr}{t t':TE}(h:PE X e t)(i:∀σ H Q,t' σ H Q->t σ H Q):PE X e t':=λpins s σ H Q I q=>h pins s σ H Q I (i _ _ _ q)
theorem PT.imp{X:Cx}{e:Expr}{t t':TT}(h:PT X e t)(i:∀σ H Q,t' σ H Q->t σ H Q):PT X e t':=λpins s σ H Q I q=>h pins s σ H Q I (i _ _ _ q)
theorem PW.imp{X:Cx}{e:Expr}{t t':TT}(h:PW X e t)(i:∀σ H Q,t' σ H Q->t σ H Q):PW X e t':=λwh pins s σ H Q I q=>h wh pins s σ H Q I (i _ _ _ q)
theorem PA.imp{X:Cx}{e:List Expr}{t t':TA}(h:PA X e t)(i:∀σ H Q,t' σ H Q->t σ H Q):PA X e t':=λpos pins s σ H Q I q=>h pos pins s σ H Q I (i _ _ _ q)
theorem PO.imp{X:Cx}{e:Option Expr}{t t':TO}(h:PO X e t)(i:∀σ H Q,t' σ H Q->t σ H Q):PO X e t':=λpins s σ H Q I q=>h pins s σ H Q I (i _ _ _ q)
theorem PI.imp{X:Cx}{tg e:Expr}{t t':TI}(h:PI X tg e t)(i:∀σ H Q,t' σ H Q->t σ H Q):PI X tg e t':=λpins s σ H Q I q=>h pins s σ H Q I (i _ _ _ q)
theorem PS.imp{X:Cx}{e:Stmt}{t t':TS}(h:PS X e t)(i:∀D σ H,t' D σ H->t D σ H):PS X e t':=λpins s σ H Q I q=>h pins s σ H Q I (i _ _ _ q)
theorem PSs.imp{X:Cx}{e:List Stmt}{t t':TS}(h:PSs X e t)(i:∀D σ H,t' D σ H->t D σ H):PSs X e t':=λpins s σ H Q I q=>h pins s σ H Q I (i _ _ _ q)
section
variable{w:W}{g:Gc}{c:Cc}{E:XK}{τ:Env}{σ:L2.St}{H H0:Hp}{S:Sh}
theorem zd{α:Type}{e:EV.E}{f:D->R α}{P:α->Prop}{Q:VK}(se:SE g c τ σ H S)(h:tR g E H ((evE w e τ).bind f) P)(k:∀d v H',evE w e τ=.ok d->bC g c e S H d v H'->tR g E H' (f d) P->Q v H'):tE w g c E e σ H Q:=by
 refine⟨τ,S,se,?_⟩;cases q:evE w e τ with
 |ok d=>rw[q]at h;exact λv H' p=>k d v H' q p (tR.up h p.same)
 |ex x=>rw[q]at h;exact h
 |no=>rw[q]at h;exact h
theorem kf{α:Type}{t:T}{f:Bool->R α}{P:α->Prop}{Q:Bool->Hp->Prop}(se:SE g c τ σ H S)(h:tR g E H ((evT w t τ).bind f) P)(k:∀b H',evT w t τ=.ok b->qf H H'->tR g E H' (f b) P->Q b H'):tT w g c E t σ H Q:=by
 refine⟨τ,S,se,?_⟩;cases q:evT w t τ with
 |ok d=>rw[q]at h;exact λH' p=>k d H' q p (tR.up h p)
 |ex x=>rw[q]at h;exact h
 |no=>rw[q]at h;exact h
theorem iu{α:Type}{es:Es}{f:List D->R α}{P:α->Prop}{Q:List V->Hp->Prop}(se:SE g c τ σ H S)(h:tR g E H ((qD w es τ).bind f) P)
  (k:∀ds vs H',qD w es τ=.ok ds->qf H H'->eN g H' S ds vs->(eP es=true->qq g (hid H' S) ds vs)->tR g E H' (f ds) P->Q vs H'):tA w g c E es σ H Q:=by
 refine⟨τ,S,se,?_⟩;cases q:qD w es τ with
 |ok d=>rw[q]at h;exact λvs H' p r r'=>k d vs H' q p r r' (tR.up h p)
 |ex x=>rw[q]at h;exact h
 |no=>rw[q]at h;exact h
theorem sS{α:Type}{o:OE}{f:Option Int->R α}{P:α->Prop}{Q:Option Int->Hp->Prop}(se:SE g c τ σ H S)(h:tR g E H ((evO w o τ).bind f) P)(k:∀b H',evO w o τ=.ok b->qf H H'->tR g E H' (f b) P->Q b H'):tOe w g c E o σ H Q:=by
 refine⟨τ,S,se,?_⟩;cases q:evO w o τ with
 |ok d=>rw[q]at h;exact λH' p=>k d H' q p (tR.up h p)
 |ex x=>rw[q]at h;exact h
 |no=>rw[q]at h;exact h
theorem bC.of{e:EV.E}{d:D}{v:V}{H':Hp}(s:qf H H')(r:Rep g (hid H' S) d v)(f:fresh c e=false):bC g c e S H d v H':=⟨s,.inl r,λ_=>r,λz=>by rw[f]at z;cases z⟩
theorem bC.new{e:EV.E}{d:D}{v:V}{H':Hp}(s:qf H H')(r:Rep g (hid H' S) d v)(f:Fr g H S H' d v):bC g c e S H d v H':=⟨s,.inl r,λ_=>r,λ_=>f⟩
theorem Fr.low{d:D}{v:V}{H1 H':Hp}(f:Fr g H1 S H' d v)(e:qf H H1):Fr g H S H' d v:=by
 obtain⟨a,vs,ds,h1,h2,h3,h4,h5⟩:=f;exact⟨a,vs,ds,h1,h2,e.free h3,h4,h5⟩
end
noncomputable def b1N:B1->Str
 | .len=>"len"
 | .tuple=>"tuple"
 | .list=>"list"
 | .sorted=>"sorted"
 | .all=>"all"
 | .any=>"any"
 | .sum=>"sum"
 | .min=>"min"
 | .max=>"max"
 | .abs=>"abs"
 | .int=>"int"
 | .bool=>"bool"
 | .repr=>"repr"
theorem lK:∀b,bT (b1N b)=some (b1V b)
 | .len | .tuple | .list | .sorted | .all | .any | .sum | .min | .max | .abs | .int | .bool | .repr=>by decide +kernel
def spF(w:W)(g:Gc)(x:Str)(fr:Bool):Sp:=λvs H Q E=>∃S ds,Sub S H/\qq g (hid H S) ds vs /\
 tR g E H (w.call x ds) λd=>∀v H',qf H H'->Rep g (hid H' S) d v->(fr=true->Fr g H S H' d v)->Q v H'
structure ka(w:W)(g:Gc)(P:aF)(wl:aB)(mg:Str->Option ae)(base:Heap)(A:aG)(calm:Bool)(x:Str)(f:Addr)(fr:Bool):Prop where
 at_:mg x=some (.ref f)
 kp:de g.K (.ref f)=true
 fn:∃k fd ps,Binds g.K fd ps []/\((calm=true/\gb P wl g.K mg base (CX1 P wl) k f fd ps (spF w g x fr)/\cP k A)\/(calm=false/\kE P wl g.K mg base (CX1 P wl) k f fd ps (spF w g x fr)/\iW k A))
def GM(w:W)(g:Gc)(P:aF)(wl:aB)(mg:Str->Option ae)(base:Heap)(A:aG)(calm:Bool)(x:Str):GK->Prop
 | .fn fr=>∃f,g.fnA x=some f/\ka w g P wl mg base A calm x f fr
 | .val=>∃u v d,mg x=some u/\RelV v u/\w.glb x=some d/\∀H,Rep g H d v
 | .bi b=>mg x=none/\x=b1N b/\∃id,b1V b=.builtin id
 | .rng=>mg x=none/\x = "range"
 | .enum=>mg x=none/\x = "enumerate"
 | .zip=>mg x=none/\x = "zip"
 | .isi=>mg x=none/\x = "isinstance"
 | .ty n b=>mg x=none/\bT x=some (.type n)/\(n∈["int","bool","str","list","tuple"]\/n = "ValueError")/\∀b',b=some b'->x=b1N b'/\b1V b'=.type n
 | .exc=>∃C,mg x=some (.ref C)/\g.clA x=some C
 | .exk=>∃C,mg x=some (.ref C)/\g.clA x=some C
 | .exf=>∃C,mg x=some (.ref C)/\g.clA x=some C
 | .set=>mg x=none/\bT x=some (.type "set")
def m9(fl:Str->Option (List Str))(g:Gc):Prop:=∀x fs,fl x=some fs->∀C,g.clA x=some C->∃fI,dn g.K C fI fs/\fT g.K fI fs/\fs.length<=100/\fs≠[]
structure XO(w:W)(g:Gc)(c:Cc)(E:XK)(X:Cx):Prop where
 K:X.K=g.K
 nm:X.env.scope.names=c.nm
 N:X.N=c.N
 nd:c.N.Nodup
 calm:c.calm=true->X.calm=true
 units:X.A.units+64<cLine/\X.A.guards=some []
 dp:X.A.depth+5<recursionLimit
 fn:∀x,(c.fnc=true\/c.oc.contains x=true)->X.fn x=true
 kind:X.env.scope.kind=.function
 pass:Passes (CX1 X.prog X.w) X E
 gok:∀x k,c.G.lookup x=some k->GM w g X.prog X.w X.mg X.base X.A X.calm x k
 fns:X.calm=true->∀x f,g.fnA x=some f->∃fr,ka w g X.prog X.w X.mg X.base X.A X.calm x f fr
 -- what isinstance says of a caught error
 sub:∀k cl b,w.sub k cl=some b->∃C cv,g.clA k=some C/\fh g.K C/\b_ g.K (.ref C) cv=some b/\match cl with
  | .ty n=>n = "ValueError"/\cv=.type n
  | .ex x=>∃D,g.clA x=some D/\cv=.ref D
 -- the classes of errors with fields
 fl:m9 w.fld g
section
variable{w:W}{g:Gc}{c:Cc}{E:XK}{X:Cx}
theorem fA{x:Str}{i:Nat}(h:loc c x=some i):c.N[i]? = some x/\(c.nm.lookup x=some .local\/c.nm.lookup x=some .cell\/c.nm.lookup x=some .free)/\(x==("__debug__" : Str))=false/\(x==("__classdict__" : Str))=false:=by
 unfold loc at h;split at h
 ·exact oN h
 ·rename_i hd
  have HU:(x==("__debug__" : Str))=false/\(x==("__classdict__" : Str))=false:=by simpa using hd
  have fin:∀{j},(if c.N[j]? = some x then some j else none)=some i->c.N[i]? = some x:=λ{j} z=>by
   split at z
   ·cases z;assumption
   ·cases z
  split at h
  ·rename_i q;exact⟨fin h,.inl q,HU⟩
  ·rename_i q;exact⟨fin h,.inr (.inl q),HU⟩
  ·rename_i q;exact⟨fin h,.inr (.inr q),HU⟩
  ·exact oN h
theorem qw{x:Str}{k:GK}(h:glob c x=some k):c.nm.lookup x=some .globalImplicit/\c.G.lookup x=some k/\(x==("__debug__" : Str))=false/\x≠"__name__":=by
 unfold glob at h;split at h
 ·exact oN h
 ·rename_i hd
  have HU:(x==("__debug__" : Str))=false/\(x==("__name__" : Str))=false:=by simpa using hd
  split at h
  ·rename_i q;exact⟨q,h,HU.1,by simpa using HU.2⟩
  ·exact oN h
theorem XO.gl(O:XO w g c E X){x:Str}{k:GK}(h:glob c x=some k):Gl X x:=by
 show X.env.scope.names.lookup x=_;rw[O.nm];exact(qw h).1
theorem XO.gm(O:XO w g c E X){x:Str}{k:GK}(h:glob c x=some k):GM w g X.prog X.w X.mg X.base X.A X.calm x k:=O.gok x k (qw h).2.1
theorem qu{e:Expr}{es:List Expr}{env:PySem.Env}(h:isStar e=false):aV (e::es) env=(false,eval e env)::aV es env:=by
 cases e<;>first|rfl|(exact Bool.noConfusion h)
theorem iI{es:List Expr}{env:PySem.Env}{pos:Pos}:(∀e∈es,isStar e=false)->(backTo pos (aV es env)).any (·.1)=false:=by
 induction es with
 |nil=>intro _;rfl
 |cons e es ih=>
  intro h;rw[qu (h e aQ)];show (false||(backTo pos (aV es env)).any (·.1))=false;rw[ih λe he=>h e (aO _ he)]
  rfl
theorem gB:∀{n:Nat}{es:List Expr}{ir:Es},cEs n c es=some ir->∀e∈es,isStar e=false
 | 0,_,_,h=>by simp[cEs]at h
 |n+1,[],_,_=>by simp
 |n+1,e::es,ir,h=>by
  simp only[cEs]at h;cases hs:isStar e with
  |true=>simp[hs]at h
  |false=>
   simp only[hs,bL,if_false,bX,bD]at h;obtain⟨_,_,r,hr,_⟩:=h;intro x hx;rcases aP.mp hx with rfl|hx
   ·exact hs
   ·exact gB hr x hx
theorem vX{x:Str}{f:Addr}{fr:Bool}{e:Expr}{es:List Expr}{p pos:Pos}{t:TA}(O:XO w g c E X)(C:ka w g X.prog X.w X.mg X.base X.A X.calm x f fr)(hg:Gl X x)(hd:(x==("__debug__" : Str))=false)(ha:PA X (e::es) t)
  (hs:∀z∈e::es,isStar z=false):PE X (.Call (.Name x p) (e::es) [] pos) (kF (spF w g x fr) [] E t):=by
 obtain⟨k,fd,ps,hb,h⟩:=C.fn;have he:=qu (es:=es) (env:=X.env) (hs e aQ);have hp:=iI (env:=X.env) (pos:=pos) λz hz=>hs z (aO _ hz)
 rw[<-O.K]at hb h;rcases h with ⟨_,F,r⟩|⟨_,F,r⟩
 ·exact DM F r hg C.at_ (by rw[O.K];exact C.kp) hb .nil O.pass ha hd he hp
 ·exact Fm F r hg C.at_ (by rw[O.K];exact C.kp) hb .nil O.pass ha hd he hp
end
end EV
namespace L2
open PySem PySem.Spec PyProof.Rows
theorem Inv.nsKept{X:Cx}{pins:List (Addr×Obj)}{σ:St}{H:Hp}{s s':af}(I:Inv X pins σ H s)(Hl:s'.os=s.os)(hg:s'.gens=s.gens)
  (k:∀b o,b≠X.env.locals->s.heap.get? b=some o->s'.heap.get? b=some o) (ns:∀m,s.heap.Ns X.env.locals m->s'.heap.Ns X.env.locals m):Inv X pins σ H s':=by
 obtain⟨h',g',d',t',o'⟩:=s';have eo:o'=s.os:=Hl;have eg:g'=s.gens:=hg;subst eo eg;obtain⟨m0,n0,_⟩:=id I.loc;obtain⟨L_,Jl,Jm,Ja,_⟩:=ns _ n0;refine I.step (g':=s.gens) (d':=d') (ch:=[]) (λb hb=>absurd hb (by simp)) (λb o hL _ _ e _=>k b o hL e) (λb o hL _ _ e _=>⟨o.slots,k b o hL e⟩) (λb o _ e n=>n) (λb o _ e=>?_)
  (λb xs e=>e) (λb o u e=>e) (λb ps e=>⟨#[],by rw[e];simp⟩) ns (λb u e=>?_) I.bare
 ·by_cases hL:b=X.env.locals
  ·exact⟨L_,by rw[hL];exact Ja⟩
  ·exact⟨o,k b o hL e⟩
 ·have nl:∀c,(∃u,H c=some u)->c≠X.env.locals:=λc ⟨u,e⟩ z=>by rw[z,I.free]at e;cases e
  refine(I.hok b u e).stay (λc v hc q=>k c v (nl c ?_) q) (λc q=>q) λc xs q=>q
  rcases hc with z|z
  ·exact⟨u,by rw[z];exact e⟩
  ·exact⟨_,z⟩
section
variable{X:Cx}
def nX(mx:Bool)(ns:List Int)(i:Nat):Prop:=∀(n:Int),ns[i]? = some n->∀(j:Nat) (m:Int),ns[j]? = some m->if mx then m<=n/\(j<i->m<n)else n<=m/\(j<i->n<m)
theorem w8(hc:X.calm=true)(mx:Bool){pins:List (Addr×Obj)}{s:af}{σ:St}{H:Hp}{Q:VK}(I:Inv X pins σ H s){l:Addr}{ps:List Addr}{ns:List Int}(hl:SqL X.K H l (ps.map V.ref))(hn:ns.length=ps.length)(h0:ps≠[])
  (hp:∀(i:Nat) p n,ps[i]? = some p->ns[i]? = some n->∃ys,(SqL X.K H p ys\/SqT X.K H p ys)/\(ys.length:Int)=n)
  (q:∀(i:Nat) p,ps[i]? = some p->nX mx ns i->Q (.ref p) H) :
  ak (ao X.prog X.w) X.A (call (.builtin (if mx then "max" else "min")) [.ref l] [(aJ "key",.builtin "len")]) (EP X pins σ Q) X.xe s:=by
 obtain⟨its,rv,pl,hz⟩:=I.list hl;have hits:its.length=ps.length:=by rw[<-rv.length,bG]
 obtain⟨m,F⟩:=I.fr;have N:=yX (g:=X.base) (h:=s.heap) (L:=X.env.locals);have keep:∀(h':Heap),PyProof.Rows.Fr X.base X.env.locals h' m->News X.base X.env.locals h' (eQ X.base s.heap X.env.locals)->∀b o,b≠X.env.locals->s.heap.get? b=some o->h'.get? b=some o:=λh' F' N' b o hb e=>by
  cases qb:X.base.get? b with
  |some ob=>have:=I.bk b ob qb;rw[e]at this;cases this;exact F'.keep b _ qb
  |none=>exact(N' (b,o) (Bj hb qb e)).1
 have J8:∀b o vs n,s.heap.get? b=some o->o.data=.seq vs n->b≠X.env.locals:=λb o vs n e1 e3 z=>by
  obtain⟨_,⟨oL,es,ep,GJ,LL,_⟩,_⟩:=I.loc;rw[z,GJ]at e1;cases e1;rw[LL]at e3;cases e3
 have lst:∀(h':Heap) b vs,PyProof.Rows.Fr X.base X.env.locals h' m->News X.base X.env.locals h' (eQ X.base s.heap X.env.locals)->s.heap.IsList b vs->h'.IsList b vs:=λh' b vs F' N' hh=>by
  obtain⟨o,e1,e2,n,e3⟩:=hh;exact⟨o,keep h' F' N' b o (J8 _ _ _ _ e1 e3) e1,e2,n,e3⟩
 have tup:∀(h':Heap) b vs,PyProof.Rows.Fr X.base X.env.locals h' m->News X.base X.env.locals h' (eQ X.base s.heap X.env.locals)->s.heap.IsTuple b vs->h'.IsTuple b vs:=λh' b vs F' N' hh=>by
  obtain⟨o,e1,e2,n,e3⟩:=hh;exact⟨o,keep h' F' N' b o (J8 _ _ _ _ e1 e3) e1,e2,n,e3⟩
 have QE:=iD;have turn:∀(i:Nat) (v:ae),its[i]? = some v->∀(h:Heap) (tk:Nat) (own:List (Addr×Obj)),PyProof.Rows.Fr X.base X.env.locals h m->News X.base X.env.locals h (eQ X.base s.heap X.env.locals++own) ->
   ak (ao X.prog X.w) X.A.in1 (call (.builtin "len") [v]) (KskEnd X.base X.env.locals m (eQ X.base s.heap X.env.locals++own) (ns.getD i 0) {s with heap:=h,toks:=tk}) (λ_ _=>False) {s with heap:=h,toks:=tk}:=by
  intro i v hv h tk own F' N';have hi:i<ps.length:=by rw[<-hits];exact(List.getElem?_eq_some_iff.mp hv).1
  obtain⟨v',J9,Ml⟩:=rv.get (i:=i) (x:=.ref ps[i]) (by simp[hi]);rw[hv]at J9;cases J9;cases Ml;have Md:ns[i]? = some (ns.getD i 0):=by simp[show i<ns.length by lia]
  have N'':News X.base X.env.locals h (eQ X.base s.heap X.env.locals):=λp hp=>N' p (List.mem_append_left _ hp)
  obtain⟨ys,hy,hlen⟩:=hp i ps[i] _ (by simp[hi]) Md;rcases hy with hy|hy
  ·obtain⟨i2,r2,p2,z2⟩:=I.list hy;have e:=r2.length;refine Calls.call_len_list (lst h _ _ F' N'' p2.isList) (by simp only[aU]<;>lia) ?_;rw[show ((i2.toArray.size:Nat):Int)=ns.getD i 0 by rw[aU,<-e];exact hlen];exact .intro F' N' λp hp=>hp
  ·obtain⟨i2,r2,p2,z2⟩:=I.tuple hy;have e:=r2.length;refine len_tuple (tup h _ _ F' N'' p2) (by simp only[aU]<;>lia) ?_;rw[show ((i2.toArray.size:Nat):Int)=ns.getD i 0 by rw[aU,<-e];exact hlen];exact .intro F' N' λp hp=>hp
 have Gu:0<its.length:=by
  rw[hits];cases ps with
  |nil=>exact absurd rfl h0
  |cons _ _=>simp
 have fin:∀i v h' GL,its[i]? = some v->(∀j,j<its.length->if mx then ns.getD i 0 >= ns.getD j 0/\(j<i->ns.getD i 0>ns.getD j 0)else ns.getD i 0<=ns.getD j 0/\(j<i->ns.getD i 0<ns.getD j 0))->PyProof.Rows.Fr X.base X.env.locals h' m->News X.base X.env.locals h' (eQ X.base s.heap X.env.locals)->EP X pins σ Q v {s with heap:=h',toks:=GL}:=by
  intro i v h' GL hv hb F' N';have hi:i<ps.length:=by rw[<-hits];exact(List.getElem?_eq_some_iff.mp hv).1
  obtain⟨v',J9,Ml⟩:=rv.get (i:=i) (x:=.ref ps[i]) (by simp[hi]);rw[hv]at J9;cases J9;cases Ml;refine⟨.ref ps[i],H,I.nsKept (s':={s with heap:=h',toks:=GL}) rfl rfl (keep h' F' N') (λm' Mm=>by rw[EN Mm F.ns];exact F'.ns),rfl,q i _ (by simp[hi]) λn en j m' em=>?_⟩;have hj:=(List.getElem?_eq_some_iff.mp em).1;have:=hb j (by rw[hits];lia);rw[List.getD_eq_getElem?_getD,List.getD_eq_getElem?_getD,en,em]at this;exact this
 cases mx with
 |true=>exact kmb_max (λi=>ns.getD i 0) (I.ok.hd hc) F N (λh' F' N'=>lst h' _ _ F' N' pl.isList) Gu turn λi v h' GL hv hb F' N'=>fin i v h' GL hv hb F' N'
 |false=>exact kmb_min (λi=>ns.getD i 0) (I.ok.hd hc) F N (λh' F' N'=>lst h' _ _ F' N' pl.isList) Gu turn λi v h' GL hv hb F' N'=>fin i v h' GL hv hb F' N'
end
end L2
namespace EV
open PySem PySem.Spec PySem.P PyProof.Rows L2
section
variable{w:W}{g:Gc}{c:Cc}{E:XK}{X:Cx}{a b d f:Expr}{ia ib id' if':EV.E}{pos p2:Pos}{ta tb:T}
theorem jR{e:Expr}{v:V}{dd:D}(h:PE X e (tC v))(r:∀H,Rep g H dd v):PE X e (tE w g c E (.con dd)):=PE.imp h λσ H Q ⟨τ,S,se,k⟩=>k v H (bC.of (qf.refl _) (r _) rfl)
theorem tQ{x:Str}{i:Nat}(O:XO w g c E X)(h:loc c x=some i):PE X (.Name x pos) (tE w g c E (if c.own.contains x then .own i else .var i)):=by
 obtain⟨h1,h2,h3,h4⟩:=fA h;refine PE.imp (jT (i:=i) (by rw[O.N];exact h1) (by unfold gY;rw[O.nm];exact h2) h3 h4) λσ H Q ⟨τ,S,se,k⟩=>?_
 have key:∀e,evE w e τ=zD τ i->fresh c e=false->(esc e=true->c.own.contains x=false)->tR g E H (evE w e τ) (λd=>∀v H',bC g c e S H d v H'->Q v H')->iR i σ H Q:=λe e1 e2 e3 k=>by
  rw[e1]at k;unfold zD at k;cases q:τ[i]? with
  |none=>rw[q]at k;exact k.elim
  |some o=>
   cases o with
   |none=>rw[q]at k;exact k.elim
   |some d=>
    rw[q]at k;obtain⟨v,z1,z2,z3⟩:=se.val i d q;exact⟨v,z1,k v H ⟨qf.refl _,z2,λz=>z3 x h1 (e3 z),λz=>by rw[e2]at z;cases z⟩⟩
 cases ho:c.own.contains x with
 |true=>rw[ho]at k;exact key (.own i) (by simp[qo,zb,qX,zf,qT,zh,zg,zi,qG,qK,qO,qP,qL,qy,qN,qB,qx,qH,qz,ql,qI,qU,qC,qE,qW,qR,qQ,qS,qM,qV]) rfl (by intro z;cases z) k
 |false=>rw[ho]at k;exact key (.var i) (by simp[qo,zb,qX,zf,qT,zh,zg,zi,qG,qK,qO,qP,qL,qy,qN,qB,qx,qH,qz,ql,qI,qU,qC,qE,qW,qR,qQ,qS,qM,qV]) rfl (λ_=>ho) k
theorem wK{x:Str}(O:XO w g c E X)(h:glob c x=some .val):PE X (.Name x pos) (tE w g c E (.glb x)):=by
 obtain⟨u,v,d,h1,h2,h3,h4⟩:=O.gm h;refine PE.imp (kh (O.gl h) h1 h2 (qw h).2.2.1) λσ H Q ⟨τ,S,se,k⟩=>?_
 simp only[qo,zb,qX,zf,qT,zh,zg,zi,qG,qK,qO,qP,qL,qy,qN,qB,qx,qH,qz,ql,qI,qU,qC,qE,qW,qR,qQ,qS,qM,qV,h3]at k;exact k v H (bC.of (qf.refl _) (h4 _) rfl)
theorem nW{τ:EV.Env}{e:EV.E}{d:D}(h:isL e=true)(he:evE w e τ=.ok d):sN d=true:=by
 cases e<;>first|(cases h;done)|skip
 ·simp only[qo,zb,qX,zf,qT,zh,zg,zi,qG,qK,qO,qP,qL,qy,qN,qB,qx,qH,qz,ql,qI,qU,qC,qE,qW,qR,qQ,qS,qM,qV]at he;cases q:qD w ‹_› τ with
  |ok ds=>rw[q]at he;cases he;rfl
  |ex z=>rw[q]at he;cases he
  |no=>rw[q]at he;cases he
 ·simp only[qo,zb,qX,zf,qT,zh,zg,zi,qG,qK,qO,qP,qL,qy,qN,qB,qx,qH,qz,ql,qI,qU,qC,qE,qW,qR,qQ,qS,qM,qV]at he;cases q:evI w ‹_› τ with
  |ok ds=>rw[q]at he;cases he;rfl
  |ex z=>rw[q]at he;cases he
  |no=>rw[q]at he;cases he
 ·simp only[qo,zb,qX,zf,qT,zh,zg,zi,qG,qK,qO,qP,qL,qy,qN,qB,qx,qH,qz,ql,qI,qU,qC,qE,qW,qR,qQ,qS,qM,qV]at he;cases q:evI w ‹_› τ with
  |ok ds=>
   rw[q]at he;simp only[R.bind_ok]at he;split at he
   ·cases he
   ·generalize zP _ _ _ _=r at he;cases r with
    |ok o=>cases he;rfl
    |ex z=>cases he
    |no=>cases he
  |ex z=>rw[q]at he;cases he
  |no=>rw[q]at he;cases he
theorem Cv(O:XO w g c E X){op:Operator}{o:O2}(ho:o2 op=some o)(ha:PE X a (tE w g c E ia))(hb:PE X b (tE w g c E ib)):PE X (.BinOp a op b pos) (tE w g c E (.op o ia ib)):=
 PE.imp (Cg (xK O.K ho) ha hb) λσ H Q ⟨τ,S,se,k⟩=>by
  simp only[qo,zb,qX,zf,qT,zh,zg,zi,qG,qK,qO,qP,qL,qy,qN,qB,qx,qH,qz,ql,qI,qU,qC,qE,qW,qR,qQ,qS,qM,qV]at k;refine zd se k λda va H1 e1 p1 k1=>zd (se.up p1.same) k1 λdb vb H2 e2 p2 k2=>⟨S,da,db,(se.up (p1.same.trans p2.same)).sub,p1.rb.mono p2.same,p2.rb,?_⟩
  cases q:op2 o da db with
  |ok r=>
   rw[q]at k2;exact λv H' s r f=>k2 v H' ⟨(p1.same.trans p2.same).trans s,.inl r,λ_=>r,λz=>by
    replace z:(t4 o&&isL ia||o==.add&&isL ib)=true:=z;simp only[bQ,aL,beq_iff_eq]at z
    refine(f ?_).low (p1.same.trans p2.same);rcases z with z|⟨rfl,z⟩
    ·exact nW z.2 e1
    ·have:=nW z e2;cases db<;>first|(cases this;done)|skip
     cases da<;>first|rfl|(cases q;done)⟩
  |ex z=>exact yP q
  |no=>rw[q]at k2;exact k2
theorem vJ(ha:PE X a (tE w g c E ia)):PE X (.UnaryOp .USub a pos) (tE w g c E (.neg ia)):=
 PE.imp (kK p7 ha) λσ H Q ⟨τ,S,se,k⟩=>by
  simp only[qo,zb,qX,zf,qT,zh,zg,zi,qG,qK,qO,qP,qL,qy,qN,qB,qx,qH,qz,ql,qI,qU,qC,qE,qW,qR,qQ,qS,qM,qV]at k;refine zd se k λda va H1 e1 p1 k1=>?_
  cases da with
  |int i=>exact⟨i,p1.rb.int,k1 _ _ (bC.of p1.same (.int _) rfl)⟩
  |_=>exact k1.elim
theorem BC(O:XO w g c E X){o:Expr}{m:Str}{ap cp:Pos}{as:List Expr}{e:EV.E}(h:cMt c o m ap as cp=some e):PE X (.Call (.Attribute o m ap) as [] cp) (tE w g c E e):=by cases h
theorem Bf(ha:PE X a (tE w g c E ia)):PE X (.UnaryOp .Invert a pos) (tE w g c E (.inv ia)):=
 PE.imp (kK AM ha) λσ H Q ⟨τ,S,se,k⟩=>by
  simp only[qo,zb,qX,zf,qT,zh,zg,zi,qG,qK,qO,qP,qL,qy,qN,qB,qx,qH,qz,ql,qI,qU,qC,qE,qW,qR,qQ,qS,qM,qV]at k;refine zd se k λda va H1 e1 p1 k1=>?_
  cases da with
  |int i=>exact⟨i,p1.rb.int,k1 _ _ (bC.of p1.same (.int _) rfl)⟩
  |_=>exact k1.elim
theorem xf(ha:PE X a (tE w g c E ia)):PE X (.UnaryOp .Not a pos) (tE w g c E (.not ia)):=
 PE.imp (BU ha) λσ H Q ⟨τ,S,se,k⟩=>by
  simp only[qo,zb,qX,zf,qT,zh,zg,zi,qG,qK,qO,qP,qL,qy,qN,qB,qx,qH,qz,ql,qI,qU,qC,qE,qW,qR,qQ,qS,qM,qV]at k;refine zd se k λda va H1 e1 p1 k1=>?_
  cases da with
  |bl i=>exact⟨i,p1.rb.bl,k1 _ _ (bC.of p1.same (.bl _) rfl)⟩
  |_=>exact k1.elim
theorem bC.pass{e e':EV.E}{S:Sh}{H H1 H':Hp}{dd:D}{v:V}(s:qf H H1)(p:bC g c e S H1 dd v H')(h:esc e=true)(f:fresh c e'=false):bC g c e' S H dd v H':=bC.of (s.trans p.same) (p.st h) f
theorem ES{rest:List Expr}{ir:EV.E}(ha:PE X a (tE w g c E ia))(hb:PE X (.BoolOp .And (b::rest) pos) (tE w g c E ir))(he:esc ir=true):PE X (.BoolOp .And (a::b::rest) pos) (tE w g c E (.and ia ir)):=
 PE.imp (wJ ha hb) λσ H Q ⟨τ,S,se,k⟩=>by
  simp only[qo,zb,qX,zf,qT,zh,zg,zi,qG,qK,qO,qP,qL,qy,qN,qB,qx,qH,qz,ql,qI,qU,qC,qE,qW,qR,qQ,qS,qM,qV]at k;refine zd se k λda va H1 e1 p1 k1=>?_
  cases da with
  |bl i=>
   refine⟨i,p1.rb.bl,?_⟩;cases i with
   |true=>
    refine⟨τ,S,se.up p1.same,tR.imp k1 λd hk v H' p=>hk v H' (p.pass p1.same he rfl)⟩
   |false=>exact k1 _ _ (bC.of p1.same (.bl _) rfl)
  |_=>exact k1.elim
theorem uR{rest:List Expr}{ir:EV.E}(ha:PE X a (tE w g c E ia))(hb:PE X (.BoolOp .Or (b::rest) pos) (tE w g c E ir))(he:esc ir=true):PE X (.BoolOp .Or (a::b::rest) pos) (tE w g c E (.or ia ir)):=
 PE.imp (ur ha hb) λσ H Q ⟨τ,S,se,k⟩=>by
  simp only[qo,zb,qX,zf,qT,zh,zg,zi,qG,qK,qO,qP,qL,qy,qN,qB,qx,qH,qz,ql,qI,qU,qC,qE,qW,qR,qQ,qS,qM,qV]at k;refine zd se k λda va H1 e1 p1 k1=>?_
  cases da with
  |bl i=>
   refine⟨i,p1.rb.bl,?_⟩;cases i with
   |false=>
    refine⟨τ,S,se.up p1.same,tR.imp k1 λd hk v H' p=>hk v H' (p.pass p1.same he rfl)⟩
   |true=>exact k1 _ _ (bC.of p1.same (.bl _) rfl)
  |_=>exact k1.elim
theorem iG{op:CmpOp}{b:Expr}(h:zp b=true):behindInMarks op b=false:=by cases b<;>first|rfl|(exact Bool.noConfusion h)
theorem eF{o:C2}{S:Sh}{H:Hp}{da db:D}{va vb:V}{r:R Bool}{P:Bool->Prop}{Q:VK}(ra:zw g H S da va)(rb:zw g H S db vb)(q:tR g E H (qh o da db) P)(k:∀z,qh o da db=.ok z->P z->Q (.bl z) H):rCm g o va vb H Q:=by
 refine⟨S,da,db,ra,rb,?_⟩;cases e:qh o da db with
 |ok z=>rw[e]at q;exact k z e q
 |ex z=>exact Av e
 |no=>rw[e]at q;exact q
theorem tR.bnd{α β:Type}{H:Hp}{r:R α}{f:α->R β}{P:β->Prop}(h:tR g E H (r.bind f) P):tR g E H r λa=>tR g E H (f a) P:=by
 cases r with
 |ok a=>exact h
 |ex z=>exact h
 |no=>exact h
theorem Dt(O:XO w g c E X){op:CmpOp}(ha:PE X a (tE w g c E ia))(hb:PE X b (tE w g c E ib))(hs:zp b=true):PE X (.Compare a [op] [b] pos) (tE w g c E (.cmp (c2 op) ia ib)):=
 PE.imp (Aa (ee O.K O.units.1 op) ha hb (iG hs)) λσ H Q ⟨τ,S,se,k⟩=>by
  simp only[qo,zb,qX,zf,qT,zh,zg,zi,qG,qK,qO,qP,qL,qy,qN,qB,qx,qH,qz,ql,qI,qU,qC,qE,qW,qR,qQ,qS,qM,qV]at k;refine zd se k λda va H1 e1 p1 k1=>zd (se.up p1.same) k1 λdb vb H2 e2 p2 k2=>?_
  exact eF (r:=.no) (p1.rb.mono p2.same) p2.rb (tR.bnd k2) λz _ q=>q _ _ (bC.of (p1.same.trans p2.same) (.bl _) rfl)
theorem vW(O:XO w g c E X){op:CmpOp}(ha:PE X a (tE w g c E ia))(hb:PE X b (tE w g c E ib))(hs:zp b=true):PT X (.Compare a [op] [b] pos) (tT w g c E (.cmp (c2 op) ia ib)):=
 PT.imp (xo (ee O.K O.units.1 op) ha hb (iG hs)) λσ H Q ⟨τ,S,se,k⟩=>by
  simp only[fS,eA,fH,fP,gj,eU,fg]at k;refine zd se k λda va H1 e1 p1 k1=>zd (se.up p1.same) k1 λdb vb H2 e2 p2 k2=>?_
  exact eF (r:=.no) (p1.rb.mono p2.same) p2.rb k2 λz _ q=>⟨z,rfl,q _ (p1.same.trans p2.same)⟩
theorem AH(O:XO w g c E X){op Gn:CmpOp}(ha:PE X a (tE w g c E ia))(hb:PE X b (tE w g c E ib))(hd:PE X d (tE w g c E id'))(Gz:zp d=true):PE X (.Compare a [op,Gn] [b,d] pos) (tE w g c E (.cmp2 (c2 op) (c2 Gn) ia ib id')):=
 PE.imp (DA (ee O.K O.units.1 op) (ee O.K O.units.1 Gn) ha hb hd (iG Gz)) λσ H Q ⟨τ,S,se,k⟩=>by
  simp only[qo,zb,qX,zf,qT,zh,zg,zi,qG,qK,qO,qP,qL,qy,qN,qB,qx,qH,qz,ql,qI,qU,qC,qE,qW,qR,qQ,qS,qM,qV]at k;refine zd se k λda va H1 e1 p1 k1=>zd (se.up p1.same) k1 λdb vb H2 e2 p2 k2=>?_
  have s2:=p1.same.trans p2.same;refine eF (r:=.no) (p1.rb.mono p2.same) p2.rb (tR.bnd k2) λz _ q=>⟨z,rfl,?_⟩
  cases z with
  |true=>
   exact zd (se.up s2) q λdd vd H3 e3 p3 k3=>eF (r:=.no) (p2.rb.mono p3.same) p3.rb (tR.bnd k3) λz _ q=>q _ _ (bC.of (s2.trans p3.same) (.bl _) rfl)
  |false=>exact q _ _ (bC.of s2 (.bl _) rfl)
theorem EK(O:XO w g c E X){op Gn:CmpOp}(ha:PE X a (tE w g c E ia))(hb:PE X b (tE w g c E ib))(hd:PE X d (tE w g c E id'))(Gz:zp d=true):PT X (.Compare a [op,Gn] [b,d] pos) (tT w g c E (.cmp2 (c2 op) (c2 Gn) ia ib id')):=
 PT.imp (wZ (ee O.K O.units.1 op) (ee O.K O.units.1 Gn) ha hb hd (iG Gz)) λσ H Q ⟨τ,S,se,k⟩=>by
  simp only[fS,eA,fH,fP,gj,eU,fg]at k;refine zd se k λda va H1 e1 p1 k1=>zd (se.up p1.same) k1 λdb vb H2 e2 p2 k2=>?_
  have s2:=p1.same.trans p2.same;refine eF (r:=.no) (p1.rb.mono p2.same) p2.rb (tR.bnd k2) λz _ q=>⟨z,rfl,?_⟩
  cases z with
  |true=>
   exact zd (se.up s2) q λdd vd H3 e3 p3 k3=>eF (r:=.no) (p2.rb.mono p3.same) p3.rb k3 λz _ q=>⟨z,rfl,q _ (s2.trans p3.same)⟩
  |false=>exact⟨false,rfl,q _ s2⟩
theorem BS(O:XO w g c E X){op Gn Gp:CmpOp}(ha:PE X a (tE w g c E ia))(hb:PE X b (tE w g c E ib))(hd:PE X d (tE w g c E id'))(hf:PE X f (tE w g c E if'))(Gz:zp f=true):PE X (.Compare a [op,Gn,Gp] [b,d,f] pos) (tE w g c E (.cmp3 (c2 op) (c2 Gn) (c2 Gp) ia ib id' if')):=
 PE.imp (Cy (ee O.K O.units.1 op) (ee O.K O.units.1 Gn) (ee O.K O.units.1 Gp) ha hb hd hf (iG Gz)) λσ H Q ⟨τ,S,se,k⟩=>by
  simp only[qo,zb,qX,zf,qT,zh,zg,zi,qG,qK,qO,qP,qL,qy,qN,qB,qx,qH,qz,ql,qI,qU,qC,qE,qW,qR,qQ,qS,qM,qV]at k;refine zd se k λda va H1 e1 p1 k1=>zd (se.up p1.same) k1 λdb vb H2 e2 p2 k2=>?_
  have s2:=p1.same.trans p2.same;refine eF (r:=.no) (p1.rb.mono p2.same) p2.rb (tR.bnd k2) λz _ q=>⟨z,rfl,?_⟩
  cases z with
  |true=>
   refine zd (se.up s2) q λdd vd H3 e3 p3 k3=>eF (r:=.no) (p2.rb.mono p3.same) p3.rb (tR.bnd k3) λz _ q=>⟨z,rfl,?_⟩
   have s3:=s2.trans p3.same;cases z with
   |true=>exact zd (se.up s3) q λdf vf H4 e4 p4 k4=>eF (r:=.no) (p3.rb.mono p4.same) p4.rb (tR.bnd k4) λz _ q=>q _ _ (bC.of (s3.trans p4.same) (.bl _) rfl)
   |false=>exact q _ _ (bC.of s3 (.bl _) rfl)
  |false=>exact q _ _ (bC.of s2 (.bl _) rfl)
theorem FI{a b c d:Expr}{ta tb tc td:TE}{pos:Pos}{op Gn Gp:CmpOp}{r r' HN:R2}(ho:OpR X (bh op) r)(G':OpR X (bh Gn) r')(Jb:OpR X (bh Gp) HN)(ha:PE X a ta)(hb:PE X b tb)(hc:PE X c tc)(hd:PE X d td)
  (hm:lastMarks [op,Gn,Gp] [b,c,d]=false):PT X (.Compare a [op,Gn,Gp] [b,c,d] pos) (lY (sL r r' HN ta tb tc td)):=by
 intro pins s σ H Q I h;refine isTrue_chain (thn (ha pins s σ H _ I h) λv s1 ⟨x,H1,I1,r1,q1⟩=>test_link (thn (hb pins s1 σ H1 _ I1 q1) λu s2 ⟨y,H2,I2,r2,q2⟩=>
  thn (ho pins s2 σ H2 x y v u _ I2 r1 r2 q2) λd s3 ⟨z,H3,I3,r3,k,e,q3⟩=>?_)) hm
 subst e;cases r3;refine bP ?_;cases k with
 |false=>
  obtain⟨k',e',q'⟩:=q3;cases e';exact ite_ff ⟨H3,I3,q'⟩
 |true=>
  refine ite_tt (test_link (thn (hc pins s3 σ H3 _ I3 q3) λw' s4 ⟨z',H4,I4,r4,q4⟩=>thn (G' pins s4 σ H4 y z' u w' _ I4 r2 r4 q4) λd' s5 ⟨z2,H5,I5,r5,k2,e2,q5⟩=>?_));subst e2;cases r5;refine bP ?_;cases k2 with
  |false=>
   obtain⟨k',e',q'⟩:=q5;cases e';exact ite_ff ⟨H5,I5,q'⟩
  |true=>
   refine ite_tt (test_last (thn (hd pins s5 σ H5 _ I5 q5) λJY s6 ⟨z3,H6,I6,r6,q6⟩=>thn (Jb pins s6 σ H6 z' z3 w' JY _ I6 r4 r6 q6) λQF s7 ⟨z4,H7,I7,r7,k4,e4,q7⟩=>?_));subst e4;cases r7;exact bP ⟨H7,I7,q7⟩
theorem R.bind_assoc{α β γ:Type}(r:R α)(f:α->R β)(h:β->R γ):(r.bind f).bind h=r.bind λa=>(f a).bind h:=by cases r<;>rfl
theorem vO(O:XO w g c E X){op Gn Gp:CmpOp}(ha:PE X a (tE w g c E ia))(hb:PE X b (tE w g c E ib))(hd:PE X d (tE w g c E id'))(hf:PE X f (tE w g c E if'))(Gz:zp f=true):PT X (.Compare a [op,Gn,Gp] [b,d,f] pos) (tT w g c E (.val (.cmp3 (c2 op) (c2 Gn) (c2 Gp) ia ib id' if'))):=
 PT.imp (FI (ee O.K O.units.1 op) (ee O.K O.units.1 Gn) (ee O.K O.units.1 Gp) ha hb hd hf (iG Gz)) λσ H Q ⟨τ,S,se,k⟩=>by
  simp only[fS,eA,fH,fP,gj,eU,fg,qo,zb,qX,zf,qT,zh,zg,zi,qG,qK,qO,qP,qL,qy,qN,qB,qx,qH,qz,ql,qI,qU,qC,qE,qW,qR,qQ,qS,qM,qV,R.bind_assoc]at k;refine zd se k λda va H1 e1 p1 k1=>zd (se.up p1.same) k1 λdb vb H2 e2 p2 k2=>?_
  have s2:=p1.same.trans p2.same;refine eF (r:=.no) (p1.rb.mono p2.same) p2.rb (tR.bnd k2) λz _ q=>⟨z,rfl,?_⟩
  cases z with
  |true=>
   simp only[if_true,R.bind_assoc]at q;refine zd (se.up s2) q λdd vd H3 e3 p3 k3=>eF (r:=.no) (p2.rb.mono p3.same) p3.rb (tR.bnd k3) λz _ q=>⟨z,rfl,?_⟩
   have s3:=s2.trans p3.same;cases z with
   |true=>
    simp only[if_true,R.bind_assoc]at q;exact zd (se.up s3) q λdf vf H4 e4 p4 k4=>eF (r:=.no) (p3.rb.mono p4.same) p4.rb (tR.bnd k4) λz _ q=>⟨z,rfl,q _ (s3.trans p4.same)⟩
   |false=>exact⟨false,rfl,q _ s3⟩
  |false=>exact⟨false,rfl,q _ s2⟩
theorem AW(ht:PT X d (tT w g c E ta))(ha:PE X a (tE w g c E ia))(hb:PE X b (tE w g c E ib))(h1:esc ia=true)(h2:esc ib=true):PE X (.IfExp d a b pos) (tE w g c E (.ite ta ia ib)):=
 PE.imp (vi ht ha hb) λσ H Q ⟨τ,S,se,k⟩=>by
  simp only[qo,zb,qX,zf,qT,zh,zg,zi,qG,qK,qO,qP,qL,qy,qN,qB,qx,qH,qz,ql,qI,qU,qC,qE,qW,qR,qQ,qS,qM,qV]at k;refine kf se k λz H1 e1 s1 k1=>?_
  cases z with
  |true=>exact⟨τ,S,se.up s1,tR.imp k1 λdd hk v H' p=>hk v H' (p.pass s1 h1 rfl)⟩
  |false=>exact⟨τ,S,se.up s1,tR.imp k1 λdd hk v H' p=>hk v H' (p.pass s1 h2 rfl)⟩
theorem wH:PA X [] (tA w g c E .nil):=PA.imp eB λσ H Q ⟨τ,S,se,k⟩=>k [] H (qf.refl _) .nil λ_=>.nil
theorem B7{es:List Expr}{ies:Es}(ha:PE X a (tE w g c E ia))(hr:PA X es (tA w g c E ies))(hs:isStar a=false):PA X (a::es) (tA w g c E (.cons ia ies)):=
 PA.imp (zF ha hr (qu hs)) λσ H Q ⟨τ,S,se,k⟩=>by
  simp only[qD]at k;refine zd se k λda va H1 e1 p1 k1=>iu (se.up p1.same) k1 λds vs H2 e2 s2 r2 OU k2=>k2 _ _ (p1.same.trans s2) (.cons (p1.rb.mono s2) r2) λz=>?_
  simp only[eP,aL]at z;exact .cons ((p1.st z.1).mono (qZ s2)) (OU z.2)
theorem ll:∀{es:Es}{τ:Env}{ds:List D}{l:List Expr}{n:Nat},cEs n c l=some es->qD w es τ=.ok ds->ds.length=l.length
 |_,_,_,l,0,h,_=>by simp[cEs]at h
 |es,τ,ds,[],n+1,h,e=>by
  simp only[cEs,cx]at h;subst h;simp only[qD,R.ok.injEq]at e;subst e;rfl
 |es,τ,ds,x::l,n+1,h,e=>by
  simp only[cEs]at h;cases hs:isStar x with
  |true=>simp[hs]at h
  |false=>
   simp only[hs,bL,if_false,bX,bD]at h;obtain⟨i1,_,r,hr,h⟩:=h;cases h;simp only[qD]at e;cases q:evE w i1 τ with
   |ok z=>
    rw[q]at e;simp only[R.bind_ok]at e;cases q2:qD w r τ with
    |ok zs=>
     rw[q2]at e;cases e;simp[ll hr q2]
    |ex z=>rw[q2]at e;cases e
    |no=>rw[q2]at e;cases e
   |ex z=>rw[q]at e;cases e
   |no=>rw[q]at e;cases e
theorem oy{n:Nat}(h:n<=100000):n<=sizeLine:=br h (by rw[bJ];decide)
theorem yG{es:List Expr}{ies:Es}{k:Nat}(ha:PA X es (tA w g c E ies))(he:eP ies=true)(hl:∀τ ds,qD w ies τ=.ok ds->ds.length<=100000):PE X (.Tuple es k pos) (tE w g c E (.tup ies)):=
 PE.imp (Dr ha) λσ H Q ⟨τ,S,se,k⟩=>by
  simp only[qo,zb,qX,zf,qT,zh,zg,zi,qG,qK,qO,qP,qL,qy,qN,qB,qx,qH,qz,ql,qI,qU,qC,qE,qW,qR,qQ,qS,qM,qV]at k;refine iu se k λds vs H1 e1 s1 r1 r1' k1=>?_
  have r:=r1' he;exact⟨by rw[<-r.length];exact oy (hl _ _ e1),λp hp=>k1 _ _ (bC.of (s1.trans (qY hp)) (gk (se.sub.same s1) hp r) rfl)⟩
theorem uT{es:List Expr}{ies:Es}(ha:PA X es (tA w g c E ies))(he:eP ies=true)(hl:∀τ ds,qD w ies τ=.ok ds->ds.length<=100000):PE X (.List es pos) (tE w g c E (.lst ies)):=
 PE.imp (wM ha) λσ H Q ⟨τ,S,se,k⟩=>by
  simp only[qo,zb,qX,zf,qT,zh,zg,zi,qG,qK,qO,qP,qL,qy,qN,qB,qx,qH,qz,ql,qI,qU,qC,qE,qW,qR,qQ,qS,qM,qV]at k;refine iu se k λds vs H1 e1 s1 r1 r1' k1=>?_
  have r:=r1' he;exact⟨by rw[<-r.length];exact oy (hl _ _ e1),λp hp=>k1 _ _ (bC.new (s1.trans (qY hp)) (gq (se.sub.same s1) hp r) (iE s1 hp r))⟩
theorem Cr{b:Expr}(h:isSlice b=false):mT b:=λo i=>by cases b<;>first|rfl|(exact Bool.noConfusion h)
theorem vp(O:XO w g c E X)(ha:PE X a (tE w g c E ia))(hb:PE X b (tE w g c E ib))(hs:isSlice b=false):PE X (.Subscript a b pos) (tE w g c E (.ix ia ib)):=
 PE.imp (A8 (wV O.K) ha hb (Cr hs)) λσ H Q ⟨τ,S,se,k⟩=>by
  simp only[qo,zb,qX,zf,qT,zh,zg,zi,qG,qK,qO,qP,qL,qy,qN,qB,qx,qH,qz,ql,qI,qU,qC,qE,qW,qR,qQ,qS,qM,qV]at k;refine zd se k λda va H1 e1 p1 k1=>zd (se.up p1.same) k1 λdb vb H2 e2 p2 k2=>⟨S,da,db,p1.rb.mono p2.same,p2.rb,?_⟩
  cases q:ixD da db with
  |ok r=>rw[q]at k2;exact λv r=>k2 v H2 (bC.of (p1.same.trans p2.same) r rfl)
  |ex z=>exact Fd q
  |no=>rw[q]at k2;exact k2
theorem vv(O:XO w g c E X){lo hi:Option Expr}{il ih:OE}(ha:PE X a (tE w g c E ia))(hl:PO X lo (tOe w g c E il))(hh:PO X hi (tOe w g c E ih)):PE X (.Subscript a (.Slice lo hi none p2) pos) (tE w g c E (.sl ia il ih)):=
 PE.imp (Ay (xr O.K) ha hl hh) λσ H Q ⟨τ,S,se,k⟩=>by
  simp only[qo,zb,qX,zf,qT,zh,zg,zi,qG,qK,qO,qP,qL,qy,qN,qB,qx,qH,qz,ql,qI,qU,qC,qE,qW,qR,qQ,qS,qM,qV]at k;refine zd se k λda va H1 e1 p1 k1=>sS (se.up p1.same) k1 λl H2 e2 s2 k2=>sS (se.up (p1.same.trans s2)) k2 λh H3 e3 s3 k3=>?_
  have s:=(p1.same.trans s2).trans s3;refine⟨S,da,se.sub.same s,p1.rb.mono (s2.trans s3),?_⟩;cases q:slD da l h with
  |ok r=>rw[q]at k3;exact λv H' s' r=>k3 v H' (bC.of (s.trans s') r rfl)
  |ex z=>exact DL q
  |no=>rw[q]at k3;exact k3
theorem v_:PO X none (tOe w g c E .none):=PO.imp x8 λσ H Q ⟨τ,S,se,k⟩=>k H (qf.refl _)
theorem Bh(ha:PE X a (tE w g c E ia)):PO X (some a) (tOe w g c E (.some ia)):=PO.imp (CS ha) λσ H Q ⟨τ,S,se,k⟩=>by
 simp only[evO]at k;refine zd se k λda va H1 e1 p1 k1=>?_
 cases da with
 |int i=>exact⟨i,p1.rb.int,k1 _ p1.same⟩
 |_=>exact k1.elim
theorem D8(O:XO w g c E X){x:Str}{fr:Bool}{e:Expr}{es:List Expr}{ies:Es}(h:glob c x=some (.fn fr))(ha:PA X (e::es) (tA w g c E ies))(he:eP ies=true)(hs:∀z∈e::es,isStar z=false):PE X (.Call (.Name x p2) (e::es) [] pos) (tE w g c E (.call x ies)):=by
 obtain⟨f,h1,h2⟩:=O.gm h;refine PE.imp (vX O h2 (O.gl h) (qw h).2.2.1 ha hs) λσ H Q ⟨τ,S,se,k⟩=>?_
 simp only[qo,zb,qX,zf,qT,zh,zg,zi,qG,qK,qO,qP,qL,qy,qN,qB,qx,qH,qz,ql,qI,qU,qC,qE,qW,qR,qQ,qS,qM,qV]at k;refine iu se k λds vs H1 e1 s1 r1 r1' k1=>⟨S,ds,se.sub.same s1,by rw[c_];exact r1' he,tR.imp k1 λdd hk v H' s' r f=>hk v H' ⟨s1.trans s',.inl r,λ_=>r,λz=>?_⟩⟩
 replace z:(c.G.lookup x==some (GK.fn true))=true:=z
 simp only[(qw h).2.1,beq_iff_eq,cx,GK.fn.injEq]at z;exact(f z).low s1
noncomputable def jW(S:Sh)(L:List Addr):Sh:=⟨λ_=>false,λb=>S.h b && !L.contains b,S.z,S.y⟩
theorem ng{H:Hp}{S:Sh}{L:List Addr}:qf (hid H S) (hid H (jW S L)):=λb o h=>by
 obtain⟨h1,h2⟩:=bW.mp h;exact bW.mpr ⟨by show (S.h b&&_)=false;rw[h1];rfl,h2⟩
theorem xT{H:Hp}{S:Sh}{L:List Addr}{a:Addr}:qf (hid H (jW S L)) (hid H (jW S (a::L))):=λb o h=>by
 obtain⟨h1,h2⟩:=bW.mp h;refine bW.mpr ⟨?_,h2⟩;have h1:(S.h b && !L.contains b)=false:=h1;show (S.h b && !(a::L).contains b)=false;cases q:S.h b with
 |false=>rfl
 |true=>
  rw[q]at h1;have h1:L.contains b=true:=by simpa using h1
  simp only[List.contains_cons,h1,Bool.or_true];rfl
theorem seen{H:Hp}{S:Sh}:∀{ds:List D}{vs:List V},eN g H S ds vs->∃L:List Addr,(∀a∈L,∃us,H a=some (.lst us))/\qq g (hid H (jW S L)) ds vs
 |_,_,.nil=>⟨[],by simp,.nil⟩
 |_,_,.cons r t=>by
  obtain⟨L,h1,h2⟩:=seen t;rcases r with r|⟨a,us,ds,z1,rfl,rfl,z4,z5⟩
  ·exact⟨L,h1,.cons (r.mono ng) h2⟩
  ·refine⟨a::L,λb hb=>?_,.cons (.lst (SqL.of (bW.mpr ⟨?_,z4⟩)) (z5.mono ng)) (h2.mono xT)⟩
   ·rcases aP.mp hb with rfl|hb
    ·exact⟨us,z4⟩
    ·exact h1 b hb
   ·show (S.h a && !(a::L).contains a)=false;simp
theorem CW:PE X (.Dict [] [] pos) (tE w g c E .dic):=PE.imp B_ λσ H Q ⟨τ,S,se,k⟩ p hp=>by
 simp only[qo,zb,qX,zf,qT,zh,zg,zi,qG,qK,qO,qP,qL,qy,qN,qB,qx,qH,qz,ql,qI,qU,qC,qE,qW,qR,qQ,qS,qM,qV]at k;exact k _ _ (bC.of (qY hp) (.dic (mD se.sub hp)) rfl)
theorem sv{b:B1}{S:Sh}{H0 H:Hp}{ds:List D}{vs:List V}{Q:VK}{ies:Es}(s:qf H0 H)(hS:Sub S H)(r:eN g H S ds vs)(k:tR g E H (b1 b ds) λd=>∀v H',bC g c (.bi b ies) S H0 d v H'->Q v H'):rB1 g b vs H Q:=by
 refine⟨S,ds,hS,r,?_⟩;cases q:b1 b ds with
 |ok d=>
  rw[q]at k;exact λv H' s' r' f=>k v H' ⟨s.trans s',.inl r',λ_=>r',λz=>by
   have:b=.list\/b=.sorted:=by cases b<;>first|exact .inl rfl|exact .inr rfl|exact Bool.noConfusion z
   exact(f this).low s⟩
 |ex z=>exact Bb q
 |no=>rw[q]at k;exact k
theorem EH(O:XO w g c E X){x:Str}{b:B1}{e:Expr}{es:List Expr}{ies:Es}(h:glob c x=some (.bi b))(hc:X.calm=true\/b=.len\/b=.abs)(ha:PA X (e::es) (tA w g c E ies))(hs:∀z∈e::es,isStar z=false):PE X (.Call (.Name x p2) (e::es) [] pos) (tE w g c E (.bi b ies)):=by
 obtain⟨h1,h2,id,h3⟩:=O.gm h;have hb:=lK b;rw[<-h2,h3]at hb;have G8:=rT (X:=X) (g:=g) O.K O.units.1 O.units.2 b (by rcases hc with z|z|z;exact .inl z;exact .inr (.inl z);exact .inr (.inr (.inl z)));rw[h3]at G8;refine PE.imp (rC G8 (O.gl h) h1 hb ha (qw h).2.2.2 (qw h).2.2.1 (qu (hs e aQ)) (iI λz hz=>hs z (aO _ hz))) λσ H Q ⟨τ,S,se,k⟩=>?_
 simp only[qo,zb,qX,zf,qT,zh,zg,zi,qG,qK,qO,qP,qL,qy,qN,qB,qx,qH,qz,ql,qI,qU,qC,qE,qW,qR,qQ,qS,qM,qV]at k;exact iu se k λds vs H1 e1 s1 r1 r1' k1=>sv (ies:=ies) s1 (se.sub.same s1) r1 k1
theorem qq.lens{H:Hp}:∀{ds:List D}{vs:List V}{ns:List Int},qq g H ds vs->lens? ds=some ns->ds.length=ns.length/\∃ps:List Addr,vs=ps.map V.ref/\ns.length=ps.length/\∀(i:Nat) p n,ps[i]? = some p->ns[i]? = some n->∃ys,(SqL g.K H p ys\/SqT g.K H p ys)/\(ys.length:Int)=n
 | [],_,ns,.nil,e=>by simp[lens?]at e;subst e;exact⟨rfl,[],rfl,rfl,λi a p h=>by simp at h⟩
 |x::r,_,ns,.cons h t,e=>by
  simp only[lens?,bI,bD]at e;obtain⟨xs,e0,ms,e1,rfl⟩:=e;obtain⟨h0,ps,h2,h3,h4⟩:=qq.lens t e1
  rename_i v0 OV
  have key:∃p ys,v0=V.ref p/\(SqL g.K H p ys\/SqT g.K H p ys)/\(ys.length:Int)=xs.length:=by
   cases x with
   |tup zs=>
    cases e0;cases h with
    |tup q r=>exact⟨_,_,rfl,.inr q,by rw[r.length]⟩
   |lst zs=>
    cases e0;cases h with
    |lst q r=>exact⟨_,_,rfl,.inl q,by rw[r.length]⟩
   |_=>cases e0
  obtain⟨p,ys,rfl,k1,k2⟩:=key;refine⟨by simp[h0],p::ps,by rw[h2];rfl,by simp[h3],λi b n hb hn=>?_⟩;cases i with
  |zero=>simp at hb hn;subst hb hn;exact⟨ys,k1,k2⟩
  |succ i=>exact h4 i b n (by simpa using hb) (by simpa using hn)
theorem nP(n:Int):∀(ds:List D) (ns:List Int) (i:Nat),ds.length=ns.length->ns[i]? = some n->(∀(j:Nat) m,j<i->ns[j]? = some m->m≠n)->∃d,ds[i]? = some d/\pickK n ds ns=.ok d
 | [],[],_,_,h,_=>by simp at h
 |d::ds,m::ms,0,_,h,_=>by
  simp at h;exact⟨d,rfl,by rw[pickK,if_pos h]⟩
 |d::ds,m::ms,i+1,e,h,k=>by
  obtain⟨d',h1,h2⟩:=nP n ds ms i (by simpa using e) (by simpa using h) λj m' hj hm=>k (j+1) m' (by lia) (by simpa using hm)
  exact⟨d',by simpa using h1,by rw[pickK,if_neg (k 0 m (by lia) rfl)];exact h2⟩
theorem yo{mx:Bool}{ds:List D}{ns:List Int}{i:Nat}{d:D}(hl:ds.length=ns.length)(hi:i<ns.length)(h:nX mx ns i)(hm:fB mx (.lst ds)=.ok d)(he:lens? ds=some ns):ds[i]? = some d:=by
 simp only[fB,dt,b7]at hm;rw[he]at hm
 match ns,hi,h,hl,he,hm with
 |a::r,hi,h,hl,he,hm=>
  have hm:pickK (cM mx a r) ds (a::r)=.ok d:=hm;have e:(a::r)[i]? = some (a::r)[i]:=by simp[hi]
  have hb:(a::r)[i]=cM mx a r:=lG mx a r _ ⟨cZ _,λm hmm=>by
   obtain⟨j,hj,rfl⟩:=List.getElem_of_mem hmm;have:=h _ e j (a::r)[j] (List.getElem?_eq_getElem hj);cases mx<;>exact this.1⟩
  rw[hb]at e;obtain⟨d',h1,h2⟩:=nP _ ds (a::r) i hl e λj m hj hmj z=>by
   have:=h _ e j m hmj;cases mx
   ·exact absurd (this.2 hj) (by rw[z];exact Int.lt_irrefl _)
   ·exact absurd (this.2 hj) (by rw[z];exact Int.lt_irrefl _)
  rw[h2]at hm;cases hm;exact h1
theorem uP{mx:Bool}{x:D}{z:Xc}:fB mx x≠.ex z:=by
 have pk:∀n ds ns,pickK n ds ns≠.ex z:=by
  intro n ds
  induction ds with
  |nil=>intro ns;exact dJ
  |cons d ds ih=>
   intro ns;cases ns with
   |nil=>exact dJ
   |cons m ms=>
    rw[pickK];split
    ·exact dw
    ·exact ih ms
 refine jq λxs=>eY λns=>?_
 split
 ·exact dJ
 ·exact pk _ _ _
theorem nv(O:XO w g c E X)(hc:X.calm=true)(mx:Bool){x y:Str}{p3 kp:Pos}(h:glob c x=some (.bi (if mx then .max else .min)))(hy:glob c y=some (.bi .len))(ha:PE X a (tE w g c E ia))(hs:isStar a=false) :
  PE X (.Call (.Name x p2) [a] [⟨some "key",.Name y p3,kp⟩] pos) (tE w g c E (.mxk mx ia)):=by
 obtain⟨h1,h2,id,h3⟩:=O.gm h;obtain⟨y1,y2,QG,y3⟩:=O.gm hy;have hb:=lK (if mx then .max else .min);rw[<-h2]at hb;have Nn:=lK .len;rw[<-y2]at Nn;have ev:b1V (if mx then .max else .min)=.builtin (if mx then "max" else "min"):=by cases mx<;>rfl
 rw[ev]at hb;have GR:=qu (es:=[]) (env:=X.env) hs;have J_:backTo pos (aV [a] X.env)=(false,eval a X.env)::backTo pos (aV [] X.env):=by rw[GR];rfl
 intro pins s σ H Q I hq;refine wpAny_Call_Name_kw (fm I (O.gl h) h1 hb ?_ (qw h).2.2.2 (qw h).2.2.1);refine callWith_kw ?_ J_ (by rw[J_];rfl);obtain⟨τ,S,se,k⟩:=hq;simp only[qo,zb,qX,zf,qT,zh,zg,zi,qG,qK,qO,qP,qL,qy,qN,qB,qx,qH,qz,ql,qI,qU,qC,qE,qW,qR,qQ,qS,qM,qV]at k;have hA:=zF ha (eB (X:=X)) GR;refine thn (hA pos pins s σ H (λvs H2=>∃da v,vs=[v]/\zw g H2 S da v/\qf H H2/\tR g E H2 (fB mx da) λd=>∀v H',bC g c (.mxk mx ia) S H d v H'->Q v H') I (zd se k λda va H1 e1 p1 k1=>⟨da,va,rfl,p1.rb,p1.same,k1⟩)) λus s1 ⟨vs,H1,I1,r1,da,va,q0,q1,q2,q3⟩=>?_
 subst q0;obtain⟨u,rfl,ru⟩:=r1.one;refine kws_cons (fm I1 (O.gl hy) y1 Nn ?_ (qw hy).2.2.2 (qw hy).2.2.1);refine kws_nil ?_;cases hm:fB mx da with
 |ex z=>exact absurd hm uP
 |no=>rw[hm]at q3;exact q3.elim
 |ok d=>
  rw[hm]at q3;obtain⟨xs,rfl,Nk⟩:=jx hm;obtain⟨ns,e,Mj⟩:=iw Nk;obtain⟨l,vs,rfl,z1,z2⟩:=q1.lst;cases ru;obtain⟨hl,ps,rfl,hn,hp⟩:=z2.lens e;have Gu:ps≠[]:=λz=>by
   subst z;cases ns with
   |nil=>cases Mj
   |cons _ _=>simp at hn
  refine w8 hc mx I1 (by rw[O.K];exact z1) hn Gu (λi p n a1 a2=>?_) λi p a1 hb=>?_
  ·obtain⟨ys,b1,b2⟩:=hp i p n a1 a2;refine⟨ys,?_,b2⟩;rw[O.K];rcases b1 with b1|b1
   ·exact .inl (zz.seq b1)
   ·exact .inr (zu zz b1)
  ·have hi:i<ns.length:=by rw[hn];exact(List.getElem?_eq_some_iff.mp a1).1
   have hd:=yo hl hi hb hm e;obtain⟨v',w1,w2⟩:=z2.get hd;rw[List.getElem?_map,a1]at w1;cases w1;exact q3 _ _ (bC.of q2 w2 rfl)
theorem Fx(O:XO w g c E X){x:Str}{n:String}{b:B1}{e:Expr}{es:List Expr}{ies:Es}(h:glob c x=some (.ty n (some b)))(ha:PA X (e::es) (tA w g c E ies))(hs:∀z∈e::es,isStar z=false):PE X (.Call (.Name x p2) (e::es) [] pos) (tE w g c E (.bi b ies)):=by
 obtain⟨h1,h2,_,h3⟩:=O.gm h;obtain⟨_,h4⟩:=h3 b rfl;have G8:=rT (X:=X) (g:=g) O.K O.units.1 O.units.2 b (by cases b<;>simp[b1V]at h4 ⊢);rw[h4]at G8;refine PE.imp (ku G8 (O.gl h) h1 h2 ha (qw h).2.2.2 (qw h).2.2.1 (qu (hs e aQ)) (iI λz hz=>hs z (aO _ hz))) λσ H Q ⟨τ,S,se,k⟩=>?_
 simp only[qo,zb,qX,zf,qT,zh,zg,zi,qG,qK,qO,qP,qL,qy,qN,qB,qx,qH,qz,ql,qI,qU,qC,qE,qW,qR,qQ,qS,qM,qV]at k;exact iu se k λds vs H1 e1 s1 r1 r1' k1=>sv (ies:=ies) s1 (se.sub.same s1) r1 k1
end
section
variable{w:W}{g:Gc}{c:Cc}{E:XK}{X:Cx}{a b d f:Expr}{ia ib id' if':EV.E}{pos p2:Pos}{ta tb:T}
def clV(g:Gc)(vc:V):Cl->Prop
 | .ty n=>vc=.ty n/\(n∈["int","bool","str","list","tuple"]\/n = "ValueError")
 | .ex x=>∃D,g.clA x=some D/\vc=.ref D
theorem EM{x:D}{cl:Cl}:(∃t n,tyD x=some t/\cl=.ty n/\n≠"ValueError"/\cC w x cl=.ok (.bl (ig t n)))\/cC w x cl=.no:=by
 unfold cC;cases e:tyD x with
 |some t=>
  cases cl with
  |ty n=>
   by_cases hn:n = "ValueError"
   ·exact .inr (by simp[hn])
   ·exact .inl ⟨t,n,rfl,rfl,hn,by simp[hn]⟩
  |ex y=>exact .inr rfl
 |none=>exact .inr (by cases cl<;>rfl)
theorem wN(O:XO w g c E X){x:Str}{k:Expr}{cl:Cl}(h:glob c x=some .isi)(ha:PE X a (tE w g c E ia))(hk:jb c k=some cl)(hs:isStar a=false):PE X (.Call (.Name x p2) [a,k] [] pos) (tE w g c E (.isi ia cl)):=by
 obtain⟨h1,rfl⟩:=O.gm h;obtain⟨y,q,rfl⟩:∃y q,k=.Name y q:=by
  cases k<;>first|exact⟨_,_,rfl⟩|(cases hk)
 obtain⟨vc,hv,hc⟩:∃vc,PE X (.Name y q) (tC vc)/\clV g vc cl:=by
  simp only[jb]at hk;split at hk
  ·rename_i n b e
   cases hk;obtain⟨z1,z2,z3,_⟩:=O.gm e;exact⟨.ty n,Bt (O.gl e) z1 z2 rfl (qw e).2.2.2 (qw e).2.2.1,rfl,z3⟩
  ·rename_i e
   cases hk;obtain⟨C,z1,z2⟩:=O.gm e;exact⟨.ref C,kh (O.gl e) z1 rfl (qw e).2.2.1,C,z2,rfl⟩
  ·rename_i e
   cases hk;obtain⟨C,z1,z2⟩:=O.gm e;exact⟨.ref C,kh (O.gl e) z1 rfl (qw e).2.2.1,C,z2,rfl⟩
  ·rename_i e
   cases hk;obtain⟨C,z1,z2⟩:=O.gm e;exact⟨.ref C,kh (O.gl e) z1 rfl (qw e).2.2.1,C,z2,rfl⟩
  ·exact oN hk
 refine PE.imp (rC (uS O.K) (O.gl h) h1 (by decide +kernel) (zF ha (zF hv eB rfl) (qu hs)) (by decide) (by decide) (qu hs) rfl) λσ H Q ⟨τ,S,se,k⟩=>?_
 simp only[qo,zb,qX,zf,qT,zh,zg,zi,qG,qK,qO,qP,qL,qy,qN,qB,qx,qH,qz,ql,qI,qU,qC,qE,qW,qR,qQ,qS,qM,qV]at k;refine zd se k λda va H1 e1 p1 k1=>?_
 rcases EM (w:=w) (x:=da) (cl:=cl)with ⟨t,n,z1,rfl,z2,z3⟩|z3
 ·rw[z3]at k1;obtain⟨rfl,hc|hc⟩:=hc
  ·exact⟨S,da,va,n,t,rfl,p1.rb,z1,hc,k1 _ _ (bC.of p1.same (.bl _) rfl)⟩
  ·exact absurd hc z2
 ·rw[z3]at k1;exact k1.elim
theorem uf(O:XO w g c E X)(ha:PE X a (tE w g c E ia))(he:∀whole,isTrue a X.env whole=(do let v <-whole;standAt a.pos;holding [v] (truthy v))):PT X a (tT w g c E (.val ia)):=
 PT.imp (wa ha he) λσ H Q ⟨τ,S,se,k⟩=>by
  simp only[fS,eA,fH,fP,gj,eU,fg]at k;refine zd se k λda va H1 e1 p1 k1=>?_
  cases q:truth da with
  |ok z=>rw[q]at k1;exact⟨z,D4 O.K p1.rb q,k1 _ p1.same⟩
  |ex z=>exact absurd q BR
  |no=>rw[q]at k1;exact k1.elim
theorem uv(ha:PT X a (tT w g c E ta)):PT X (.UnaryOp .Not a pos) (tT w g c E (.not ta)):=
 PT.imp (CH ha) λσ H Q ⟨τ,S,se,k⟩=>by
  simp only[fS,eA,fH,fP,gj,eU,fg]at k;exact kf se k λz H1 e1 s1 k1=>k1 _ s1
theorem CV{rest:List Expr}(ha:PT X a (tT w g c E ta))(hb:PW X (.BoolOp .And (b::rest) pos) (tT w g c E tb)):PW X (.BoolOp .And (a::b::rest) pos) (tT w g c E (.and ta tb)):=
 PW.imp (wu ha hb) λσ H Q ⟨τ,S,se,k⟩=>by
  simp only[fS,eA,fH,fP,gj,eU,fg]at k;refine kf se k λz H1 e1 s1 k1=>?_
  cases z with
  |true=>exact⟨τ,S,se.up s1,tR.imp k1 λb hk H' s=>hk H' (s1.trans s)⟩
  |false=>exact k1 _ s1
theorem D3{rest:List Expr}(ha:PT X a (tT w g c E ta))(hb:PW X (.BoolOp .Or (b::rest) pos) (tT w g c E tb)):PW X (.BoolOp .Or (a::b::rest) pos) (tT w g c E (.or ta tb)):=
 PW.imp (vC ha hb) λσ H Q ⟨τ,S,se,k⟩=>by
  simp only[fS,eA,fH,fP,gj,eU,fg]at k;refine kf se k λz H1 e1 s1 k1=>?_
  cases z with
  |false=>exact⟨τ,S,se.up s1,tR.imp k1 λb hk H' s=>hk H' (s1.trans s)⟩
  |true=>exact k1 _ s1
theorem PI.or{tg e:Expr}{t t':TI}(h:PI X tg e t)(h':PI X tg e t'):PI X tg e (λσ H R=>t σ H R\/t' σ H R):=λpins s σ H R I q=>by
 rcases q with q|q
 ·exact h pins s σ H R I q
 ·exact h' pins s σ H R I q
theorem m6{K:az}{a:Addr}{vs:List V}{ds:List D}{H:Hp}{S:Sh}(hl:SqL K H a vs)(r:qq g (hid H S) ds vs):Goes g (Itl K a) ds H S:=by
 refine⟨λi hi=>⟨vs,hl,by rw[<-r.length];exact hi⟩,λi d hd=>?_⟩;obtain⟨v,h1,h2⟩:=r.get hd;refine⟨⟨vs,v,hl,h1⟩,λx H' ⟨e,hx⟩=>?_⟩;subst e;have:=hx vs hl;rw[h1]at this;cases this;exact⟨qf.refl _,h2⟩
theorem sM{K:az}{a:Addr}{vs:List V}{ds:List D}{H:Hp}{S:Sh}(hl:SqT K H a vs)(r:qq g (hid H S) ds vs):Goes g (Itt K a) ds H S:=by
 refine⟨λi hi=>⟨vs,hl,by rw[<-r.length];exact hi⟩,λi d hd=>?_⟩;obtain⟨v,h1,h2⟩:=r.get hd;refine⟨⟨vs,v,hl,h1⟩,λx H' ⟨e,hx⟩=>?_⟩;subst e;have:=hx vs hl;rw[h1]at this;cases this;exact⟨qf.refl _,h2⟩
theorem sF:∀{xs:List D}{k i:Nat}{d:D},(cN k xs)[i]? = some d->∃x,xs[i]? = some x/\d=.tup [.int ((k+i:Nat):Int),x]
 | [],_,_,_,h=>by simp[cN]at h
 |x::r,k,0,d,h=>by simp[cN]at h;exact⟨x,rfl,by rw[<-h];rfl⟩
 |x::r,k,i+1,d,h=>by
  simp only[cN,List.getElem?_cons_succ]at h;obtain⟨y,h1,h2⟩:=sF h;exact⟨y,by simpa using h1,by rw[h2,show k+1+i=k+(i+1)by lia]⟩
theorem tU:∀(xs:List D) (k:Nat),(cN k xs).length=xs.length
 | [],_=>rfl
 |x::r,k=>by simp[cN,tU r]
theorem oY{K:az}{a:Addr}{vs:List V}{ds:List D}{H:Hp}{S:Sh}(hl:SqL K H a vs)(r:qq g (hid H S) ds vs)(hS:Sub S H):Goes g (Ite K a) (cN 0 ds) H S:=by
 refine⟨λi hi=>⟨vs,hl,by rw[<-r.length,<-tU ds 0];exact hi⟩,λi d hd=>?_⟩;obtain⟨y,h0,rfl⟩:=sF hd;obtain⟨v,h1,h2⟩:=r.get h0;refine⟨⟨vs,v,hl,h1⟩,λx H' ⟨p,z,hp,e1,e2,hx⟩=>?_⟩;subst e1 e2;have:=hx vs hl;rw[h1]at this;cases this;refine⟨qY hp,?_⟩;rw[Nat.zero_add];exact gk hS hp (.cons (.int _) (.cons h2 .nil))
theorem nk:∀{xs ys:List D}{i:Nat}{d:D},(dO xs ys)[i]? = some d->∃x y,xs[i]? = some x/\ys[i]? = some y/\d=.tup [x,y]
 | [],_,_,_,h=>by simp[dO]at h
 |_::_,[],_,_,h=>by simp[dO]at h
 |x::r,y::t,0,d,h=>by simp[dO]at h;exact⟨x,y,rfl,rfl,h.symm⟩
 |x::r,y::t,i+1,d,h=>by
  simp only[dO,List.getElem?_cons_succ]at h;obtain⟨x',y',h1,h2,h3⟩:=nk h;exact⟨x',y',by simpa using h1,by simpa using h2,h3⟩
theorem sD:∀(xs ys:List D),(dO xs ys).length=min xs.length ys.length
 | [],_=>by simp[dO]
 |_::_,[]=>by simp[dO]
 |x::r,y::t=>by simp[dO,sD r t]
theorem rF{K:az}{tup:Bool}{a b:Addr}{vs us:List V}{ds es:List D}{H:Hp}{S:Sh}(hl:Hw K tup H a vs)(Ia:Hw K tup H b us)(r:qq g (hid H S) ds vs)(r':qq g (hid H S) es us)(hn:es.length<=ds.length)(hS:Sub S H):Goes g (Itz K tup a b) (dO ds es) H S:=by
 refine⟨λi hi=>⟨vs,us,hl,Ia,by rw[sD]at hi;rw[<-r.length,<-r'.length];lia⟩,λi d hd=>?_⟩;obtain⟨x,y,h0,OW,rfl⟩:=nk hd;obtain⟨v,h1,h2⟩:=r.get h0;obtain⟨u,h3,h4⟩:=r'.get OW;refine⟨⟨vs,us,v,u,hl,Ia,h1,h3⟩,λx H' ⟨p,z,z',hp,e1,e2,hx,Ju⟩=>?_⟩;subst e1 e2;have q:=hx vs hl;rw[h1]at q;cases q;have q:=Ju us Ia;rw[h3]at q;cases q;exact⟨qY hp,gk hS hp (.cons h2 (.cons h4 .nil))⟩
theorem kc{lo:Int}{n:Nat}{H:Hp}{S:Sh}:Goes g (Itr lo n) (zk lo n) H S:=by
 refine⟨λi hi=>by show n<=i;simpa[zk]using hi,λi d hd=>?_⟩;unfold zk at hd;rw[List.getElem?_map]at hd;cases q:(aS n)[i]? with
 |none=>rw[q]at hd;exact oN hd
 |some j=>
  rw[q]at hd;cases hd;have hi:=(List.getElem?_eq_some_iff.mp q)
  obtain⟨h1,h2⟩:=hi;simp at h1 h2;subst h2;exact⟨h1,λx H' ⟨e1,e2⟩=>by subst e1 e2;exact⟨qf.refl _,.int _⟩⟩
theorem v5(O:XO w g c E X){tg:Expr}(ha:PE X a (tE w g c E ia)):PI X tg a (tIt w g c E (.seq ia)):=
 PI.imp (PI.or (yW ha) (Ag ha)) λσ H R ⟨τ,S,se,k⟩=>by
  have k0:=k;simp only[evI]at k;cases q:evE w ia τ with
  |ex z=>exact .inl ⟨τ,S,se,by rw[q]at k ⊢;exact k⟩
  |no=>rw[q]at k;exact k.elim
  |ok dd=>
   cases dd with
   |lst ds=>
    refine .inl (zd se k λda va H1 e1 p1 k1=>?_);rw[q]at e1;cases e1;obtain⟨ad,vs,rfl,h1,r1⟩:=p1.rb.lst;rw[<-O.K]at h1;refine⟨ad,rfl,⟨vs,h1⟩,k1 _ H1 p1.same (λH2 S2 s1 s2 _=>m6 (s1.seq h1) (r1.mono s2)) λho H2 S2 s2 _=>?_⟩;have he:esc ia=true:=by
     cases ia<;>first|rfl|(exact Bool.noConfusion ho)
    cases p1.st he with
    |lst h2 r2=>exact m6 (by rw[O.K];exact(s2.trans zz).seq h2) (r2.mono s2)
   |tup ds=>
    refine .inr (zd se k λda va H1 e1 p1 k1=>?_);rw[q]at e1;cases e1;cases p1.rb.strong (by intro _ z;cases z)with
    |tup h2 r2=>
     refine⟨_,rfl,⟨_,by rw[O.K];exact zu zz h2⟩,k1 _ H1 p1.same (λH2 S2 s1 s2 _=>sM (by rw[O.K];exact zu (s2.trans zz) h2) (r2.mono s2)) λho H2 S2 s2 _=>sM (by rw[O.K];exact zu (s2.trans zz) h2) (r2.mono s2)⟩
   |_=>rw[q]at k;exact k.elim
theorem gL{j:Int}(h:qr j=true):-1000000<=j/\j<=1000000:=by simpa[qr]using h
theorem Fi(O:XO w g c E X){x:Str}{tg:Expr}(h:glob c x=some .rng)(ha:PE X a (tE w g c E ia))(hs:isStar a=false):PI X tg (.Call (.Name x p2) [a] [] pos) (tIt w g c E (.rng ia)):=by
 obtain⟨h1,rfl⟩:=O.gm h;refine PI.imp (yf (O.gl h) h1 (zF ha eB (qu hs)) (qu hs)) λσ H R ⟨τ,S,se,k⟩=>?_
 simp only[evI]at k;refine zd se k λda va H1 e1 p1 k1=>?_
 cases da with
 |int j=>
  simp only at k1;cases q:qr j with
  |true=>
   rw[q,if_pos rfl]at k1;obtain⟨z1,z2⟩:=gL q;exact⟨j,by rw[p1.rb.int],by lia,by lia,k1 _ H1 p1.same (λ_ _ _ _ _=>kc) λ_ _ _ _ _=>kc⟩
  |false=>rw[q]at k1;exact k1.elim
 |_=>exact k1.elim
theorem wU(O:XO w g c E X){x:Str}{tg:Expr}(h:glob c x=some .rng)(ha:PE X a (tE w g c E ia))(hb:PE X b (tE w g c E ib))(hs:isStar a=false)(Gz:isStar b=false):PI X tg (.Call (.Name x p2) [a,b] [] pos) (tIt w g c E (.rng2 ia ib)):=by
 obtain⟨h1,rfl⟩:=O.gm h;refine PI.imp (ED (O.gl h) h1 (zF ha (zF hb eB (qu Gz)) (qu hs)) (by rw[qu hs,qu Gz];rfl) (qu Gz)) λσ H R ⟨τ,S,se,k⟩=>?_
 simp only[evI]at k;refine zd se k λda va H1 e1 p1 k1=>zd (se.up p1.same) k1 λdb vb H2 e2 p2 k2=>?_
 cases da with
 |int i=>
  cases db with
  |int j=>
   simp only at k2;cases q:qr i&&qr j with
   |true=>
    rw[q,if_pos rfl]at k2;simp only[aL]at q;obtain⟨z1,z2⟩:=gL q.1;obtain⟨z3,z4⟩:=gL q.2;exact⟨i,j,by rw[p1.rb.int,p2.rb.int],⟨by lia,by lia,by lia,by lia⟩,k2 _ H2 (p1.same.trans p2.same) (λ_ _ _ _ _=>kc) λ_ _ _ _ _=>kc⟩
   |false=>rw[q]at k2;exact k2.elim
  |_=>exact k2.elim
 |_=>exact k2.elim
theorem DK(O:XO w g c E X){x:Str}{es:List Expr}{ek:Nat}{GA:Pos}(h:glob c x=some .enum)(ha:PE X a (tE w g c E ia))(hs:isStar a=false):PI X (.Tuple es ek GA) (.Call (.Name x p2) [a] [] pos) (tIt w g c E (.enum ia)):=by
 obtain⟨h1,rfl⟩:=O.gm h;refine PI.imp (BJ (O.gl h) h1 (by decide +kernel) (zF ha eB (qu hs)) (qu hs)) λσ H R ⟨τ,S,se,k⟩=>?_
 simp only[evI]at k;refine zd se k λda va H1 e1 p1 k1=>?_
 cases da with
 |lst ds=>
  obtain⟨ad,vs,rfl,h1,r1⟩:=p1.rb.lst;rw[<-O.K]at h1;refine⟨ad,rfl,⟨vs,h1⟩,k1 _ H1 p1.same (λH2 S2 s1 s2 s3=>oY (s1.seq h1) (r1.mono s2) s3) λho H2 S2 s2 s3=>?_⟩;have he:esc ia=true:=by
   cases ia<;>first|rfl|(exact Bool.noConfusion ho)
  cases p1.st he with
  |lst h2 r2=>exact oY (by rw[O.K];exact(s2.trans zz).seq h2) (r2.mono s2) s3
 |_=>exact k1.elim
theorem Ef(O:XO w g c E X){x:Str}{es:List Expr}{ek:Nat}{GA:Pos}(h:glob c x=some .zip)(ha:PE X a (tE w g c E ia))(hb:PE X b (tE w g c E ib))(hs:isStar a=false)(Gz:isStar b=false):PI X (.Tuple es ek GA) (.Call (.Name x p2) [a,b] [] pos) (tIt w g c E (.zip ia ib)):=by
 obtain⟨h1,rfl⟩:=O.gm h;refine PI.imp (yv (O.gl h) h1 (by decide +kernel) (zF ha (zF hb eB (qu Gz)) (qu hs)) (by rw[qu hs,qu Gz];rfl) (qu Gz)) λσ H R ⟨τ,S,se,k⟩=>?_
 simp only[evI]at k;refine zd se k λda va H1 e1 p1 k1=>zd (se.up p1.same) k1 λdb vb H2 e2 p2 k2=>?_
 have OX:=p1.same.trans p2.same;cases da with
 |tup ds=>
  cases db with
  |tup es=>
   simp only at k2;by_cases hn:es.length<=ds.length
   ·rw[if_pos hn]at k2;cases (p1.rb.mono p2.same).strong (by intro _ z;cases z)with
    |tup h3 r3=>
     cases p2.rb.strong (by intro _ z;cases z)with
     |tup h4 r4=>
      refine⟨true,_,_,rfl,⟨_,by rw[O.K];exact zu zz h3⟩,⟨_,by rw[O.K];exact zu zz h4⟩,k2 _ H2 OX (λH3 S3 s1 s2 s3=>?_) λho H3 S3 s2 s3=>?_⟩
      ·exact rF (tup:=true) (by rw[O.K];exact zu (s2.trans zz) h3) (by rw[O.K];exact zu (s2.trans zz) h4) (r3.mono s2) (r4.mono s2) hn s3
      ·exact rF (tup:=true) (by rw[O.K];exact zu (s2.trans zz) h3) (by rw[O.K];exact zu (s2.trans zz) h4) (r3.mono s2) (r4.mono s2) hn s3
   ·rw[if_neg hn]at k2;exact k2.elim
  |_=>exact k2.elim
 |_=>exact k2.elim
theorem AK(O:XO w g c E X){a:Expr}{f:Str}{ia:EV.E}{pos:Pos}(hb:attributeBase a f X.env (eval a X.env)=eval a X.env)(ha:PE X a (tE w g c E ia)):PE X (.Attribute a f pos) (tE w g c E (.fld ia f)):=by
 refine PE.imp (EB hb ha) λσ H Q ⟨τ,S,se,h⟩=>?_
 simp only[qo,zb,qX,zf,qT,zh,zg,zi,qG,qK,qO,qP,qL,qy,qN,qB,qx,qH,qz,ql,qI,qU,qC,qE,qW,qR,qQ,qS,qM,qV]at h;refine zd se h λd v H1 _ p1 k1=>?_
 cases d with
 |exn k=>
  unfold jK at k1;dsimp only at k1;cases q:w.fld k.nm with
  |none=>rw[q]at k1;exact k1.elim
  |some fs=>
   rw[q]at k1;dsimp only at k1;split at k1
   ·rename_i hf
    cases q2:k.fs.lookup f with
    |none=>rw[q2]at k1;exact k1.elim
    |some i=>
     rw[q2]at k1;cases p1.rb.rep with
     | @exn _ x C dx z1 z2 z3 z4=>
      obtain⟨fI,y1,_,_,_⟩:=O.fl k.nm fs q C z1;rcases z3 with ⟨e1,e2⟩|⟨dd,rfl,e2⟩
      ·rw[e1]at q2;cases q2
      ·have lk:∀l:List (Str×Int),l.lookup f=some i->(l.map λy=>(y.1,V.int y.2)).lookup f=some (.int i):=by
        intro l
        induction l with
        |nil=>intro q;cases q
        |cons y r ih=>
         intro q;rw[bw]at q;rw[aN,bw];split at q
         ·cases q;rfl
         ·exact ih q
       exact⟨x,C,dd,fI,fs,_,i,rfl,z2,e2,by rw[O.K];exact y1,by simpa using hf,lk _ q2,(λe=>z4 (by rw[e])),k1 _ _ (bC.of p1.same (.int _) rfl)⟩
   ·exact k1.elim
 |_=>exact k1.elim
end
def iM:List Nat->TGs
 | []=>nV
 |i::is=>p9 (f_ i) (iM is)
def gT(K:az):Tg->TG
 | .nm i=>f_ i
 | .tp is=>rG K is.length (iM is)
section
variable{w:W}{g:Gc}{c:Cc}{E:XK}{X:Cx}
theorem fN{x:Str}{i:Nat}(h:dq c x=some i):loc c x=some i/\(c.nm.lookup x=some .local\/(c.nm.lookup x=some .cell/\(c.fnc=true\/c.oc.contains x=true))):=by
 unfold dq at h;split at h
 ·rename_i q;exact⟨h,.inl q⟩
 ·rename_i q
  split at h
  ·rename_i z;exact⟨h,.inr ⟨q,by simpa using z⟩⟩
  ·exact oN h
 ·exact oN h
theorem rS(O:XO w g c E X){x:Str}{i:Nat}{pos:Pos}(h:dq c x=some i):PG X (.Name x pos) (f_ i):=by
 obtain⟨h1,h2⟩:=fN h;obtain⟨h3,_⟩:=fA h1;refine FX (by rw[O.N];exact O.nd) (by rw[O.N];exact h3) (by unfold L2.Loc;rw[O.nm];rcases h2 with z|z;exact .inl z;exact .inr z.1) ?_;rcases h2 with z|z
 ·exact .inr (by rw[O.nm];exact z)
 ·exact .inl (O.fn x z.2)
theorem su:∀{es:List Expr}{xs:List Str},gR es=some xs->∃ps:List Pos,es=(xs.zip ps).map (λp=>Expr.Name p.1 p.2)/\ps.length=xs.length
 | [],xs,h=>by simp[gR]at h;subst h;exact⟨[],rfl,rfl⟩
 |e::es,xs,h=>by
  cases e with
  |Name y p=>
   simp only[gR,bI]at h;obtain⟨ys,h1,rfl⟩:=h;obtain⟨ps,h2,h3⟩:=su h1;exact⟨p::ps,by rw[h2];rfl,by simp[h3]⟩
  |_=>simp[gR]at h
theorem rJ(O:XO w g c E X):∀{xs:List Str}{ps:List Pos}{is:List Nat},ps.length=xs.length->xs.mapM (dq c)=some is ->
  PGs X ((xs.zip ps).map λp=>Expr.Name p.1 p.2) (iM is)/\(assignEach ((xs.zip ps).map λp=>Expr.Name p.1 p.2) X.env).length=is.length/\(assignEach ((xs.zip ps).map λp=>Expr.Name p.1 p.2) X.env).findIdx? (·.1)=none
 | [],ps,is,_,h=>by
  simp at h;subst h;exact⟨FO,rfl,rfl⟩
 |x::xs,[],_,h,_=>by simp at h
 |x::xs,p::ps,is,hl,h=>by
  simp only[List.mapM_cons,bX,bD]at h;obtain⟨i,h1,js,h2,h3⟩:=h;cases h3;obtain⟨r1,r2,r3⟩:=rJ O (xs:=xs) (ps:=ps) (by simpa using hl) h2;refine⟨DO (rS O h1) r1 rfl,?_,?_⟩
  ·show (assignEach ((xs.zip ps).map λp=>Expr.Name p.1 p.2) X.env).length+1=js.length+1;rw[r2]
  ·show List.findIdx? (·.1) ((false,_)::assignEach ((xs.zip ps).map λp=>Expr.Name p.1 p.2) X.env)=none;rw[List.findIdx?_cons];simp only[bL,if_false];rw[r3];rfl
theorem jU(O:XO w g c E X){e:Expr}{tg:Tg}(h:cTg c e=some tg):PG X e (gT X.K tg):=by
 cases e with
 |Name x p=>
  simp only[cTg]at h;split at h
  ·exact oN h
  ·simp only[bI]at h;obtain⟨i,h1,rfl⟩:=h;exact rS O h1
 |Tuple es k p=>
  simp only[cTg]at h;split at h
  ·rename_i hc
   simp only[bX,bD]at h;obtain⟨xs,h1,h⟩:=h;split at h
   ·exact oN h
   ·simp only[bD]at h;obtain⟨is,h2,h⟩:=h;split at h
    ·cases h;obtain⟨ps,rfl,hl⟩:=su h1;obtain⟨r1,r2,r3⟩:=rJ O hl h2;exact Bu (O.calm hc) r1 r2 r3
    ·exact oN h
  ·exact oN h
 |_=>simp[cTg]at h
def iL(c:Cc):Tg->Prop
 | .nm i=>∀x,c.N[i]? = some x->c.own.contains x=false
 | .tp is=>∀i∈is,∀x,c.N[i]? = some x->c.own.contains x=false
theorem pD{α β:Type}{f:α->Option β}:∀{xs:List α}{ys:List β},xs.mapM f=some ys->∀y∈ys,∃x∈xs,f x=some y
 | [],ys,h,y,hy=>by simp at h;subst h;simp at hy
 |x::xs,ys,h,y,hy=>by
  simp only[List.mapM_cons,bX,bD]at h;obtain⟨z,h1,zs,h2,h3⟩:=h;cases h3;rcases aP.mp hy with rfl|hy
  ·exact⟨x,aQ,h1⟩
  ·obtain⟨x',h4,h5⟩:=pD h2 y hy;exact⟨x',aO _ h4,h5⟩
theorem sH{e:Expr}{tg:Tg}(h:cTg c e=some tg):iL c tg:=by
 have one:∀{x:Str}{i:Nat},c.own.contains x=false->dq c x=some i->∀y,c.N[i]? = some y->c.own.contains y=false:=λ{x i} ho hl y hy=>by
  obtain⟨h3,_⟩:=fA (fN hl).1;rw[h3]at hy;cases hy;exact ho
 cases e with
 |Name x p=>
  simp only[cTg]at h;split at h
  ·exact oN h
  ·rename_i ho
   simp only[bI]at h;obtain⟨i,h1,rfl⟩:=h;exact one (by simpa using ho) h1
 |Tuple es k p=>
  simp only[cTg]at h;split at h
  ·simp only[bX,bD]at h;obtain⟨xs,h1,h⟩:=h;split at h
   ·exact oN h
   ·rename_i ho
    simp only[bD]at h;obtain⟨is,h2,h⟩:=h;split at h
    ·cases h;intro i hi;obtain⟨x,hx,hl⟩:=pD h2 i hi;refine one ?_ hl;cases q:c.own.contains x with
     |false=>rfl
     |true=>exact absurd (b9.mpr ⟨x,hx,q⟩) ho
    ·exact oN h
  ·exact oN h
 |_=>simp[cTg]at h
section
variable{τ τ':Env}{σ:L2.St}{H:Hp}{S:Sh}
theorem SE.set{i:Nat}{d:D}{v:V}(se:SE g c τ σ H S)(r:Rep g (hid H S) d v):SE g c (τ.set i (some d)) (σ.set i (some v)) H S:=by
 refine⟨by simp[se.len],λj e h=>?_,se.sub⟩;by_cases Ge:i=j
 ·subst Ge;by_cases hi:i<τ.length
  ·simp[hi]at h;subst h;have GY:i<σ.length:=by rw[<-se.len];exact hi
   exact⟨v,by simp[GY],.inl r,λ_ _ _=>r⟩
  ·rw[List.set_eq_of_length_le (by lia)]at h;rw[List.getElem?_eq_none (by lia)]at h;cases h
 ·rw[List.getElem?_set_ne Ge]at h ⊢;exact se.val j e h
theorem SE.setAll{is:List Nat}:∀{ds:List D}{vs:List V}{τ:Env}{σ:L2.St}{Q:L2.St->Hp->Prop},SE g c τ σ H S->qq g (hid H S) ds vs->setAll is ds τ=.ok τ'->(∀σ',SE g c τ' σ' H S->Q σ' H)->iM is vs σ H Q:=by
 induction is with
 |nil=>
  intro ds vs τ σ Q se r h k;cases r with
  |nil=>cases (show R.ok τ=R.ok τ' from h);exact⟨rfl,k σ se⟩
  |cons _ _=>cases (show R.no=R.ok τ' from h)
 |cons i is ih=>
  intro ds vs τ σ Q se r h k;cases r with
  |nil=>cases (show R.no=R.ok τ' from h)
  |cons r rs=>exact⟨_,_,rfl,ih (se.set r) rs h k⟩
theorem xl(O:X.K=g.K){tg:Tg}{d:D}{v:V}{Q:L2.St->Hp->Prop}(se:SE g c τ σ H S)(r:Rep g (hid H S) d v)(h:store tg d τ=.ok τ')(k:∀σ',SE g c τ' σ' H S->Q σ' H):gT X.K tg v σ H Q:=by
 cases tg with
 |nm i=>
  simp only[store,R.ok.injEq]at h;subst h;exact k _ (se.set r)
 |tp is=>
  cases d with
  |tup ds=>
   simp only[store]at h;split at h
   ·rename_i hl
    cases r with
    |tup h1 r1=>exact⟨_,_,rfl,by rw[O];exact zu zz h1,by rw[<-r1.length];exact hl,se.setAll r1 h k⟩
   ·cases h
  |_=>simp[store]at h
end
end
abbrev dX(c:Cc)(sc:a9):Cc:={c with nm:=jA sc.names c.nm,N:=zV sc.names,fnc:=false,oc:=iq sc.names}
section
variable{w:W}{g:Gc}{c:Cc}{E:XK}{X:Cx}
theorem XO.comp(O:XO w g c E X){sc:a9}(hk:sc.kind=.function)(HF:(zV sc.names).Nodup)(cl:List (Str×Addr))(C:Addr)(s₀:af)(H₀:Hp)(fp:List Addr):XO w g (dX c sc) E0 (zB X (zV sc.names) sc cl C s₀ H₀ fp) where
 K:=O.K
 nm:=by
  show (relabel sc X.env).names=jA sc.names c.nm;unfold relabel jA;simp only
  congr 1
  funext p;have h1:(X.env.scope.kind==ScopeKind.function)=true:=by rw[O.kind];rfl
  have h2:X.env.kindOf p.1=c.nm.lookup p.1:=by show X.env.scope.names.lookup p.1=_;rw[O.nm]
  obtain⟨n,k⟩:=p;simp only at h2;simp only[h1,h2,Bool.and_true]
 N:=rfl
 nd:=HF
 calm:=O.calm
 units:=O.units
 dp:=O.dp
 fl:=O.fl
 fn:=λx z=>z.elim (λz=>by cases z) λz=>z
 kind:=hk
 pass:=mC rfl rfl
 gok:=O.gok
 fns:=O.fns
 sub:=O.sub
theorem DZ{α:Type}{τ:Env}{σ:L2.St}{H:Hp}{S:Sh}{it:It}{f:List D->R α}{P:α->Prop}{R':L2.It->Hp->Prop}(se:SE g c τ σ H S)(h:tR g E H ((evI w it τ).bind f) P)
  (k:∀ds J H',evI w it τ=.ok ds->qf H H'->(∀H2 S2,qf H' H2->qf (hid H' S) (hid H2 S2)->Sub S2 H2->Goes g J ds H2 S2)->(owned it=false->∀H2 S2,qf (hid H' S) (hid H2 S2)->Sub S2 H2->Goes g J ds H2 S2)->tR g E H' (f ds) P->R' J H'):tIt w g c E it σ H R':=by
 refine⟨τ,S,se,?_⟩;cases q:evI w it τ with
 |ok d=>rw[q]at h;exact λJ H' s k1 k2=>k d J H' q s k1 k2 (tR.up h s)
 |ex x=>rw[q]at h;exact h
 |no=>rw[q]at h;exact h
theorem AV{α:Type}{r:R α}{x:Xc}:noEx r≠.ex x:=by cases r<;>intro h<;>cases h
theorem Ci{α:Type}{r:R α}{a:α}(h:noEx r=.ok a):r=.ok a:=by cases r<;>first|exact h|cases h
theorem tf{body:D->Env->R (Env×List D)}(hb:∀d τ x,body d τ≠.ex x):∀{ds:List D}{τ:Env}{acc:List D}{x:Xc},zP body ds τ acc≠.ex x
 | [],_,_,_,h=>by cases h
 |d::r,τ,acc,x,h=>by
  simp only[zP]at h;cases q:body d τ with
  |ok p=>rw[q]at h;exact tf hb h
  |ex y=>exact hb _ _ _ q
  |no=>rw[q]at h;cases h
theorem SE.caps{sc:a9}{cap:List (Option Nat)}{τ:Env}{σ:L2.St}{H:Hp}{S:Sh}(O:XO w g c E X)(hc:n_ X (zV sc.names) cap sc)(se:SE g c τ σ H S):SE g (dX c sc) (dP cap τ) (L2.caps cap σ) H S:=by
 refine⟨by simp[dP,L2.caps],λi d h=>?_,se.sub⟩;unfold dP at h;rw[List.getElem?_map]at h;cases q:cap[i]? with
 |none=>rw[q]at h;cases h
 |some o=>
  cases o with
  |none=>rw[q]at h;cases h
  |some j=>
   rw[q]at h;simp only[Option.map_some,Option.bind_some,cx]at h;cases q2:τ[j]? with
   |none=>rw[q2]at h;cases h
   |some z=>
    rw[q2]at h;cases z with
    |none=>cases h
    |some d'=>
     have:d'=d:=by simpa using h
     subst this;obtain⟨v,h1,h2,h3⟩:=se.val j d' q2;refine⟨v,?_,h2,λx hx ho=>?_⟩
     ·unfold L2.caps;rw[List.getElem?_map,q];simp[h1]
     ·obtain⟨y,e1,e2,_⟩:=hc.2 i j q;have Ju:(zV sc.names)[i]? = some x:=hx;rw[e1]at Ju;cases Ju;exact h3 _ (by rw[<-O.N];exact e2) ho
theorem iJ{H:Hp}{S:Sh}{p:Addr}{o:HO}(h:S.h p=true):hid (upd H p o) S=hid H S:=by
 funext b;unfold hid;by_cases hb:b=p
 ·subst hb;rw[if_pos h,if_pos h]
 ·rw[qg hb]
theorem SE.grow{c:Cc}{τ:Env}{σ:L2.St}{H:Hp}{S:Sh}{p:Addr}{o:HO}(se:SE g c τ σ H S)(h:S.h p=true)(ho:S.o p=false):SE g c τ σ (upd H p o) S:=by
 refine⟨se.len,λi d e=>?_,λa ha n=>?_⟩
 ·obtain⟨v,h1,h2,h3⟩:=se.val i d e;refine⟨v,h1,?_,λx hx hy=>by rw[iJ h];exact h3 x hx hy⟩;rcases h2 with h2|⟨a,vs,ds,z1,z2,z3,z4,z5⟩
  ·exact .inl (by rw[iJ h];exact h2)
  ·refine .inr ⟨a,vs,ds,z1,z2,z3,?_,by rw[iJ h];exact z5⟩;rw[qg (λz=>by rw[z,ho]at z1;cases z1)];exact z4
 ·by_cases hb:a=p
  ·subst hb;rw[zo]at n;cases n
  ·rw[qg hb]at n;exact se.sub a ha n
theorem SE.hide{c:Cc}{τ:Env}{σ:L2.St}{H:Hp}{S:Sh}{p:Addr}{vs:List V}(se:SE g c τ σ H S)(hp:H p=none):SE g c τ σ (upd H p (.lst vs)) (cR S p):=by
 refine⟨se.len,λi d e=>?_,λa ha n=>?_⟩
 ·obtain⟨v,h1,h2,h3⟩:=se.val i d e;refine⟨v,h1,?_,λx hx hy=>(h3 x hx hy).mono (kD hp)⟩;rcases h2 with h2|⟨a,vs,ds,z1,z2,z3,z4,z5⟩
  ·exact .inl (h2.mono (kD hp))
  ·exact .inr ⟨a,vs,ds,z1,z2,z3,qY hp _ _ z4,z5.mono (kD hp)⟩
 ·by_cases hb:a=p
  ·subst hb;rw[zo]at n;cases n
  ·rw[qg hb]at n;refine se.sub a ?_ n;rcases ha with ha|ha
   ·refine .inl ?_;have ha:(S.h a||a==p)=true:=ha
    simpa[hb]using ha
   ·exact .inr ha
theorem tY(O:XO w g c E X){sc:a9}{cap:List (Option Nat)}{GB:It}{Gw:Tg}{tt:T}{GG:EV.E}(hS:ez X (zV sc.names) cap sc)(he:esc GG=true){σ:L2.St}{H:Hp}{Q:VK}(hq:tE w g c E (.comp GB cap Gw tt GG) σ H Q) :
  kO cap (tIt w g c E GB) (gT X.K Gw) (tT w g (dX c sc) E0 tt) (λacc=>kB acc (tE w g (dX c sc) E0 GG)) σ H Q:=by
 obtain⟨τ,S,se,k⟩:=hq;simp only[qo,zb,qX,zf,qT,zh,zg,zi,qG,qK,qO,qP,qL,qy,qN,qB,qx,qH,qz,ql,qI,qU,qC,qE,qW,qR,qQ,qS,qM,qV]at k;refine DZ se k λds J H1 e1 s1 kW _ k1 acc Gf=>?_
 by_cases hz:SZ<ds.length
 ·rw[if_pos hz]at k1;exact k1.elim
 rw[if_neg hz]at k1;generalize GV:(λx σ=>noEx ((store Gw x σ).bind λσ'=>(evT w tt σ').bind λr=>if r=true then (evE w GG σ').bind λd=>R.ok (σ',[d])else R.ok (σ',[])))=body at k1;have Np:∀d τ x,body d τ≠.ex x:=λd τ x=>by rw[<-GV];exact AV
 cases hl:zP body ds (dP cap τ) []with
 |ex z=>exact absurd hl (tf Np)
 |no=>rw[hl]at k1;exact k1.elim
 |ok out=>
  rw[hl]at k1;simp only[R.bind_ok]at k1;have k1:∀v H',bC g c (.comp GB cap Gw tt GG) S H (.lst out) v H'->Q v H':=k1;have Ka:=se.sub.same s1;have Kb:S.o acc=false:=Ka.freeO Gf;have ID:(cR S acc).h acc=true:=by show (S.h acc||acc==acc)=true;simp
  -- what holds between two turns
  refine⟨λi m σ' H'=>m=ds.length-i/\i<=ds.length/\∃τ' o,zP body (ds.drop i) τ' o=.ok out/\SE g (dX c sc) τ' σ' H' (cR S acc)/\o.length<=i/\qf H1 H'/\∃vs,H' acc=some (.lst vs)/\qq g (hid H' (cR S acc)) o vs,
   ⟨ds.length,rfl,bU _,dP cap τ,[],hl,(se.up s1).caps O hS.cap |>.hide Gf,aH _,qY Gf,[],zo,.nil⟩,?_⟩
  rintro i m σ' H' ⟨rfl,GY,τ',o,Hg,Nq,QH,Kw,vs,hv,hr⟩;have keep:qf (hid H1 S) (hid H' (cR S acc)):=λb u hb=>by
   obtain⟨z1,z2⟩:=bW.mp hb;refine bW.mpr ⟨?_,Kw _ _ z2⟩;show (S.h b||b==acc)=false;rw[z1]
   simpa using λz:b=acc=>by rw[z,Gf]at z2;cases z2
  obtain⟨g1,g2⟩:=kW H' (cR S acc) Kw keep Nq.sub;by_cases Gg:i<ds.length
  ·have hd:ds[i]? = some ds[i]:=List.getElem?_eq_getElem Gg;obtain⟨Mn,go2⟩:=g2 i ds[i] hd;refine .inr ⟨Mn,λσ'' H''=>∃τ' o,zP body (ds.drop (i+1)) τ' o=.ok out/\SE g (dX c sc) τ' σ'' H'' (cR S acc)/\o.length<=i+1/\qf H1 H''/\∃vs,H'' acc=some (.lst vs)/\qq g (hid H'' (cR S acc)) o vs,
    λσ'' H'' z=>⟨ds.length-(i+1),by lia,rfl,Gg,z⟩,λx H2 hy=>?_⟩
   obtain⟨s2,rx⟩:=go2 x H2 hy;rw[fK Gg]at Hg;simp only[zP]at Hg;cases q:body ds[i] τ' with
   |ex z=>exact absurd q (Np _ _ _)
   |no=>rw[q]at Hg;cases Hg
   |ok p=>
    rw[q]at Hg;simp only[R.bind_ok]at Hg;rw[<-GV]at q;have q:=Ci q;cases q1:store Gw ds[i] τ' with
    |ex z=>rw[q1]at q;cases q
    |no=>rw[q1]at q;cases q
    |ok τ1=>
     rw[q1]at q;simp only[R.bind_ok]at q;refine xl O.K (Nq.up s2) rx q1 λσ1 Kx=>?_
     cases q2:evT w tt τ1 with
     |ex z=>rw[q2]at q;cases q
     |no=>rw[q2]at q;cases q
     |ok r=>
      rw[q2]at q;simp only[R.bind_ok]at q;refine⟨τ1,cR S acc,Kx,?_⟩;rw[q2];intro H3 s3;have Nr:=s3 _ _ (s2 _ _ hv);have Nt:=Kw.trans (s2.trans s3);cases r with
      |false=>
       simp only[bL,if_false,R.ok.injEq]at q;subst q;rw[if_neg cG];exact⟨τ1,o++[],Hg,Kx.up s3,by simp;lia,Nt,vs,Nr,by rw[c_];exact hr.mono (qZ (s2.trans s3))⟩
      |true=>
       simp only[if_true]at q;rw[if_pos rfl];cases q3:evE w GG τ1 with
       |ex z=>rw[q3]at q;cases q
       |no=>rw[q3]at q;cases q
       |ok dd=>
        rw[q3]at q;simp only[R.bind_ok,R.ok.injEq]at q;subst q;refine⟨τ1,cR S acc,Kx.up s3,?_⟩;rw[q3];intro v H4 p4;have OZ:=p4.same _ _ Nr;have O0:=hr.mono (qZ ((s2.trans s3).trans p4.same));have IB:vs.length<sizeLine:=by
         rw[<-hr.length,bJ];have:ds.length<=SZ:=Nat.le_of_not_lt hz;unfold SZ at this;lia
        refine⟨vs,OZ,IB,τ1,o++[dd],Hg,(Kx.up (s3.trans p4.same)).grow ID Kb,by simp;lia,λb u hb=>?_,vs++[v],zo,?_⟩
        ·rw[qg (λz=>by rw[z,Gf]at hb;cases hb)];exact p4.same _ _ (Nt _ _ hb)
        ·rw[iJ ID];exact O0.append (.cons (p4.st he) .nil)
  ·have e:i=ds.length:=by lia
   subst e;refine .inl ⟨g1 ds.length (aH _),?_⟩;rw[List.drop_length]at Hg;simp only[zP,R.ok.injEq]at Hg;subst Hg;have rep:Rep g (hid H' S) (.lst o) (.ref acc):=.lst (SqL.of (bW.mpr ⟨Ka.free Gf,hv⟩)) (hr.mono tP);exact k1 _ _ (bC.new (s1.trans Kw) rep ⟨acc,vs,o,rfl,rfl,s1.free Gf,hv,hr⟩)
theorem DU(O:XO w g c E X)(Kc:X.calm=true){sc:a9}{cap:List (Option Nat)}{Gk it elt:Expr}{ifs:List Expr}{pos:Pos}{GB:It}{Gw:Tg}{tt:T}{GG:EV.E}(hS:ez X (zV sc.names) cap sc)(HF:(zV sc.names).Nodup)
  (hi:PI X Gk it (tIt w g c E GB)) (hb:∀cl C s₀ H₀ fp,PG (zB X (zV sc.names) sc cl C s₀ H₀ fp) Gk (gT X.K Gw)/\PTs (zB X (zV sc.names) sc cl C s₀ H₀ fp) ifs (tT w g (dX c sc) E0 tt)/\PE (zB X (zV sc.names) sc cl C s₀ H₀ fp) elt (tE w g (dX c sc) E0 GG))
  (he:esc GG=true) (hs:zp it=true):PE X (.ListComp elt [⟨Gk,it,ifs,0⟩] sc pos) (tE w g c E (.comp GB cap Gw tt GG)):=by
 exact PE.imp (Ae (tb:=λacc=>kB acc (tE w g (dX c sc) E0 GG)) Kc hS hi (λcl C s₀ H₀ fp=>⟨(hb cl C s₀ H₀ fp).1,(hb cl C s₀ H₀ fp).2.1,λacc=>nF rfl (hb cl C s₀ H₀ fp).2.2⟩) (by simp) (λx=>by cases it<;>first|rfl|(exact Bool.noConfusion hs))) λσ H Q q=>tY O hS he q
end
section
variable{prog:aF}{w:aB}{A:aG}{E:ae->af->Prop}{s:af}
theorem xW{Q:List ae->af->Prop}{r:Addr}{a b c:Int}{t u v:Tok}{n:Nat}(hh:A.handled=none)(hr:IsRange s.heap r a b c t u v)(hsmall:Builtin.Range.small a b c=true)(hn:Builtin.Range.rangeSize a b c=n)(hlen:n<=2^24)
  (hQ:∀h' tk acc,(∀b o',s.heap.get? b=some o'->h'.get? b=some o')->ItemsOf (λi v=>∃t,v=.int (a+i * c) t) acc n->Q acc.toList {s with heap:=h',toks:=tk}):ak (ao prog w) A (collect (.ref r)) Q E s:=by
 unfold collect;refine ag (wpAny_runValue (codeAny_builtin PySem.F.entry_proto_collect ?_));rw[aG.under_plainId PySem.F.plain_proto_collect _];show ak _ A.in1 (newList []>>=λl=>again (.builtin "list.__iadd__" ⟨[l,.ref r],[]⟩)) _ _ s;refine ag (bZ ?_);refine aA ⟨plainId_quiet PySem.F.plain_list_iadd _,codeAny_builtin PySem.F.entry_list_iadd ?_⟩;rw[aG.under_plainId PySem.F.plain_list_iadd _];show ak _ A.in1 (Builtin.List.listExtendWith (.ref s.heap.objs.size) (.ref r) (.ref s.heap.objs.size)) _ _ _;have hS:(s.heap.push {cls:=.type "list",data:=.seq ([]:List ae).toArray}).get? s.heap.objs.size=some {cls:=.type "list",data:=.seq #[] 0}:=Heap.get?_push_size _ rfl;have Kd:∀(h':Heap) (tk:Nat) (acc:Array ae) (c':Nat),(∀b o,b≠s.heap.objs.size->(s.heap.push {cls:=.type "list",data:=.seq ([]:List ae).toArray}).get? b=some o->h'.get? b=some o)->h'.get? s.heap.objs.size=some {cls:=.type "list",dict:=none,data:=.seq acc c',slots:=#[]} ->
   ItemsOf (λi v=>∃t,v=.int (a+i * c) t) acc n->ak (ao prog w) A (match a8 s.heap.objs.size with
   |a8 a=>do
    match (<-load a).data with
     |Data.seq xs _=>pure xs.toList
     |_=>unsupported "internal:collect"
   |_=>unsupported "internal:collect") Q E {s with heap:=h',toks:=tk}:=λh' tk acc c' hk Jg Gf=>by
  show ak _ A (load s.heap.objs.size>>=_) _ _ _;refine ag (wpAny_load Jg ?_);exact aA (hQ h' tk acc (λb o' hb=>hk b o' (bg (aM hb)) (Heap.get?_push_of_some _ hb)) Gf)
 refine bK (wpAny_extend_range (A:=A) (R:=λr s'=>r=.ok (.ret (.ref s.heap.objs.size))/\∃h' tk acc c',s'={s with heap:=h',toks:=tk}/\(∀b o,b≠s.heap.objs.size->(s.heap.push {cls:=.type "list",data:=.seq ([]:List ae).toArray}).get? b=some o->h'.get? b=some o)/\h'.get? s.heap.objs.size=some {cls:=.type "list",dict:=none,data:=.seq acc c',slots:=#[]}/\ItemsOf (λi v=>∃t,v=.int (a+i * c) t) acc n)
  (s:={s with heap:=s.heap.push {cls:=.type "list",data:=.seq ([]:List ae).toArray}}) hh (Heap.get?_push_of_some _ hr) hsmall hn hlen _ _ 0 hS λh' tk acc c' hk Jg Gf=>⟨rfl,h',tk,acc,c',rfl,hk,Jg,Gf⟩) (λfin s' h=>?_) (λe s' h=>?_)
 ·cases fin with
  |done f=>
   obtain⟨e,h',tk,acc,c',rfl,hk,Jg,Gf⟩:=h;cases e;exact Kd h' tk acc c' hk Jg Gf
  |again c'=>exact⟨h.1,codeAny_mono h.2 λr s'' hr=>by obtain⟨rfl,h',tk,acc,c',rfl,hk,Jg,Gf⟩:=hr;exact Kd h' tk acc c' hk Jg Gf⟩
 ·exact absurd h.1 (by simp)
theorem wO(r:Addr)(a b c:Int)(t u v:Tok)(n:Nat)(hsmall:Builtin.Range.small a b c=true)(hn:Builtin.Range.rangeSize a b c=n)(hlen:n<=2^24) :
  PySem.Meets (Builtin.«tuple.__new__» ⟨[.type "tuple",.ref r],[]⟩)
   (λA R s=>A.handled=none/\IsRange s.heap r a b c t u v/\∀(h':Heap) (tk:Nat) (acc:Array ae),(∀b o',s.heap.get? b=some o'->h'.get? b=some o')->ItemsOf (λi v=>∃t,v=.int (a+i * c) t) acc n->R (.ok (.ret (.ref h'.objs.size))) {s with heap:=h'.push {cls:=.type "tuple",data:=.seq acc},toks:=tk}):=
 .of_wp λprog w A R s h=>by
  obtain⟨hh,ht,h⟩:=h;have Gj:=sub_tuple_self;have Nu:=init_tuple_lookup;have QI:=madeHere_tuple;have hT:s.TypeIs (.ref r) "range":=⟨_,ht,rfl⟩
  have O1:A.in1.handled=none:=hh
  wp_walk using wpAny_typeOf hT,xW (hsmall:=hsmall) (hn:=hn) (hlen:=hlen) O1 ht
  intro h' tk acc hk Gf;show ak _ _ (cD acc.toList.toArray>>=λv=>ret v) _ _ _;unfold cD;refine ag (bZ ?_ (show acc.toList.toArray.size<=aR by simp only[Array.toArray_toList];rw[Gf.1,bJ];lia));refine aA ⟨_,rfl,?_⟩;have e:acc.toList.toArray=acc:=by simp
  rw[e];exact h h' tk acc hk Gf
theorem yc{r:Addr}{a b c:Int}{t u v:Tok}{n:Nat}{Q:ae->af->Prop}(hh:A.handled=none)(hr:IsRange s.heap r a b c t u v)(hsmall:Builtin.Range.small a b c=true)(hn:Builtin.Range.rangeSize a b c=n)(hlen:n<=2^24)
  (h:∀(h':Heap) (tk:Nat) (acc:Array ae),(∀b o',s.heap.get? b=some o'->h'.get? b=some o')->ItemsOf (λi v=>∃t,v=.int (a+i * c) t) acc n->Q (.ref h'.objs.size) {s with heap:=h'.push {cls:=.type "tuple",data:=.seq acc},toks:=tk}) :
  ak (ao prog w) A (call (.type "tuple") [.ref r]) Q E s:=
 callType_new PySem.F.called_tuple (by decide) (PySem.F.typeCall_tuple_1 _) (PySem.F.newCall_tuple_1 _) (λobj=>PySem.F.args_object_init_2 obj _) PySem.F.entry_tuple_new
  (wO r a b c t u v n hsmall hn hlen) ⟨hh,hr,λh' tk acc hk Gf=>⟨⟨_,Heap.get?_push_size _ rfl,rfl⟩,h h' tk acc hk Gf⟩⟩
end
theorem tj:∀{xs:List V}{us:List ae},xs.length=us.length->(∀(i:Nat) x u,xs[i]? = some x->us[i]? = some u->L2.RelV x u)->Vals xs us
 | [],[],_,_=>.nil
 |x::xs,u::us,h,k=>.cons (k 0 x u rfl rfl) (tj (by simpa using h) λi y v h1 h2=>k (i+1) y v (by simpa using h1) (by simpa using h2))
 | [],_::_,h,_=>by simp at h
 |_::_,[],h,_=>by simp at h
noncomputable def eM(lo:Int)(n:Nat):List V:=(aS n).map λ(i:Nat)=>.int (lo+(i:Int))
theorem ug{lo:Int}{n:Nat}{acc:Array ae}(h:ItemsOf (λi v=>∃t,v=.int (lo+i * 1) t) acc n):Vals (eM lo n) acc.toList:=by
 refine tj (by simp[eM,h.1]) λi x u hx hu=>?_
 unfold eM at hx;rw[List.getElem?_map]at hx;cases q:(aS n)[i]? with
 |none=>rw[q]at hx;cases hx
 |some j=>
  rw[q]at hx;cases hx;obtain⟨h1,h2⟩:=List.getElem?_eq_some_iff.mp q;simp at h2;subst h2;obtain⟨t,ht⟩:=h.2 i u (by simpa using hu);rw[ht];exact⟨t,by rw[Int.mul_one]⟩
theorem lF{g:Gc}{H:Hp}{lo:Int}{n:Nat}:qq g H (zk lo n) (eM lo n):=by
 unfold zk eM;generalize aS n=l
 induction l with
 |nil=>exact .nil
 |cons i l ih=>exact .cons (.int _) ih
section
variable{X:Cx}
theorem uY:za X (.type "range") (λvs H Q=>∃lo hi,(vs=[.int hi]/\lo=0\/vs=[.int lo,.int hi])/\∀p,H p=none->Q (.ref p) (upd H p (.rng lo hi))):=by
 intro pins s σ H xs us Q I r h;obtain⟨lo,hi,h|h,q⟩:=h
 ·obtain⟨rfl,rfl⟩:=h;obtain⟨u,rfl,t,rfl⟩:=r.one;exact call_range_1 ⟨.ref _,_,I.laid (o:=.rng 0 hi) (λb o e=>Heap.get?_push_of_some _ e) (aH _) ⟨_,_,_,Heap.get?_push_size _ rfl⟩,rfl,q _ I.fresh⟩
 ·subst h;obtain⟨u,v,rfl,⟨t,rfl⟩,⟨t',rfl⟩⟩:=r.two;exact call_range_2 ⟨.ref _,_,I.laid (o:=.rng lo hi) (λb o e=>Heap.get?_push_of_some _ e) (aH _) ⟨_,_,_,Heap.get?_push_size _ rfl⟩,rfl,q _ I.fresh⟩
theorem t7{lo hi:Int}:Builtin.Range.rangeSize lo hi 1=((hi-lo).toNat:Nat):=by
 rw[rangeSize_one];split<;>lia
theorem wt(hc:X.calm=true):za X (.type "list") (λvs H Q=>∃p lo hi,vs=[.ref p]/\H p=some (.rng lo hi)/\qr lo=true/\qr hi=true/\∀q,H q=none->Q (.ref q) (upd H q (.lst (eM lo (hi-lo).toNat)))):=by
 intro pins s σ H xs us Q I r h;obtain⟨p,lo,hi,rfl,hp,z1,z2,q⟩:=h;obtain⟨u,rfl,ru⟩:=r.one;cases ru;obtain⟨t,u,v,e⟩:=I.hok p _ hp;obtain⟨a1,a2⟩:=gL z1;obtain⟨b1,b2⟩:=gL z2;refine call_list_range (I.ok.hd hc) e (small_one (by lia) (by lia) (by lia) (by lia)) t7 (by lia) λh' tk acc c' hk hS Gf=>?_
 refine⟨.ref _,_,I.laid (h':=h') (t':=tk) (o:=.lst (eM lo (hi-lo).toNat)) hk (aH _) ⟨by simp[eM,bJ];lia,acc.toList,c',ug Gf,by simpa using hS⟩,rfl,q _ I.fresh⟩
theorem AD(hc:X.calm=true):za X (.type "tuple") (λvs H Q=>∃p lo hi,vs=[.ref p]/\H p=some (.rng lo hi)/\qr lo=true/\qr hi=true/\∀q,H q=none->Q (.ref q) (upd H q (.tup (eM lo (hi-lo).toNat)))):=by
 intro pins s σ H xs us Q I r h;obtain⟨p,lo,hi,rfl,hp,z1,z2,q⟩:=h;obtain⟨u,rfl,ru⟩:=r.one;cases ru;obtain⟨t,u,v,e⟩:=I.hok p _ hp;obtain⟨a1,a2⟩:=gL z1;obtain⟨b1,b2⟩:=gL z2;refine yc (I.ok.hd hc) e (small_one (by lia) (by lia) (by lia) (by lia)) t7 (by lia) λh' tk acc hk Gf=>?_
 have I1:Inv X pins σ H {s with heap:=h',toks:=tk}:=I.kept hk;refine⟨.ref _,_,I1.laid (t':=tk) (o:=.tup (eM lo (hi-lo).toNat)) (λb o e=>Heap.get?_push_of_some _ e) (aH _) ⟨by simp[eM,bJ];lia,acc.toList,ug Gf,⟨_,Heap.get?_push_size _ rfl,rfl,0,by simp⟩⟩,rfl,q _ I1.fresh⟩
end
section
variable{w:W}{g:Gc}{c:Cc}{E:XK}{X:Cx}{a b:Expr}{ia ib:EV.E}{pos p2 p3 pos3:Pos}
theorem y8(O:XO w g c E X){x:Str}{e:Expr}{es:List Expr}{t:TA}(h:glob c x=some .rng)(ha:PA X (e::es) t)(hs:∀z∈e::es,isStar z=false) :
  PE X (.Call (.Name x p3) (e::es) [] pos3) (tCB (λvs H Q=>∃lo hi,(vs=[.int hi]/\lo=0\/vs=[.int lo,.int hi])/\∀p,H p=none->Q (.ref p) (upd H p (.rng lo hi))) t):=by
 obtain⟨h1,rfl⟩:=O.gm h;exact ku uY (O.gl h) h1 (by decide +kernel) ha (qw h).2.2.2 (qw h).2.2.1 (qu (hs e aQ)) (iI λz hz=>hs z (aO _ hz))
theorem tG(O:XO w g c E X)(hc:X.calm=true){x y:Str}{n:String}{bb:Option B1}{e:Expr}{es:List Expr}{it:It}{t:TA}(hT:glob c x=some (.ty n bb))(h:glob c y=some .rng)(ha:PA X (e::es) t)(hs:∀z∈e::es,isStar z=false)
  (hn:n = "tuple"\/n = "list")
  (k:∀σ H (Q:List V->Hp->Prop) τ S (P:List D->Prop),SE g c τ σ H S->tR g E H (evI w it τ) P->(∀lo hi vs H',qf H H'->(vs=[.int hi]/\lo=0\/vs=[.int lo,.int hi])->qr lo=true->qr hi=true->P (zk lo (hi-lo).toNat)->Q vs H')->t σ H Q) :
  PE X (.Call (.Name x p2) [.Call (.Name y p3) (e::es) [] pos3] [] pos) (tE w g c E (if n = "tuple" then .rtup it else .rlst it)):=by
 obtain⟨h1,h2,_,_⟩:=O.gm hT;have hr:=y8 (p3:=p3) (pos3:=pos3) O h ha hs;rcases hn with rfl|rfl
 ·refine PE.imp (ku (AD hc) (O.gl hT) h1 h2 (zF hr eB rfl) (qw hT).2.2.2 (qw hT).2.2.1 rfl rfl) λσ H Q ⟨τ,S,se,q⟩=>?_
  rw[if_pos rfl]at q;simp only[qo,zb,qX,zf,qT,zh,zg,zi,qG,qK,qO,qP,qL,qy,qN,qB,qx,qH,qz,ql,qI,qU,qC,qE,qW,qR,qQ,qS,qM,qV]at q;refine k σ H _ τ S _ se (tR.bnd q) λlo hi vs H' s hv z1 z2 hP=>⟨lo,hi,hv,λp hp=>⟨p,lo,hi,rfl,zo,z1,z2,λr hr=>?_⟩⟩
  have s1:=qY (o:=.rng lo hi) hp;exact hP _ _ (bC.of ((s.trans s1).trans (qY hr)) (gk (se.sub.same (s.trans s1)) hr lF) rfl)
 ·refine PE.imp (ku (wt hc) (O.gl hT) h1 h2 (zF hr eB rfl) (qw hT).2.2.2 (qw hT).2.2.1 rfl rfl) λσ H Q ⟨τ,S,se,q⟩=>?_
  rw[if_neg (by decide)]at q;simp only[qo,zb,qX,zf,qT,zh,zg,zi,qG,qK,qO,qP,qL,qy,qN,qB,qx,qH,qz,ql,qI,qU,qC,qE,qW,qR,qQ,qS,qM,qV]at q;refine k σ H _ τ S _ se (tR.bnd q) λlo hi vs H' s hv z1 z2 hP=>⟨lo,hi,hv,λp hp=>⟨p,lo,hi,rfl,zo,z1,z2,λr hr=>?_⟩⟩
  have s1:=qY (o:=.rng lo hi) hp;exact hP _ _ (bC.new ((s.trans s1).trans (qY hr)) (gq (se.sub.same (s.trans s1)) hr lF) (iE (s.trans s1) hr lF))
theorem wR(O:XO w g c E X)(hc:X.calm=true){x y:Str}{bb:Option B1}{d:Expr}{id:EV.E}(hT:glob c x=some (.ty "tuple" bb))(h:glob c y=some .rng)(ha:PE X a (tE w g c E ia))(hb:PE X b (tE w g c E ib))(hd:PE X d (tE w g c E id))(hs:isStar a=false)(Gz:isStar b=false)(O3:isStar d=false) :
  PE X (.Call (.Name x p2) [.Call (.Name y p3) [a,b,d] [] pos3] [] pos) (tE w g c E (.rtup (.rng3 ia ib id))):=λpins s σ H Q I ⟨τ,S,se,kk⟩=>by
 simp only[qo,zb,qX,zf,qT,zh,zg,zi,qG,qK,qO,qP,qL,qy,qN,qB,qx,qH,qz,ql,qI,qU,qC,qE,qW,qR,qQ,qS,qM,qV,evI,R.bind_no]at kk;exact bq kk
theorem C_(ha:PE X a (tE w g c E ia))(hs:isStar a=false):PA X [a] (ju (tE w g c E ia) jD):=zF ha eB (qu hs)
theorem CN:∀σ H (Q:List V->Hp->Prop) τ S (P:List D->Prop),SE g c τ σ H S->tR g E H (evI w (.rng ia) τ) P->(∀lo hi vs H',qf H H'->(vs=[.int hi]/\lo=0\/vs=[.int lo,.int hi])->qr lo=true->qr hi=true->P (zk lo (hi-lo).toNat)->Q vs H')->ju (tE w g c E ia) jD σ H Q:=by
 intro σ H Q τ S P se q k;simp only[evI]at q;refine zd se q λda va H1 e1 p1 k1=>?_
 cases da with
 |int j=>
  simp only at k1;cases z:qr j with
  |true=>rw[z,if_pos rfl]at k1;exact k 0 j _ H1 p1.same (.inl ⟨by rw[p1.rb.int],rfl⟩) (by decide) z (by rw[Int.sub_zero];exact k1)
  |false=>rw[z]at k1;exact k1.elim
 |_=>exact k1.elim
theorem Fh:∀σ H (Q:List V->Hp->Prop) τ S (P:List D->Prop),SE g c τ σ H S->tR g E H (evI w (.rng2 ia ib) τ) P->(∀lo hi vs H',qf H H'->(vs=[.int hi]/\lo=0\/vs=[.int lo,.int hi])->qr lo=true->qr hi=true->P (zk lo (hi-lo).toNat)->Q vs H')->ju (tE w g c E ia) (ju (tE w g c E ib) jD) σ H Q:=by
 intro σ H Q τ S P se q k;simp only[evI]at q;refine zd se q λda va H1 e1 p1 k1=>zd (se.up p1.same) k1 λdb vb H2 e2 p2 k2=>?_
 cases da with
 |int i=>
  cases db with
  |int j=>
   simp only at k2;cases z:qr i&&qr j with
   |true=>
    rw[z,if_pos rfl]at k2;simp only[aL]at z;exact k i j _ H2 (p1.same.trans p2.same) (.inr (by rw[p1.rb.int,p2.rb.int])) z.1 z.2 k2
   |false=>rw[z]at k2;exact k2.elim
  |_=>exact k2.elim
 |_=>exact k2.elim
end
structure Snd(w:W)(g:Gc)(n:Nat):Prop where
 e:∀{c:Cc}{E:XK}{X:Cx} (O:XO w g c E X) {x:Expr}{ir:EV.E},cE n c x=some ir->PE X x (tE w g c E ir)
 bo:∀{c:Cc}{E:XK}{X:Cx} (O:XO w g c E X) {op:PySem.BoolOp}{vs:List Expr}{pos:Pos}{ir:EV.E},cBo n c op vs=some ir->PE X (.BoolOp op vs pos) (tE w g c E ir)/\esc ir=true
 o:∀{c:Cc}{E:XK}{X:Cx} (O:XO w g c E X) {x:Option Expr}{ir:OE},cO n c x=some ir->PO X x (tOe w g c E ir)
 es:∀{c:Cc}{E:XK}{X:Cx} (O:XO w g c E X) {x:List Expr}{ir:Es},cEs n c x=some ir->PA X x (tA w g c E ir)
 i:∀{c:Cc}{E:XK}{X:Cx} (O:XO w g c E X) {tg x:Expr}{ir:It},cI n c x=some ir->gf ir tg=true->PI X tg x (tIt w g c E ir)
 t:∀{c:Cc}{E:XK}{X:Cx} (O:XO w g c E X) {x:Expr}{ir:T},cT n c x=some ir->PT X x (tT w g c E ir)
 ts:∀{c:Cc}{E:XK}{X:Cx} (O:XO w g c E X) {op:PySem.BoolOp}{vs:List Expr}{pos:Pos}{ir:T},cTs n c op vs=some ir->PW X (.BoolOp op vs pos) (tT w g c E ir)
 ifs:∀{c:Cc}{E:XK}{X:Cx} (O:XO w g c E X) {x:List Expr}{ir:T},fM n c x=some ir->PTs X x (tT w g c E ir)
section
variable{w:W}{g:Gc}{n:Nat}
theorem Snd.ifs_succ(ih:Snd w g n){c:Cc}{E:XK}{X:Cx}(O:XO w g c E X){x:List Expr}{ir:T}(h:fM (n+1) c x=some ir):PTs X x (tT w g c E ir):=by
 match x with
 | []=>
  simp only[fM,cx]at h;subst h;intro pins s σ H Q I ⟨τ,S,se,q⟩;exact Fg pins s σ H Q I (q H (qf.refl _))
 | [t]=>simp only[fM]at h;exact uq (ih.t O h)
 |_::_::_=>simp[fM]at h
theorem Snd.bo_succ(ih:Snd w g n){c:Cc}{E:XK}{X:Cx}(O:XO w g c E X){op:PySem.BoolOp}{vs:List Expr}{pos:Pos}{ir:EV.E}(h:cBo (n+1) c op vs=some ir):PE X (.BoolOp op vs pos) (tE w g c E ir)/\esc ir=true:=by
 match vs with
 | []=>simp[cBo]at h
 | [a]=>
  simp only[cBo,bX,bD]at h;obtain⟨ia,h1,h⟩:=h;split at h
  ·rename_i he
   cases h;exact⟨AI (ih.e O h1),he⟩
  ·exact oN h
 |a::b::r=>
  simp only[cBo,bX,bD]at h;obtain⟨ia,h1,Mo,h2,h⟩:=h;obtain⟨r1,r2⟩:=ih.bo O (pos:=pos) h2;cases op with
  |And=>cases h;exact⟨ES (ih.e O h1) r1 r2,rfl⟩
  |Or=>cases h;exact⟨uR (ih.e O h1) r1 r2,rfl⟩
theorem Snd.o_succ(ih:Snd w g n){c:Cc}{E:XK}{X:Cx}(O:XO w g c E X){x:Option Expr}{ir:OE}(h:cO (n+1) c x=some ir):PO X x (tOe w g c E ir):=by
 cases x with
 |none=>simp only[cO,cx]at h;subst h;exact v_
 |some e=>
  simp only[cO,bI]at h;obtain⟨ie,h1,rfl⟩:=h;exact Bh (ih.e O h1)
theorem Snd.es_succ(ih:Snd w g n){c:Cc}{E:XK}{X:Cx}(O:XO w g c E X){x:List Expr}{ir:Es}(h:cEs (n+1) c x=some ir):PA X x (tA w g c E ir):=by
 match x with
 | []=>simp only[cEs,cx]at h;subst h;exact wH
 |e::r=>
  have hs:=gB h e aQ;simp only[cEs,hs,bL,if_false,bX,bD]at h;obtain⟨ie,h1,Mo,h2,h⟩:=h;cases h;exact B7 (ih.e O h1) (ih.es O h2) hs
theorem Snd.ts_succ(ih:Snd w g n){c:Cc}{E:XK}{X:Cx}(O:XO w g c E X){op:PySem.BoolOp}{vs:List Expr}{pos:Pos}{ir:T}(h:cTs (n+1) c op vs=some ir):PW X (.BoolOp op vs pos) (tT w g c E ir):=by
 match vs with
 | []=>simp[cTs]at h
 | [a]=>
  simp only[cTs]at h;cases op with
  |And=>exact BK (ih.t O h)
  |Or=>exact Em (ih.t O h)
 |a::b::r=>
  simp only[cTs,bX,bD]at h;obtain⟨ia,h1,Mo,h2,h⟩:=h;cases op with
  |And=>cases h;exact CV (ih.t O h1) (ih.ts O h2)
  |Or=>cases h;exact D3 (ih.t O h1) (ih.ts O h2)
theorem Snd.t_succ(ih:Snd w g n){c:Cc}{E:XK}{X:Cx}(O:XO w g c E X){x:Expr}{ir:T}(h:cT (n+1) c x=some ir):PT X x (tT w g c E ir):=by
 cases x
 case UnaryOp op a p=>
  cases op
  case Not=>
   replace h:(cT n c a).map .not=some ir:=h
   simp only[bI]at h;obtain⟨ia,h1,rfl⟩:=h;exact uv (ih.t O h1)
  all_goals
   replace h:(cE n c _).map T.val=some ir:=h
   rw[bI]at h;obtain⟨ia,h1,rfl⟩:=h;exact uf O (ih.e O h1) λwhole=>rfl
 case BoolOp op vs p=>exact(ih.ts O h).pt
 case IfExp a b d p=>exact oN h
 case Compare a ops bs p=>
  rcases ops with _|⟨o,_|⟨o',_|⟨J0,_|_⟩⟩⟩
  ·exact oN h
  ·rcases bs with _|⟨b,_|_⟩
   ·exact oN h
   ·refine oC2 h λia ib h1 h2 hs e_=>?_
    subst e_;exact vW O (ih.e O h1) (ih.e O h2) hs
   ·exact oN h
  ·rcases bs with _|⟨b,_|⟨d,_|_⟩⟩
   ·exact oN h
   ·exact oN h
   ·refine oC3 h λia ib id' h1 h2 h3 hs e_=>?_
    simp only[aL]at hs;subst e_;exact EK O (ih.e O h1) (ih.e O h2) (ih.e O h3) hs.2
   ·exact oN h
  ·rcases bs with _|⟨b,_|⟨d,_|⟨f,_|_⟩⟩⟩
   ·exact oN h
   ·exact oN h
   ·exact oN h
   ·refine oC4 h λia ib id' if' h1 h2 h3 h4 hs e_=>?_
    simp only[aL]at hs;subst e_;exact vO O (ih.e O h1) (ih.e O h2) (ih.e O h3) (ih.e O h4) hs.2
   ·exact oN h
  ·exact oN h
 all_goals
  replace h:(cE n c _).map T.val=some ir:=h
  rw[bI]at h;obtain⟨ia,h1,rfl⟩:=h;exact uf O (ih.e O h1) λwhole=>rfl
noncomputable def cIb(n:Nat)(c:Cc)(f:Str)(p q:Pos)(as:List Expr)(gv:Option GK):Option It:=
 match gv with
  |some .rng=>(match as with
   | [a]=>if isStar a then none else (cE n c a).map .rng
   | [a,b]=>if isStar a||isStar b then none else do
    let a <-cE n c a
    let b <-cE n c b
    some (.rng2 a b)
   |_=>none)
  |some .enum=>(match as with
   | [a]=>if isStar a then none else (cE n c a).map .enum
   |_=>none)
  |some .zip=>(match as with
   | [a,b]=>if isStar a||isStar b then none else do
    let a <-cE n c a
    let b <-cE n c b
    some (.zip a b)
   |_=>none)
  |_=>(cE n c (.Call (.Name f p) as [] q)).map .seq
theorem Snd.i_succ(ih:Snd w g n){c:Cc}{E:XK}{X:Cx}(O:XO w g c E X){tg x:Expr}{ir:It}(h:cI (n+1) c x=some ir)(ht:gf ir tg=true):PI X tg x (tIt w g c E ir):=by
 have sq:∀{x:Expr}{ir:It},(cE n c x).map It.seq=some ir->PI X tg x (tIt w g c E ir):=λ{x ir} h=>by
  simp only[bI]at h;obtain⟨ia,h1,rfl⟩:=h;exact v5 O (ih.e O h1)
 have tup:isTup tg=true->∃es k p,tg=.Tuple es k p:=λh=>by cases tg<;>first|exact⟨_,_,_,rfl⟩|(exact Bool.noConfusion h)
 cases x
 case Call fe as ks q=>
  cases fe
  case Name f p=>
   rcases ks with _|⟨k0,kr⟩
   ·replace h:(match loc c f with
     |some _=>(cE n c (.Call (.Name f p) as [] q)).map .seq
     |none=>cIb n c f p q as (glob c f):Option It)=some ir:=h
    cases Ke:loc c f with
    |some i=>rw[Ke]at h;exact sq h
    |none=>
     rw[Ke]at h;cases hg:glob c f with
     |none=>rw[hg]at h;exact sq h
     |some gv=>
      rw[hg]at h;cases gv
      case rng=>
       rcases as with _|⟨a,_|⟨b,_|_⟩⟩
       ·exact oN h
       ·replace h:(if isStar a then none else (cE n c a).map .rng:Option It)=some ir:=h
        split at h
        ·exact oN h
        ·rename_i hs
         simp only[bI]at h;obtain⟨ia,h1,rfl⟩:=h;exact Fi O hg (ih.e O h1) (by simpa using hs)
       ·replace h:(if isStar a||isStar b then none else do
          let a <-cE n c a
          let b <-cE n c b
          some (.rng2 a b):Option It)=some ir:=h
        split at h
        ·exact oN h
        ·rename_i hs
         have hs:isStar a=false/\isStar b=false:=by simpa using hs
         refine oK2 h λia ib h1 h2 e_=>?_
         subst e_;exact wU O hg (ih.e O h1) (ih.e O h2) hs.1 hs.2
       ·exact oN h
      case enum=>
       rcases as with _|⟨a,_|_⟩
       ·exact oN h
       ·replace h:(if isStar a then none else (cE n c a).map .enum:Option It)=some ir:=h
        split at h
        ·exact oN h
        ·rename_i hs
         simp only[bI]at h;obtain⟨ia,h1,rfl⟩:=h;obtain⟨es,k,p',rfl⟩:=tup ht;exact DK O hg (ih.e O h1) (by simpa using hs)
       ·exact oN h
      case zip=>
       rcases as with _|⟨a,_|⟨b,_|_⟩⟩
       ·exact oN h
       ·exact oN h
       ·replace h:(if isStar a||isStar b then none else do
          let a <-cE n c a
          let b <-cE n c b
          some (.zip a b):Option It)=some ir:=h
        split at h
        ·exact oN h
        ·rename_i hs
         have hs:isStar a=false/\isStar b=false:=by simpa using hs
         refine oK2 h λia ib h1 h2 e_=>?_
         subst e_;obtain⟨es,k,p',rfl⟩:=tup ht;exact Ef O hg (ih.e O h1) (ih.e O h2) hs.1 hs.2
       ·exact oN h
      all_goals exact sq h
   ·exact sq h
  all_goals exact sq h
 all_goals exact sq h
end
end EV
namespace HT
open PySem PySem.Spec PyProof.Rows L2
section
variable{prog:aF}{w:aB}{A:aG}{E:ae->af->Prop}{s:af}
theorem E2(xs:Array ae):((aS xs.size).filterMap λ(m:Nat)=>xs[((((xs.size:Nat):Int)-1)+(m:Int) * -1).toNat]?).toArray=xs.toList.reverse.toArray:=by
 congr 1
 have ok:∀m∈aS xs.size,xs[((((xs.size:Nat):Int)-1)+(m:Int) * -1).toNat]? = some (xs.toList.reverse.getD m .none):=λm hm=>by
  have Mm:=List.mem_range.mp hm;have e:((((xs.size:Nat):Int)-1)+(m:Int) * -1).toNat=xs.size-1-m:=by lia
  rw[e,Array.getElem?_eq_getElem (by lia),List.getD_eq_getElem?_getD,List.getElem?_reverse (by simpa using Mm)];simp;rw[Array.getElem?_eq_getElem (by lia)];rfl
 have all:∀(l:List Nat),(∀m∈l,m∈aS xs.size)->l.filterMap (λ(m:Nat)=>xs[((((xs.size:Nat):Int)-1)+(m:Int) * -1).toNat]?)=l.map λm=>xs.toList.reverse.getD m .none:=by
  intro l
  induction l with
  |nil=>intro _;rfl
  |cons m l ih=>intro h;rw[List.filterMap_cons,ok m (h m aQ),aN];show _::_=_;rw[ih λk hk=>h k (aO _ hk)]
 rw[all _ λ_ h=>h];refine List.ext_getElem (by simp) λi h1 h2=>?_
 have hi:i<xs.size:=by simpa using h1
 rw[dE,List.getElem_range,List.getD_eq_getElem?_getD,List.getElem?_eq_getElem h2];rfl
theorem uj{t sl:Addr}{items:Array ae}{tk:Tok}{Q:ae->af->Prop}(ht:IsTup s.heap t items)(hs:s.heap.IsSliceOf sl .none .none (.int (-1) tk))
  (h:Q (.ref s.heap.objs.size) {s with heap:=s.heap.push {cls:=.type "tuple",data:=.seq items.toList.reverse.toArray}}) (Gq:items.size<=aR):ak (ao prog w) A (getItem (.ref t) (.ref sl)) Q E s:=by
 have Gr:sizeOk (.seq items.toList.reverse.toArray):=by
  show items.toList.reverse.toArray.size<=aR;rw[aU,List.length_reverse,a_];exact Gq
 obtain⟨os,Hl,HA,hds⟩:=id hs;have Ls:s.TypeIs (.ref sl) "slice":=⟨os,Hl,HA⟩
 unfold getItem
 try with_reducible refine b6 ?_
 first|refine ag (aA ?_)|skip
 refine ag (wpAny_sequenceKey ht.typeIs (by decide) ?_);refine ag (wpAny_callSpecial?_slot (name:=aJ "__getitem__") ht.typeIs eS
  (cH eS ht.typeIs entry_tuple_getitem ?_ (args_tuple_getitem _ _)))
 show ak _ _ (Builtin.Tuple.tupleItemsOf (.ref t)>>=_) _ _ s;refine ag (tupleItemsOf_ ht ?_);refine ag (wpAny_typeOf Ls ?_);rw[if_pos (by decide)];refine ag ?_;unfold Builtin.Slice.sliceApplied Builtin.Slice.sliceFields;refine ag (ag (bp Hl hds (x:=.none) rfl (ag (bp Hl hds (x:=.none) rfl (ag (bp Hl hds (x:=.int (-1) tk) rfl (aA ?_)))))));refine ag (slicePart_int ?_);show ak _ _ (if ((-1:Int)==0)=true then _ else _) _ _ s;rw[if_neg (by decide)];refine ag (slicePart_none (ag (slicePart_none (ag (aA ?_)))));have e1:eT none none (-1) ((items.size:Nat):Int)=(((items.size:Nat):Int)-1,-1):=by unfold eT;simp
 have e2:dC (((items.size:Nat):Int)-1) (-1) (-1)=items.size:=by
  unfold dC;rw[if_neg (by decide)];rw[show -(-1:Int)=1 from rfl,Int.ediv_one];split<;>lia
 show ak _ _ (match eT none none (-1) ((items.size:Nat):Int)with|(lo,hi)=>pure (lo,(-1:Int),dC lo hi (-1))) _ _ s;rw[e1];show ak _ _ (pure (((items.size:Nat):Int)-1,(-1:Int),dC (((items.size:Nat):Int)-1) (-1) (-1))) _ _ s;rw[e2];refine aA ?_;show ak _ _ (if ((((items.size:Nat):Int)-1)==0&&(-1:Int)==1&&items.size==items.size)=true then _ else _) _ _ s;rw[if_neg (by simp),E2]
 first
  |exact ag (m:=cD _) (bZ (aA ⟨_,rfl,aA h⟩) Gr)
  |exact ag (m:=cD _) (bZ (ag (aA (aA ⟨_,rfl,aA h⟩))) Gr)
  |exact ag (ag (m:=cD _) (bZ (aA (aA ⟨_,rfl,aA h⟩)) Gr))
  |exact ag (ag (m:=cD _) (bZ (aA ⟨_,rfl,aA h⟩) Gr))
end
end HT
namespace L2
open PySem PySem.Spec PyProof.Rows
variable{X:Cx}{e st:Expr}{te ts:TE}{p2 pos:Pos}
theorem FP:∀{xs:List V}{us:List ae},Vals xs us->Vals xs.reverse us.reverse:=by
 have app:∀{xs ys:List V}{us ws:List ae},Vals xs us->Vals ys ws->Vals (xs++ys) (us++ws):=λh h'=>by
  induction h with
  |nil=>exact h'
  |cons a _ ih=>exact .cons a ih
 intro xs us h
 induction h with
 |nil=>exact .nil
 |cons a _ ih=>rw[List.reverse_cons,List.reverse_cons];exact app ih (.cons a .nil)
def vN(K:az)(te ts:TE):TE:=λσ H Q=>te σ H λx H1=>ts σ H1 λy H2=>y=.int (-1)/\∃a xs,x=.ref a/\SqT K H2 a xs/\∀p,H2 p=none->Q (.ref p) (upd H2 p (.tup xs.reverse))
theorem DC(he:PE X e te)(hs:PE X st ts):PE X (.Subscript e (.Slice none none (some st) p2) pos) (vN X.K te ts):=by
 intro pins s σ H Q I h;refine Subscript_ (thn (he pins s σ H _ I h) λv s1 ⟨x,H1,I1,r1,q1⟩=>?_);refine wpAny_Slice ?_;rw[evalPart_none];refine aA (aA ?_);rw[evalPart_some];refine thn (hs pins s1 σ H1 _ I1 q1) λu s3 ⟨y,H3,I3,r3,q3⟩=>?_
 obtain⟨rfl,a,xs,rfl,hx,q⟩:=q3;obtain⟨tk,rfl⟩:=r3;cases r1;have I4:Inv X pins σ H3 {s3 with heap:=s3.heap.push {cls:=.type "slice",data:=.fields #[.none,.none,.int (-1) tk]}}:=I3.kept (t':=s3.toks) λb ob q=>Heap.get?_push_of_some _ q
 obtain⟨its,r,ht,hz⟩:=I4.tuple hx;have hlen:its.toArray.size=xs.length:=by rw[aU];exact r.length.symm
 show ak (ao X.prog X.w) X.A (subscriptTail e (.Slice none none (some st) p2) (.ref a) (.ref s3.heap.objs.size)) (EP X pins σ Q) X.xe {s3 with heap:=s3.heap.push {cls:=.type "slice",data:=.fields #[.none,.none,.int (-1) tk]}};refine tail_any (ops:=[.ref a,.ref s3.heap.objs.size]) ht.typeIs eS.lookup (HT.uj ht (Heap.IsSliceOf.new ..) ?_ (by rw[hlen];exact hz)) (by with_unfolding_all rfl);exact⟨.ref _,_,I4.laid (o:=.tup xs.reverse) (λb ob q=>Heap.get?_push_of_some _ q) (aH _) ⟨by rw[List.length_reverse];exact hz,its.reverse,FP r,⟨_,Heap.get?_push_size _ rfl,rfl,0,by simp⟩⟩,rfl,q _ I4.fresh⟩
end L2
namespace EV
open PySem PySem.Spec PySem.P PyProof.Rows L2
section
variable{w:W}{g:Gc}{c:Cc}{E:XK}{X:Cx}{a:Expr}{ia:EV.E}{pos p2 p3 pos3:Pos}
theorem yV{st:Expr}(h:jv st=true):∃k p q,st=.UnaryOp .USub (.Constant (.int 1) k p) q:=by
 unfold jv at h;split at h
 ·simp only[decide_eq_true_eq]at h;subst h;exact⟨_,_,_,rfl⟩
 ·cases h
theorem qq.rev{g:Gc}{H:Hp}:∀{ds:List D}{vs:List V},qq g H ds vs->qq g H ds.reverse vs.reverse:=by
 have app:∀{ds es:List D}{vs us:List V},qq g H ds vs->qq g H es us->qq g H (ds++es) (vs++us):=λ{ds}=>by
  induction ds with
  |nil=>intro es vs us h h';cases h;exact h'
  |cons d ds ih=>intro es vs us h h';cases h with|cons a b=>exact .cons a (ih b h')
 intro ds
 induction ds with
 |nil=>intro vs h;cases h;exact .nil
 |cons d ds ih=>intro vs h;cases h with|cons a b=>rw[List.reverse_cons,List.reverse_cons];exact app (ih b) (.cons a .nil)
theorem yy(O:XO w g c E X){st:Expr}(ha:PE X a (tE w g c E ia))(hs:jv st=true):PE X (.Subscript a (.Slice none none (some st) p2) pos) (tE w g c E (.rev ia)):=by
 obtain⟨k,p,q,rfl⟩:=yV hs;have hK:=O.K;refine PE.imp (DC ha (kK p7 o4)) λσ H Q ⟨τ,S,se,k⟩=>?_
 simp only[qo,zb,qX,zf,qT,zh,zg,zi,qG,qK,qO,qP,qL,qy,qN,qB,qx,qH,qz,ql,qI,qU,qC,qE,qW,qR,qQ,qS,qM,qV]at k;refine zd se k λda va H1 e1 p1 k1=>?_
 cases da with
 |tup xs=>
  obtain⟨l,vs,rfl,h1,r1⟩:=p1.rb.tup;refine⟨1,rfl,rfl,l,vs,rfl,by rw[hK];exact h1,λp hp=>?_⟩;exact k1 _ _ (bC.of (p1.same.trans (qY hp)) (gk (se.sub.same p1.same) hp r1.rev) rfl)
 |_=>exact k1.elim
end
section
variable{w:W}{g:Gc}{n:Nat}
noncomputable def cGb(n:Nat)(c:Cc)(f:Str)(as:List Expr)(gv:Option GK):Option E:=
 match gv with
  |some (.fn _)=>do
   let es <-cEs n c as
   if eP es && !as.isEmpty then some (.call f es)else none
  |some (.bi b)=>match rN c b as with
   |some a=>(cE n c a).map (.sset (b==.len))
   |none=>do
    let es <-cEs n c as
    if !as.isEmpty&&(c.calm||b==.len||b==.abs)then some (.bi b es)else none
  |some (.ty t (some b))=>match as with
   | [.Call (.Name g p) IC [] q]=>if loc c g==none&&glob c g==some .rng then (if c.calm&&(t == "tuple" ||t == "list")then (match IC with
     | [a]=>if isStar a then none else do
      let a <-cE n c a
      some (if t = "tuple" then .rtup (.rng a)else .rlst (.rng a))
     | [a,d]=>if isStar a||isStar d then none else do
      let a <-cE n c a
      let d <-cE n c d
      some (if t = "tuple" then .rtup (.rng2 a d)else .rlst (.rng2 a d))
     | [a,d,k]=>if isStar a||isStar d||isStar k then none else do
      let a <-cE n c a
      let d <-cE n c d
      let k <-cE n c k
      if t == "tuple" then some (.rtup (.rng3 a d k))else none
     |_=>none)
     else none)
    else do
     let es <-cEs n c as
     some (.bi b es)
   |_=>do
    let es <-cEs n c as
    if !as.isEmpty then some (.bi b es)else none
  |some .isi=>match as with
   | [a,k]=>do
    if isStar a then none else
    let a <-cE n c a
    let k <-jb c k
    some (.isi a k)
   |_=>none
  |_=>none
theorem Snd.call_name(ih:Snd w g n){c:Cc}{E:XK}{X:Cx}(O:XO w g c E X){f:Str}{p pos:Pos}{as:List Expr}{ir:EV.E}(h:cE (n+1) c (.Call (.Name f p) as [] pos)=some ir):PE X (.Call (.Name f p) as [] pos) (tE w g c E ir):=by
 replace h:(match loc c f with
  |some _=>none
  |none=>cGb n c f as (glob c f):Option EV.E)=some ir:=h
 cases Ke:loc c f with
 |some i=>rw[Ke]at h;cases h
 |none=>
  rw[Ke]at h;cases hg:glob c f with
  |none=>rw[hg]at h;exact oN h
  |some gv=>
   rw[hg]at h;cases gv
   case fn fr=>
    refine oC1 h λies h1 hc e_=>?_
    simp only[aL,bY]at hc;subst e_
    match as with
    | []=>simp at hc
    |e::es=>exact D8 O hg (ih.es O h1) hc.1 (gB h1)
   case bi b=>
    refine oC1 h λies h1 hc e_=>?_
    simp only[aL,bY,bQ,beq_iff_eq]at hc;subst e_
    match as with
    | []=>simp at hc
    |e::es=>exact EH O hg (by rcases hc.2 with (z|z)|z;exact .inl (O.calm z);exact .inr (.inl z);exact .inr (.inr z)) (ih.es O h1) (gB h1)
   case ty t ob=>
    cases ob
    case none=>exact oN h
    case some b=>
     have plain:∀{ies:Es},cEs n c as=some ies->as.isEmpty=false->PE X (.Call (.Name f p) as [] pos) (tE w g c E (.bi b ies)):=λ{ies} h1 he=>by
      match as with
      | []=>simp at he
      |e::es=>exact Fx O hg (ih.es O h1) (gB h1)
     have dv:(do
       let es <-cEs n c as
       if !as.isEmpty then some (.bi b es)else none:Option EV.E)=some ir->PE X (.Call (.Name f p) as [] pos) (tE w g c E ir):=λh=>by
      refine oC1 h λies h1 hc e_=>?_
      subst e_;exact plain h1 (by simpa using hc)
     rcases as with _|⟨a0,ar⟩
     ·exact dv h
     ·cases a0
      case Call fe IC ks q=>
       cases fe
       case Name y p'=>
        rcases ks with _|⟨k0,kr⟩
        ·rcases ar with _|⟨a1,ar⟩
         ·replace h:(if loc c y==none&&glob c y==some .rng then (if c.calm&&(t == "tuple" ||t == "list")then (match (generalizing:=false) IC with
             | [a]=>if isStar a then none else do
              let a <-cE n c a
              some (if t = "tuple" then .rtup (.rng a)else .rlst (.rng a))
             | [a,d]=>if isStar a||isStar d then none else do
              let a <-cE n c a
              let d <-cE n c d
              some (if t = "tuple" then .rtup (.rng2 a d)else .rlst (.rng2 a d))
             | [a,d,k]=>if isStar a||isStar d||isStar k then none else do
              let a <-cE n c a
              let d <-cE n c d
              let k <-cE n c k
              if t == "tuple" then some (.rtup (.rng3 a d k))else none
             |_=>none)
             else none)
            else do
             let es <-cEs n c [.Call (.Name y p') IC [] q]
             some (.bi b es):Option EV.E)=some ir:=h
          split at h
          ·rename_i hr
           simp only[aL,beq_iff_eq]at hr;split at h
           ·rename_i hc
            simp only[aL,bQ,beq_iff_eq]at hc;split at h
            ·rename_i a
             split at h
             ·exact oN h
             ·rename_i hs
              have hs:isStar a=false:=by simpa using hs
              refine oK1 h λia h1 e_=>?_
              subst e_;exact tG O (O.calm hc.1) hg hr.2 (C_ (ih.e O h1) hs) (by intro z hz;simp at hz;rw[hz];exact hs) hc.2 CN
            ·rename_i a d
             split at h
             ·exact oN h
             ·rename_i hs
              have hs:isStar a=false/\isStar d=false:=by simpa using hs
              refine oK2 h λia ib h1 h2 e_=>?_
              subst e_;exact tG O (O.calm hc.1) hg hr.2 (zF (ih.e O h1) (zF (ih.e O h2) eB (qu hs.2)) (qu hs.1)) (by intro z hz;simp at hz;rcases hz with rfl|rfl;exact hs.1;exact hs.2) hc.2 Fh
            ·rename_i a d k
             split at h
             ·exact oN h
             ·rename_i hs
              have hs:(isStar a=false/\isStar d=false)/\isStar k=false:=by simpa[and_assoc]using hs
              refine oC3 h λia ib id h1 h2 h3 ht e_=>?_
              have ht:=eq_of_beq ht;subst ht;subst e_;exact wR O (O.calm hc.1) hg hr.2 (ih.e O h1) (ih.e O h2) (ih.e O h3) hs.1.1 hs.1.2 hs.2
            ·exact oN h
           ·exact oN h
          ·refine oK1 h λies h1 e_=>?_
           subst e_;exact plain h1 rfl
         ·exact dv h
        ·exact dv h
       all_goals exact dv h
      all_goals exact dv h
   case isi=>
    rcases as with _|⟨a,_|⟨k,_|_⟩⟩
    ·exact oN h
    ·exact oN h
    ·replace h:(do
       if isStar a then none else
       let a <-cE n c a
       let k <-jb c k
       some (.isi a k):Option EV.E)=some ir:=h
     split at h
     ·exact oN h
     ·rename_i hs
      refine oK2 h λia cl h1 h2 e_=>?_
      subst e_;exact wN O hg (ih.e O h1) h2 (by simpa using hs)
    ·exact oN h
   all_goals exact oN h
theorem jX:∀{n:Nat}{c:Cc}{l:List Expr}{es:Es},cEs n c l=some es->l.length<=n
 | 0,_,_,_,h=>by simp[cEs]at h
 |n+1,_,[],_,_=>by simp
 |n+1,c,x::l,es,h=>by
  have hs:=gB h x aQ;simp only[cEs,hs,bL,if_false,bX,bD]at h;obtain⟨_,_,r,hr,_⟩:=h;have:=jX hr
  simpa using this
theorem oj{c:Cc}{elt:Expr}{gs:List cJ}{sc:a9}{p:Pos}{ir:EV.E}(h:cE (n+1) c (.ListComp elt gs sc p)=some ir) :
  ∃Gk it ifs GB Gw HY ie,gs=[⟨Gk,it,ifs,0⟩]/\(c.calm=true/\zp it=true)/\(ip (λx=>c.nm.lookup x) c.N (zV sc.names) (gI c sc.names) sc=true/\(zV sc.names).Nodup)/\cI n c it=some GB/\cTg (dX c sc) Gk=some Gw/\fM n (dX c sc) ifs=some HY/\cE n (dX c sc) elt=some ie/\(esc ie=true/\gf GB Gk=true)/\ir=.comp GB (gI c sc.names) Gw HY ie:=by
 rcases gs with _|⟨⟨Gk,it,ifs,Kt⟩,_|_⟩
 ·exact oN h
 ·replace h:(do
    if !(Kt==0) || !c.calm || !zp it then none else
    let c':Cc:={c with nm:=jA sc.names c.nm,N:=zV sc.names,fnc:=false,oc:=iq sc.names}
    let cap:=gI c sc.names
    if !ip (λx=>c.nm.lookup x) c.N (zV sc.names) cap sc || !decide (zV sc.names).Nodup then none else
    let it <-cI n c it
    let tg <-cTg c' Gk
    let t <-fM n c' ifs
    let elt <-cE n c' elt
    if esc elt&&gf it Gk then some (.comp it cap tg t elt)else none:Option EV.E)=some ir:=h
  dsimp only at h;split at h
  ·exact oN h
  ·rename_i hs
   have hs:(Kt=0/\c.calm=true)/\zp it=true:=by simpa using hs
   obtain⟨⟨rfl,Ij⟩,IJ⟩:=hs;split at h
   ·exact oN h
   ·rename_i hk
    have hk:ip (λx=>c.nm.lookup x) c.N (zV sc.names) (gI c sc.names) sc=true/\(zV sc.names).Nodup:=by simpa using hk
    refine oC4 h λGB Gw HY ie h1 h2 h3 h4 he e_=>?_
    simp only[aL]at he;subst e_;exact⟨Gk,it,ifs,GB,Gw,HY,ie,rfl,⟨Ij,IJ⟩,hk,h1,h2,h3,h4,he,rfl⟩
 ·exact oN h
theorem Snd.e_succ(ih:Snd w g n)(hn:n<=100000){c:Cc}{E:XK}{X:Cx}(O:XO w g c E X){x:Expr}{ir:EV.E}(h:cE (n+1) c x=some ir):PE X x (tE w g c E ir):=by
 cases x
 case Name x p1=>
  cases hl:loc c x with
  |some i=>
   have:=tQ (w:=w) (E:=E) (pos:=p1) O hl
   replace h:(match (generalizing:=false) loc c x with
     |some i=>if c.own.contains x then some (.own i)else some (.var i)
     |none=>match (generalizing:=false) glob c x with
      |some .val=>some (.glb x)
      |some (.fn _)=>none
      |_=>none:Option EV.E)=some ir:=h
   rw[hl]at h;cases ho:c.own.contains x with
   |true=>rw[ho]at h this;cases h;exact this
   |false=>rw[ho]at h this;cases h;exact this
  |none=>
   replace h:(match (generalizing:=false) loc c x with
     |some i=>if c.own.contains x then some (.own i)else some (.var i)
     |none=>match (generalizing:=false) glob c x with
      |some .val=>some (.glb x)
      |some (.fn _)=>none
      |_=>none:Option EV.E)=some ir:=h
   rw[hl]at h;cases hg:glob c x with
   |none=>rw[hg]at h;exact oN h
   |some gv=>
    rw[hg]at h;cases gv
    case val=>cases h;exact wK O hg
    all_goals exact oN h
 case Constant k p1 p2=>
  cases k
  case int=>
   cases h;exact jR o4 λ_=>.int _
  case bool=>
   cases h;exact jR EC λ_=>.bl _
  case none=>
   cases h;exact jR FA λ_=>.non
  case str=>
   cases h;exact jR xV λ_=>.str _
  all_goals exact oN h
 case BinOp a op b p3=>
  refine oK3 h λo ia ib ho h1 h2 e_=>?_
  subst e_;exact Cv O ho (ih.e O h1) (ih.e O h2)
 case UnaryOp op a p=>
  refine oB1 h λia h1 h=>?_
  cases op with
  |USub=>cases h;exact vJ (ih.e O h1)
  |Invert=>cases h;exact Bf (ih.e O h1)
  |Not=>cases h;exact xf (ih.e O h1)
  |UAdd=>exact oN h
 case BoolOp op vs p2=>
  exact(ih.bo O h).1
 case Attribute a f p2=>
  cases a
  case Name x q0=>
   replace h:(match (generalizing:=false) loc c x with
     |some i=>if c.own.contains x then none else some (.fld (.var i) f)
     |none=>none:Option EV.E)=some ir:=h
   cases hl:loc c x with
   |none=>rw[hl]at h;exact oN h
   |some i=>
    rw[hl]at h;cases ho:c.own.contains x with
    |true=>rw[ho]at h;cases h
    |false=>
     rw[ho]at h;cases h;have:=tQ (w:=w) (E:=E) (pos:=q0) O hl;rw[ho]at this;exact AK O rfl this
  all_goals exact oN h
 case Compare a ops bs p3=>
  rcases ops with _|⟨o,_|⟨o',_|⟨J0,_|_⟩⟩⟩
  ·exact oN h
  ·rcases bs with _|⟨b,_|_⟩
   ·exact oN h
   ·refine oC2 h λia ib h1 h2 hs e_=>?_
    subst e_;exact Dt O (ih.e O h1) (ih.e O h2) hs
   ·exact oN h
  ·rcases bs with _|⟨b,_|⟨d,_|_⟩⟩
   ·exact oN h
   ·exact oN h
   ·refine oC3 h λia ib id' h1 h2 h3 hs e_=>?_
    simp only[aL]at hs;subst e_;exact AH O (ih.e O h1) (ih.e O h2) (ih.e O h3) hs.2
   ·exact oN h
  ·rcases bs with _|⟨b,_|⟨d,_|⟨f,_|_⟩⟩⟩
   ·exact oN h
   ·exact oN h
   ·exact oN h
   ·refine oC4 h λia ib id' if' h1 h2 h3 h4 hs e_=>?_
    simp only[aL]at hs;subst e_;exact BS O (ih.e O h1) (ih.e O h2) (ih.e O h3) (ih.e O h4) hs.2
   ·exact oN h
  ·exact oN h
 case Dict ks vs p2=>
  replace h:(if ks.isEmpty&&vs.isEmpty then some .dic else none:Option EV.E)=some ir:=h
  split at h
  ·rename_i hk
   simp only[aL,List.isEmpty_iff]at hk;obtain⟨rfl,rfl⟩:=hk;cases h;exact CW
  ·exact oN h
 case IfExp t a b p3=>
  refine oC3 h λit ia ib h1 h2 h3 hs e_=>?_
  simp only[aL]at hs;subst e_;exact AW (ih.t O h1) (ih.e O h2) (ih.e O h3) hs.1 hs.2
 case Tuple es p1 p2=>
  refine oC1 h λies h1 hs e_=>?_
  subst e_;exact yG (ih.es O h1) hs λτ ds e=>by rw[ll h1 e];exact br (jX h1) hn
 case List es p1=>
  refine oC1 h λies h1 hs e_=>?_
  subst e_;exact uT (ih.es O h1) hs λτ ds e=>by rw[ll h1 e];exact br (jX h1) hn
 case Subscript a b p2=>
  have ix:isSlice b=false->(do
    let a <-cE n c a
    let b <-cE n c b
    some (.ix a b):Option EV.E)=some ir->PE X (.Subscript a b p2) (tE w g c E ir):=λhs h=>by
   refine oK2 h λia ib h1 h2 e_=>?_
   subst e_;exact vp O (ih.e O h1) (ih.e O h2) (hs)
  cases b
  case Slice lo hi st sp=>
   cases st with
   |some s=>
    replace h:(if lo.isNone&&hi.isNone&&jv s then (cE n c a).map .rev else none:Option EV.E)=some ir:=h
    split at h
    ·rename_i hq
     simp only[aL,Option.isNone_iff_eq_none]at hq;obtain⟨⟨rfl,rfl⟩,hq⟩:=hq;rw[bI]at h;obtain⟨ia,h1,rfl⟩:=h;exact yy O (ih.e O h1) hq
    ·exact oN h
   |none=>
    refine oK3 h λia il ih' h1 h2 h3 e_=>?_
    subst e_;exact vv O (ih.e O h1) (ih.o O h2) (ih.o O h3)
  all_goals exact ix rfl h
 case ListComp elt gs sc p=>
  obtain⟨Gk,it,ifs,GB,Gw,HY,ie,rfl,hs,hk,h1,h2,h3,h4,he,rfl⟩:=oj h;have hS:ez X (zV sc.names) (gI c sc.names) sc:=ez.of (by
   have e1:(λx=>c.nm.lookup x)=X.env.kindOf:=by funext x;show _=X.env.scope.names.lookup x;rw[O.nm]
   rw[<-e1,O.N];exact hk.1)
  refine DU O (O.calm hs.1) hS hk.2 (ih.i O h1 he.2) (λcl C s₀ H₀ fp=>?_) he.1 hs.2;have OY:=O.comp hS.kind hk.2 cl C s₀ H₀ fp;exact⟨jU OY h2,ih.ifs OY h3,ih.e OY h4⟩
 case Call fe as ks cp=>
  rcases ks with _|⟨⟨kn,kv,kp⟩,_|_⟩
  ·cases fe
   case Name=>exact ih.call_name O h
   case Attribute o m ap=>
    replace h:(match (generalizing:=false) cMt c o m ap as cp with
      |some e=>some e
      |none=>none:Option EV.E)=some ir:=h
    cases hm:cMt c o m ap as cp with
    |none=>rw[hm]at h;exact oN h
    |some e=>rw[hm]at h;cases h;exact BC O hm
   all_goals exact oN h
  ·cases fe
   case Name f fp=>
    cases kv
    case Name y yp=>
     rcases as with _|⟨a,_|_⟩
     ·exact oN h
     ·replace h:(do
        if isStar a || !c.calm || !(kn==some "key") || !(loc c f==none) || !(glob c y==some (.bi .len)) || !(loc c y==none)then none else
        let a' <-cE n c a
        if glob c f==some (.bi .max)then some (.mxk true a')else if glob c f==some (.bi .min)then some (.mxk false a')else none:Option EV.E)=some ir:=h
      split at h
      ·exact oN h
      ·rename_i hc
       simp only[bQ,bY,not_or,Bool.not_eq_true,Bool.not_eq_false]at hc;refine oB1 h λia h1 h=>?_
       obtain⟨⟨⟨⟨⟨c1,c2⟩,c3⟩,c4⟩,c5⟩,c6⟩:=hc;have c3:=eq_of_beq c3;subst c3;split at h
       ·rename_i hg
        cases h;exact nv O (O.calm c2) true (eq_of_beq hg) (eq_of_beq c5) (ih.e O h1) c1
       ·split at h
        ·rename_i hg
         cases h;exact nv O (O.calm c2) false (eq_of_beq hg) (eq_of_beq c5) (ih.e O h1) c1
        ·exact oN h
     ·exact oN h
    all_goals exact oN h
   all_goals exact oN h
  ·exact oN h
 all_goals exact oN h
theorem vj:Snd w g 0:=⟨λ_ _ _ h=>(by cases h),λ_ _ _ _ _ h=>(by cases h),λ_ _ _ h=>(by cases h),λ_ _ _ h=>(by cases h),λ_ _ _ _ h=>(by cases h),λ_ _ _ h=>(by cases h),λ_ _ _ _ _ h=>(by cases h),λ_ _ _ h=>(by cases h)⟩
theorem snd:∀n,n<=100000->Snd w g n
 | 0,_=>vj
 |n+1,h=>
  have ih:=snd n (Nat.le_of_succ_le h)
  ⟨λO _ _ q=>ih.e_succ (Nat.le_of_succ_le h) O q,λO _ _ _ _ q=>ih.bo_succ O q,λO _ _ q=>ih.o_succ O q,λO _ _ q=>ih.es_succ O q,λO _ _ _ q t=>ih.i_succ O q t,λO _ _ q=>ih.t_succ O q,λO _ _ _ _ q=>ih.ts_succ O q,λO _ _ q=>ih.ifs_succ O q⟩
end
def zA(c:Cc)(i:Nat):Prop:=∃x,c.N[i]? = some x/\c.own.contains x=true
structure SS(g:Gc)(c:Cc)(H0:Hp)(B:Sh)(τ:Env)(σ:L2.St)(H:Hp)(S:Sh):Prop where
 se:SE g c τ σ H S
 lenN:τ.length=c.N.length
 same:qf H0 H
 sub0:Sub B H0
 hd:∀a,S.h a=(B.h a||S.o a)
 new:∀a,S.o a=true->H0 a=none
 own:∀i d,zA c i->τ[i]? = some (some d)->∃a vs ds,σ[i]? = some (some (.ref a))/\S.o a=true/\d=.lst ds/\H a=some (.lst vs)/\qq g (hid H S) ds vs
 inj:∀i j d e a,zA c i->zA c j->τ[i]? = some (some d)->τ[j]? = some (some e)->σ[i]? = some (some (.ref a))->σ[j]? = some (some (.ref a))->i=j
 frz:c.frz=true->(∀i,zA c i->σ[i]? = B.z[i]?)/\qf B.y H
section
variable{g:Gc}{c:Cc}{H0:Hp}{B:Sh}{τ:Env}{σ:L2.St}{H H':Hp}{S:Sh}
theorem SS.up(s:SS g c H0 B τ σ H S)(e:qf H H'):SS g c H0 B τ σ H' S:=
 ⟨s.se.up e,s.lenN,s.same.trans e,s.sub0,s.hd,s.new,λi d hi h=>let ⟨a,vs,ds,h1,h2,h3,h4,h5⟩:=s.own i d hi h;⟨a,vs,ds,h1,h2,h3,e _ _ h4,h5.mono (qZ e)⟩,s.inj,λz=>⟨(s.frz z).1,(s.frz z).2.trans e⟩⟩
theorem SS.set{i:Nat}{d:D}{v:V}(s:SS g c H0 B τ σ H S)(hi:¬ zA c i)(r:Rep g (hid H S) d v):SS g c H0 B (τ.set i (some d)) (σ.set i (some v)) H S:=by
 refine⟨s.se.set r,by simp[s.lenN],s.same,s.sub0,s.hd,s.new,λj e hj h=>?_,λj k e f a hj hk h1 h2 h3 h4=>?_,λz=>⟨λj hj=>?_,(s.frz z).2⟩⟩
 ·have Ge:i≠j:=λz=>hi (z▸hj)
  rw[List.getElem?_set_ne Ge]at h ⊢;exact s.own j e hj h
 ·have Ge:i≠j:=λz=>hi (z▸hj)
  have HS:i≠k:=λz=>hi (z▸hk)
  rw[List.getElem?_set_ne Ge]at h1 h3;rw[List.getElem?_set_ne HS]at h2 h4;exact s.inj j k e f a hj hk h1 h2 h3 h4
 ·rw[List.getElem?_set_ne (λz:i=j=>hi (z▸hj))];exact(s.frz z).1 j hj
theorem SS.setAll{is:List Nat}:∀{ds:List D}{vs:List V}{τ τ':Env}{σ:L2.St}{Q:L2.St->Hp->Prop},SS g c H0 B τ σ H S->(∀i∈is,¬ zA c i)->qq g (hid H S) ds vs->EV.setAll is ds τ=.ok τ'->(∀σ',SS g c H0 B τ' σ' H S->Q σ' H)->iM is vs σ H Q:=by
 induction is with
 |nil=>
  intro ds vs τ τ' σ Q se _ r h k;cases r with
  |nil=>cases (show R.ok τ=R.ok τ' from h);exact⟨rfl,k σ se⟩
  |cons _ _=>cases (show R.no=R.ok τ' from h)
 |cons i is ih=>
  intro ds vs τ τ' σ Q se ho r h k;cases r with
  |nil=>cases (show R.no=R.ok τ' from h)
  |cons r rs=>exact⟨_,_,rfl,ih (se.set (ho i aQ) r) (λj hj=>ho j (aO _ hj)) rs h k⟩
theorem uu{tg:Tg}(h:iL c tg):match tg with | .nm i=>¬ zA c i | .tp is=>∀i∈is,¬ zA c i:=by
 cases tg with
 |nm i=>rintro⟨x,h1,h2⟩;rw[h x h1]at h2;cases h2
 |tp is=>rintro i hi ⟨x,h1,h2⟩;rw[h i hi x h1]at h2;cases h2
theorem SS.store{X:Cx}(O:X.K=g.K){tg:Tg}{d:D}{v:V}{τ':Env}{Q:L2.St->Hp->Prop}(s:SS g c H0 B τ σ H S)(hf:iL c tg)(r:Rep g (hid H S) d v)(h:EV.store tg d τ=.ok τ')(k:∀σ',SS g c H0 B τ' σ' H S->Q σ' H):gT X.K tg v σ H Q:=by
 have ho:=uu hf;cases tg with
 |nm i=>
  simp only[EV.store,R.ok.injEq]at h;subst h;exact k _ (s.set ho r)
 |tp is=>
  cases d with
  |tup ds=>
   simp only[EV.store]at h;split at h
   ·rename_i hl
    cases r with
    |tup h1 r1=>exact⟨_,_,rfl,by rw[O];exact zu zz h1,by rw[<-r1.length];exact hl,s.setAll ho r1 h k⟩
   ·cases h
  |_=>simp[EV.store]at h
noncomputable def sd(S:Sh)(a:Addr):Sh:=⟨λb=>S.o b||b==a,λb=>S.h b||b==a,S.z,S.y⟩
theorem SS.setOwn{i:Nat}{d:D}{v:V}(s:SS g c H0 B τ σ H S)(hz:c.frz=false)(hi:zA c i)(Gg:i<τ.length)(e:qf H H')(f:Fr g H S H' d v):∃S',SS g c H0 B (τ.set i (some d)) (σ.set i (some v)) H' S'/\qf (hid H S) (hid H' S'):=by
 obtain⟨a,vs,ds,rfl,rfl,h1,h2,h3⟩:=f;have up:qf (hid H S) (hid H' (sd S a)):=λb o hb=>by
  obtain⟨z1,z2⟩:=bW.mp hb;refine bW.mpr ⟨?_,e _ _ z2⟩;show (S.h b||b==a)=false;rw[z1]
  simpa using λz:b=a=>by rw[z,h1]at z2;cases z2
 have G9:i<σ.length:=by rw[<-s.se.len];exact Gg
 refine⟨sd S a,⟨⟨by simp[s.se.len],λj e' hj=>?_,λb hb n=>?_⟩,by simp[s.lenN],s.same.trans e,s.sub0,λb=>?_,λb hb=>?_,λj e' hj h=>?_,λj k e1 e2 b hj hk q1 q2 q3 q4=>?_,λz=>by rw[hz]at z;cases z⟩,up⟩
 ·by_cases Ge:i=j
  ·subst Ge;simp[Gg]at hj;subst hj;refine⟨.ref a,by simp[G9],.inr ⟨a,vs,ds,by show (S.o a||a==a)=true;simp,rfl,rfl,h2,h3⟩,λx hx hn=>?_⟩;obtain⟨y,Kf,IE⟩:=hi;rw[Kf]at hx;cases hx;rw[hn]at IE;cases IE
  ·rw[List.getElem?_set_ne Ge]at hj ⊢;obtain⟨u,z1,z2,z3⟩:=s.se.val j e' hj;refine⟨u,z1,?_,λx hx hn=>(z3 x hx hn).mono up⟩;rcases z2 with z2|⟨a',HZ,Je,y1,y2,y3,y4,y5⟩
   ·exact .inl (z2.mono up)
   ·exact .inr ⟨a',HZ,Je,by show (S.o a'||a'==a)=true;rw[y1];rfl,y2,y3,e _ _ y4,y5.mono up⟩
 ·have hb:(S.h b||b==a)=true\/(S.o b||b==a)=true:=hb;by_cases HG:b=a
  ·rw[HG,h2]at n;cases n
  ·have:S.h b=true\/S.o b=true:=by
    rcases hb with z|z
    ·exact .inl (by simpa[HG]using z)
    ·exact .inr (by simpa[HG]using z)
   exact(s.se.sub.same e) b this n
 ·show (S.h b||b==a)=(B.h b||(S.o b||b==a))
  rw[s.hd b,Bool.or_assoc]
 ·have hb:(S.o b||b==a)=true:=hb;by_cases HG:b=a
  ·rw[HG];exact s.same.free h1
  ·exact s.new b (by simpa[HG]using hb)
 ·by_cases Ge:i=j
  ·subst Ge;simp[Gg]at h;subst h;exact⟨a,vs,ds,by simp[G9],by show (S.o a||a==a)=true;simp,rfl,h2,h3⟩
  ·rw[List.getElem?_set_ne Ge]at h ⊢;obtain⟨a',HZ,Je,y1,y2,y3,y4,y5⟩:=s.own j e' hj h;exact⟨a',HZ,Je,y1,by show (S.o a'||a'==a)=true;rw[y2];rfl,y3,e _ _ y4,y5.mono up⟩
 ·have other:∀j e1 b,i≠j->zA c j->τ[j]? = some (some e1)->σ[j]? = some (some (.ref b))->b≠a:=λj e1 b Ge hj q1 q3 z=>by
   obtain⟨a',HZ,Je,y1,y2,y3,y4,y5⟩:=s.own j e1 hj q1;rw[q3]at y1;cases y1;rw[z,h1]at y4;cases y4
  by_cases Ge:i=j
  ·by_cases HS:i=k
   ·rw[<-Ge,<-HS]
   ·subst Ge;rw[List.getElem?_set_ne HS]at q2 q4;have O4:b=a:=by
     have:(σ.set i (some (.ref a)))[i]? = some (some (.ref a)):=by simp[G9]
     rw[this]at q3;cases q3;rfl
    exact absurd O4 (other k e2 b HS hk q2 q4)
  ·by_cases HS:i=k
   ·subst HS;rw[List.getElem?_set_ne Ge]at q1 q3;have O5:b=a:=by
     have:(σ.set i (some (.ref a)))[i]? = some (some (.ref a)):=by simp[G9]
     rw[this]at q4;cases q4;rfl
    exact absurd O5 (other j e1 b Ge hj q1 q3)
   ·rw[List.getElem?_set_ne Ge]at q1 q3;rw[List.getElem?_set_ne HS]at q2 q4;exact s.inj j k e1 e2 b hj hk q1 q2 q3 q4
theorem SS.change{i:Nat}{a:Addr}{d0:D}{vs:List V}{ds:List D}(s:SS g c H0 B τ σ H S)(hz:c.frz=false)(hi:zA c i)(h0:τ[i]? = some (some d0))(ha:σ[i]? = some (some (.ref a)))(r:qq g (hid H S) ds vs):SS g c H0 B (τ.set i (some (.lst ds))) σ (upd H a (.lst vs)) S/\qf (hid H S) (hid (upd H a (.lst vs)) S):=by
 have Gg:i<τ.length:=(List.getElem?_eq_some_iff.mp h0).1;obtain⟨a',OV,QJ,y1,y2,y3,y4,y5⟩:=s.own i d0 hi h0;rw[ha]at y1;cases y1;have hh:S.h a=true:=by rw[s.hd,y2,Bool.or_true]
 have he:hid (upd H a (.lst vs)) S=hid H S:=iJ hh;have other:∀j e,i≠j->zA c j->τ[j]? = some (some e)->∀b,σ[j]? = some (some (.ref b))->b≠a:=λj e Ge hj h b hb z=>by
  subst z;exact Ge (s.inj i j d0 e b hi hj h0 h ha hb)
 refine⟨⟨⟨by simp[s.se.len],λj e hj=>?_,λb hb n=>?_⟩,by simp[s.lenN],λb o hb=>?_,s.sub0,s.hd,s.new,λj e hj h=>?_,λj k e1 e2 b hj hk q1 q2 q3 q4=>?_,λz=>by rw[hz]at z;cases z⟩,by rw[he];exact qf.refl _⟩
 ·by_cases Ge:i=j
  ·subst Ge;simp[Gg]at hj;subst hj;refine⟨.ref a,ha,.inr ⟨a,vs,ds,y2,rfl,rfl,zo,by rw[he];exact r⟩,λx hx hn=>?_⟩;obtain⟨y,Kf,IE⟩:=hi;rw[Kf]at hx;cases hx;rw[hn]at IE;cases IE
  ·rw[List.getElem?_set_ne Ge]at hj;obtain⟨u,z1,z2,z3⟩:=s.se.val j e hj;by_cases ho:zA c j
   ·obtain⟨b,ws,es,w1,w2,w3,w4,w5⟩:=s.own j e ho hj;rw[z1]at w1;cases w1;refine⟨_,z1,.inr ⟨b,ws,es,w2,rfl,w3,by rw[qg (other j e Ge ho hj b z1)];exact w4,by rw[he];exact w5⟩,λx hx hn=>?_⟩;obtain⟨y,Kf,IE⟩:=ho;rw[Kf]at hx;cases hx;rw[hn]at IE;cases IE
   ·have st:Rep g (hid H S) e u:=by
     cases q:c.N[j]? with
     |some x=>
      refine z3 x q ?_;cases q2:c.own.contains x with
      |false=>rfl
      |true=>exact absurd ⟨x,q,q2⟩ ho
     |none=>
      have h1:=(List.getElem?_eq_some_iff.mp hj).1;have h2:=List.getElem?_eq_none_iff.mp q;have h3:=s.lenN;lia
    exact⟨u,z1,.inl (by rw[he];exact st),λ_ _ _=>by rw[he];exact st⟩
 ·by_cases HG:b=a
  ·subst HG;rw[zo]at n;cases n
  ·rw[qg HG]at n;exact s.se.sub b hb n
 ·by_cases HG:b=a
  ·subst HG;rw[s.new b y2]at hb;cases hb
  ·rw[qg HG];exact s.same _ _ hb
 ·by_cases Ge:i=j
  ·subst Ge;simp[Gg]at h;subst h;exact⟨a,vs,ds,ha,y2,rfl,zo,by rw[he];exact r⟩
  ·rw[List.getElem?_set_ne Ge]at h;obtain⟨b,ws,es,w1,w2,w3,w4,w5⟩:=s.own j e hj h;exact⟨b,ws,es,w1,w2,w3,by rw[qg (other j e Ge hj h b w1)];exact w4,by rw[he];exact w5⟩
 ·have f:∀k e,(τ.set i (some (.lst ds)))[k]? = some (some e)->∃e',τ[k]? = some (some e'):=λk e h=>by
   by_cases HS:i=k
   ·subst HS;exact⟨d0,h0⟩
   ·rw[List.getElem?_set_ne HS]at h;exact⟨e,h⟩
  obtain⟨J3,O6⟩:=f j e1 q1;obtain⟨J4,O7⟩:=f k e2 q2;exact s.inj j k J3 J4 b hj hk O6 O7 q3 q4
end
def cg(g:Gc)(c:Cc)(E:XK)(fr:Bool)(H0:Hp)(B:Sh)(H:Hp)(S:Sh)(D:Ends):O->Prop
 | .nx τ'=>∀σ' H' S',SS g c H0 B τ' σ' H' S'->qf (hid H S) (hid H' S')->D.nx σ' H'
 | .bk τ'=>∀σ' H' S',SS g c H0 B τ' σ' H' S'->qf (hid H S) (hid H' S')->D.bk σ' H'
 | .ct τ'=>∀σ' H' S',SS g c H0 B τ' σ' H' S'->qf (hid H S) (hid H' S')->D.ct σ' H'
 | .rt d=>∀v H',qf H0 H'->Rep g (hid H' B) d v->(fr=true->Fr g H0 B H' d v)->D.rt v H'
 | .ex k=>∀H' C dx,qf H0 H'->g.clA k.nm=some C->fj H0 H' dx k.fs->E (.ref C) dx H'
 | .no=>False
section
variable(w:W)(g:Gc)(c:Cc)(E:XK)(fr:Bool)
def tS(s:EV.S):TS:=λD σ H=>∃H0 B τ S,SS g c H0 B τ σ H S/\cg g c E fr H0 B H S D (evS w s τ)
def tSs(s:Ss):TS:=λD σ H=>∃H0 B τ S,SS g c H0 B τ σ H S/\cg g c E fr H0 B H S D (qe w s τ)
end
structure XS(w:W)(g:Gc)(c:Cc)(E:XK)(X:Cx):Prop extends XO w g c E X where
 thr:c.thr=true->Throws X E
 exc:∀x C,c.G.lookup x=some .exc->g.clA x=some C->pE g.K C
 cat:∀k x,w.cat k x=true->∀C D,g.clA k=some C->g.clA x=some D->cz g.K (.ref C) (.ref D)=some true
 frm:X.ex=[]/\X.stack=X.env::X.outer/\X.env.frame=some X.env.locals
 gh:∀x k,c.GH.lookup x=some k->k≠.exc/\∀v,GM w g X.prog X.w X.mg X.base (X.A.mark v) false x k
section
variable{w:W}{g:Gc}{c:Cc}{E:XK}{fr:Bool}{X:Cx}{H0:Hp}{B:Sh}{τ:Env}{σ:L2.St}{H H':Hp}{S:Sh}{Ed:Ends}
theorem cg.up{o:O}{S':Sh}(h:cg g c E fr H0 B H S Ed o)(e:qf (hid H S) (hid H' S')):cg g c E fr H0 B H' S' Ed o:=by
 cases o with
 |nx t=>exact λσ' H2 S2 s e2=>h σ' H2 S2 s (e.trans e2)
 |bk t=>exact λσ' H2 S2 s e2=>h σ' H2 S2 s (e.trans e2)
 |ct t=>exact λσ' H2 S2 s e2=>h σ' H2 S2 s (e.trans e2)
 |rt d=>exact h
 |ex k=>exact h
 |no=>exact h
theorem s_e{e:EV.E}{f:D->O}{Q:VK}(ss:SS g c H0 B τ σ H S)(h:cg g c E fr H0 B H S Ed ((evE w e τ).out f))(k:∀d v H',evE w e τ=.ok d->bC g c e S H d v H'->cg g c E fr H0 B H S Ed (f d)->Q v H'):tE w g c E e σ H Q:=by
 refine⟨τ,S,ss.se,?_⟩;cases q:evE w e τ with
 |ok d=>rw[q]at h;exact λv H' p=>k d v H' q p h
 |ex x=>rw[q]at h;exact λH' C dx s hc hx=>h H' C dx (ss.same.trans s) hc (hx.low ss.same)
 |no=>rw[q]at h;exact h
theorem s_t{t:T}{f:Bool->O}{Q:Bool->Hp->Prop}(ss:SS g c H0 B τ σ H S)(h:cg g c E fr H0 B H S Ed ((evT w t τ).out f))(k:∀b H',evT w t τ=.ok b->qf H H'->cg g c E fr H0 B H S Ed (f b)->Q b H'):tT w g c E t σ H Q:=by
 refine⟨τ,S,ss.se,?_⟩;cases q:evT w t τ with
 |ok d=>rw[q]at h;exact λH' p=>k d H' q p h
 |ex x=>rw[q]at h;exact λH' C dx s hc hx=>h H' C dx (ss.same.trans s) hc (hx.low ss.same)
 |no=>rw[q]at h;exact h
theorem s_a{es:Es}{f:List D->O}{Q:List V->Hp->Prop}(ss:SS g c H0 B τ σ H S)(h:cg g c E fr H0 B H S Ed ((qD w es τ).out f))(k:∀ds vs H',qD w es τ=.ok ds->qf H H'->eN g H' S ds vs->cg g c E fr H0 B H S Ed (f ds)->Q vs H'):tA w g c E es σ H Q:=by
 refine⟨τ,S,ss.se,?_⟩;cases q:qD w es τ with
 |ok d=>rw[q]at h;exact λvs H' p r _=>k d vs H' q p r h
 |ex x=>rw[q]at h;exact λH' C dx s hc hx=>h H' C dx (ss.same.trans s) hc (hx.low ss.same)
 |no=>rw[q]at h;exact h
theorem oK(ss:SS g c H0 B τ σ H S){b:Addr}(h:S.h b=false):B.h b=false:=by
 have:=ss.hd b;rw[h]at this;cases q:B.h b with
 |false=>rfl
 |true=>rw[q]at this;cases this
theorem El(ss:SS g c H0 B τ σ H S):qf (hid H' S) (hid H' B):=λb o h=>by
 obtain⟨z1,z2⟩:=bW.mp h;exact bW.mpr ⟨oK ss z1,z2⟩
theorem nQ:∀{is:List Nat}{ds:List EV.D}{τ:Env}{x:Xc},setAll is ds τ≠.ex x
 | [],[],_,_,h=>by cases h
 | [],_::_,_,_,h=>by cases h
 |_::_,[],_,_,h=>by cases h
 |i::is,d::ds,τ,x,h=>by simp only[setAll]at h;exact nQ h
theorem kC{e:Expr}{t:Option Expr}{l:Nat}{env:PySem.Env}(h:fG e=false):swapsWith e t l env=pure false:=by
 cases e<;>first|rfl|(exact Bool.noConfusion h)
theorem ve{e:Expr}{ie:EV.E}{pos:Pos}(he:PE X e (tE w g c E ie))(hc:fG e=false):PS X (.Expr e pos) (tS w g c E fr (.exp ie)):=
 PS.imp (tL he (kC hc)) λD σ H ⟨H0,B,τ,S,ss,h⟩=>by
  simp only[zr,cU,cL,cV,zm,cX,zO,cQ,dj,zM,zI,zS,zT,zU,zN]at h;exact s_e ss h λd v H' _ p k=>k σ H' S (ss.up p.same) (qZ p.same)
theorem CO{pos:Pos}(hf:fr=false):PS X (.Return none pos) (tS w g c E fr .retN):=PS.imp xw λD σ H ⟨H0,B,τ,S,ss,h⟩=>h _ _ ss.same .non (by rw[hf];intro z;cases z)
theorem lI(ss:SS g c H0 B τ σ H S){a:Addr}{vs:List V}{ds:List EV.D}(h1:H0 a=none)(h2:H' a=some (.lst vs))(h3:qq g (hid H' (cR S a)) ds vs):Rep g (hid H' B) (.lst ds) (.ref a)/\Fr g H0 B H' (.lst ds) (.ref a):=by
 have up:qf (hid H' (cR S a)) (hid H' (cR B a)):=λb o hb=>by
  obtain⟨z1,z2⟩:=bW.mp hb;refine bW.mpr ⟨?_,z2⟩;have z1:(S.h b||b==a)=false:=z1;simp only[Bool.or_eq_false_iff]at z1;show (B.h b||b==a)=false;rw[oK ss z1.1,z1.2];rfl
 exact⟨.lst (SqL.of (bW.mpr ⟨ss.sub0.free h1,h2⟩)) (h3.mono (up.trans tP)),⟨a,vs,ds,rfl,rfl,h1,h2,h3.mono up⟩⟩
theorem pZ(ss:SS g c H0 B τ σ H S){a:Addr}{vs:List V}{ds:List EV.D}(y1:S.o a=true)(y3:qq g (hid H' S) ds vs):qq g (hid H' (cR S a)) ds vs:=y3.mono λb o hb=>by
 have hh:S.h a=true:=by rw[ss.hd,y1,Bool.or_true]
 obtain⟨z1,z2⟩:=bW.mp hb;refine bW.mpr ⟨?_,z2⟩;show (S.h b||b==a)=false;rw[z1]
 simpa using λz:b=a=>by rw[z,hh]at z1;cases z1
theorem rM{e:Expr}{ie:EV.E}{pos:Pos}(he:PE X e (tE w g c E ie))(hf:fr=true->fresh c ie=true):PS X (.Return (some e) pos) (tS w g c E fr (.ret ie)):=
 PS.imp (rE he) λD σ H ⟨H0,B,τ,S,ss,h⟩=>by
  simp only[zr,cU,cL,cV,zm,cX,zO,cQ,dj,zM,zI,zS,zT,zU,zN]at h;refine s_e ss h λd v H' _ p k=>?_
  have k:∀v H',qf H0 H'->Rep g (hid H' B) d v->(fr=true->Fr g H0 B H' d v)->D.rt v H':=k;have s1:=ss.up p.same;by_cases hz:fr=true
  ·obtain⟨a,vs,ds,rfl,rfl,h1,h2,h3⟩:=p.fr (hf hz);obtain⟨r1,r2⟩:=lI (H':=H') ss (ss.same.free h1) h2 h3;exact k _ H' s1.same r1 λ_=>r2
  ·rcases p.rb with r|⟨a,vs,ds,y1,rfl,rfl,y2,y3⟩
   ·exact k v H' s1.same (r.mono (El ss)) λz=>absurd z hz
   ·obtain⟨r1,r2⟩:=lI (H':=H') ss (ss.new a y1) y2 (pZ ss y1 y3);exact k _ H' s1.same r1 λ_=>r2
theorem FW(O:XO w g c E X){x:Str}{i:Nat}{p pos:Pos}(h:loc c x=some i)(ho:c.own.contains x=true):PS X (.Return (some (.Name x p)) pos) (tS w g c E fr (.ret (.own i))):=by
 obtain⟨h1,h2,h3,h4⟩:=fA h;refine PS.imp (rE (jT (i:=i) (by rw[O.N];exact h1) (by unfold gY;rw[O.nm];exact h2) h3 h4)) λD σ H ⟨H0,B,τ,S,ss,h⟩=>?_
 simp only[zr,cU,cL,cV,zm,cX,zO,cQ,dj,zM,zI,zS,zT,zU,zN,qo,zb,qX,zf,qT,zh,zg,zi,qG,qK,qO,qP,qL,qy,qN,qB,qx,qH,qz,ql,qI,qU,qC,qE,qW,qR,qQ,qS,qM,qV,zD]at h;cases q:τ[i]? with
 |none=>rw[q]at h;exact h.elim
 |some o=>
  cases o with
  |none=>rw[q]at h;exact h.elim
  |some d=>
   rw[q]at h;obtain⟨a,vs,ds,z1,y1,rfl,y2,y3⟩:=ss.own i d ⟨x,h1,ho⟩ q;obtain⟨r1,r2⟩:=lI (H':=H) ss (ss.new a y1) y2 (pZ ss y1 y3);exact⟨_,z1,h _ H ss.same r1 λ_=>r2⟩
theorem kJ{e:Expr}{ie:EV.E}{i:Nat}{st:Stmt}{te:TE}(hp:PS X st (jG te (f_ i)))(hr:∀σ H Q,tE w g c E ie σ H Q->te σ H Q)(Gg:i<c.N.length)(hk:(zA c i/\fresh c ie=true/\c.frz=false)\/(¬ zA c i/\esc ie=true)):PS X st (tS w g c E fr (.set (.nm i) ie)):=
 PS.imp hp λD σ H ⟨H0,B,τ,S,ss,h⟩=>by
  simp only[zr,cU,cL,cV,zm,cX,zO,cQ,dj,zM,zI,zS,zT,zU,zN,store]at h;refine hr σ H _ (s_e ss h λd v H' _ p k=>?_);have k:∀σ' H2 S2,SS g c H0 B (τ.set i (some d)) σ' H2 S2->qf (hid H S) (hid H2 S2)->D.nx σ' H2:=k;rcases hk with ⟨ho,hf,Ib⟩|⟨ho,he⟩
  ·obtain⟨S',s1,s2⟩:=ss.setOwn Ib ho (by rw[ss.lenN];exact Gg) p.same (p.fr hf);exact k _ _ S' s1 s2
  ·exact k _ _ S ((ss.up p.same).set ho (p.st he)) (qZ p.same)
theorem Ff(O:XO w g c E X){tg e:Expr}{Gw:Tg}{ie:EV.E}{pos:Pos}(he:PE X e (tE w g c E ie))(hg:PG X tg (gT X.K Gw))(hf:iL c Gw)(Iq:esc ie=true)(hs:swapsWithSole [tg] e pos.line X.env=pure false)(hw:swappedStores [tg] e X.env=pure none)(h1:(assignEach [tg] X.env).map (·.2)=[assign tg X.env]) :
  PS X (.Assign [tg] e pos) (tS w g c E fr (.set Gw ie)):=
 PS.imp (tK he hg hs hw h1) λD σ H ⟨H0,B,τ,S,ss,h⟩=>by
  simp only[zr,cU,cL,cV,zm,cX,zO,cQ,dj,zM,zI,zS,zT,zU,zN]at h;refine s_e ss h λd v H' _ p k=>?_
  cases q:store Gw d τ with
  |ok τ'=>
   rw[q]at k;exact(ss.up p.same).store O.K hf (p.st Iq) q λσ' s1=>k σ' H' S s1 (qZ p.same)
  |ex z=>cases Gw<;>simp only[store]at q<;>first|cases q|(split at q<;>first|cases q|(split at q<;>first|(exact absurd q (nQ))|cases q))
  |no=>rw[q]at k;exact k.elim
end
section
variable{w:W}{g:Gc}{c:Cc}{E:XK}{fr:Bool}{X:Cx}{H0:Hp}{B:Sh}{τ:Env}{σ:L2.St}{H H':Hp}{S:Sh}{Ed:Ends}
theorem rB{i:Nat}{d:EV.D}(h:zD τ i=.ok d):τ[i]? = some (some d):=by
 unfold zD at h;split at h
 ·rename_i q;cases h;exact q
 ·cases h
theorem wg(O:XO w g c E X)(Ib:c.frz=false){x:Str}{i:Nat}{a:Expr}{ia:EV.E}{p ap cp pos:Pos}(h:loc c x=some i)(ho:c.own.contains x=true)(ha:PE X a (tE w g c E ia))(Iq:esc ia=true)(hs:isStar a=false)(hl:(ap.endLine==cp.line)=true) :
  PS X (.Expr (.Call (.Attribute (.Name x p) "append" ap) [a] [] cp) pos) (tS w g c E fr (.app i ia)):=by
 obtain⟨h1,h2,h3,h4⟩:=fA h;have hv:PE X (.Name x p) (iR i):=jT (i:=i) (by rw[O.N];exact h1) (by unfold gY;rw[O.nm];exact h2) h3 h4;have GR:=qu (es:=[]) (env:=X.env) hs;have hb:=yh (X:=X) (apos:=ap) (cpos:=cp) PySem.F.plainAttrs_list PySem.F.slot_list_append PySem.F.type_list_append rA hv (zF ha eB GR) rfl (by rw[GR];rfl) hl GR rfl;refine PS.imp (tL hb rfl) λD σ H ⟨H0,B,τ,S,ss,k⟩=>?_
 simp only[zr,cU,cL,cV,zm,cX,zO,cQ,dj,zM,zI,zS,zT,zU,zN]at k;cases q:zD τ i with
 |ex z=>unfold zD at q;split at q<;>cases q
 |no=>rw[q]at k;exact k.elim
 |ok d0=>
  rw[q]at k;have q':=rB q;have hi:zA c i:=⟨x,h1,ho⟩
  obtain⟨ad,vs,ds,z1,y1,rfl,y2,y3⟩:=ss.own i d0 hi q';refine⟨_,z1,.inl ⟨rfl,vs,SqL.of y2⟩,s_e ss k λd v H1 _ p1 k1=>?_⟩;simp only at k1;by_cases hz:ds.length<SZ
  ·rw[if_pos hz]at k1;have s1:=ss.up p1.same;have Mp:=p1.same _ _ y2;obtain⟨s2,s3⟩:=s1.change (vs:=vs++[v]) (ds:=ds++[d]) Ib hi q' z1 ((y3.mono (qZ p1.same)).append (.cons (p1.st Iq) .nil));exact⟨ad,vs,v,rfl,rfl,Mp,by rw[<-y3.length,bJ];unfold SZ at hz;lia,k1 _ _ S s2 ((qZ p1.same).trans s3)⟩
  ·rw[if_neg hz]at k1;exact k1.elim
theorem FU(O:XO w g c E X)(Ib:c.frz=false){x:Str}{i:Nat}{k e:Expr}{ik ie:EV.E}{p sp pos:Pos}(h:loc c x=some i)(ho:c.own.contains x=true)(hk:PE X k (tE w g c E ik))(he:PE X e (tE w g c E ie))(Iq:esc ie=true)(Il:isSlice k=false)(hc:fG e=false) :
  PS X (.Assign [.Subscript (.Name x p) k sp] e pos) (tS w g c E fr (.seti i ik ie)):=by
 obtain⟨h1,h2,h3,h4⟩:=fA h;have hv:PE X (.Name x p) (iR i):=jT (i:=i) (by rw[O.N];exact h1) (by unfold gY;rw[O.nm];exact h2) h3 h4;have hg:PG X (.Subscript (.Name x p) k sp) (nR (iR i) (tE w g c E ik) mV):=CT hv hk set_list (by intro v;cases k<;>first|rfl|(exact Bool.noConfusion Il));refine PS.imp (tK he hg (by simp only[swapsWithSole];exact kC hc) rfl rfl) λD σ H ⟨H0,B,τ,S,ss,k⟩=>?_
 simp only[zr,cU,cL,cV,zm,cX,zO,cQ,dj,zM,zI,zS,zT,zU,zN]at k;refine s_e ss k λd v H1 _ p1 k1=>?_
 cases q:zD τ i with
 |ex z=>unfold zD at q;split at q<;>cases q
 |no=>rw[q]at k1;exact k1.elim
 |ok d0=>
  rw[q]at k1;have q':=rB q;have hi:zA c i:=⟨x,h1,ho⟩
  have s1:=ss.up p1.same;obtain⟨ad,vs,ds,z1,y1,rfl,y2,y3⟩:=s1.own i d0 hi q';refine⟨_,z1,s_e s1 (cg.up k1 (qZ p1.same)) λn vn H2 _ p2 k2=>?_⟩;cases n with
  |int j=>
   simp only at k2;cases qj:ixN ds.length j with
   |none=>rw[qj]at k2;exact k2.elim
   |some m=>
    rw[qj]at k2;have s2:=s1.up p2.same;have Mp:=p2.same _ _ y2;obtain⟨s3,s4⟩:=s2.change (vs:=vs.set m v) (ds:=ds.set m d) Ib hi q' z1 ((y3.mono (qZ p2.same)).set ((p1.st Iq).mono (qZ p2.same)) m);exact⟨ad,vs,j,m,rfl,p2.rb.int,Mp,by rw[<-y3.length];exact qj,k2 _ _ S s3 ((qZ p2.same).trans s4)⟩
  |_=>exact k2.elim
theorem Ce:PSs X [] (tSs w g c E fr .nil):=PSs.imp xn λD σ H ⟨H0,B,τ,S,ss,h⟩=>by
 simp only[qe]at h;exact h σ H S ss (qf.refl _)
theorem tV{s:Stmt}{r:List Stmt}{is:EV.S}{ir:Ss}(h1:PS X s (tS w g c E fr is))(h2:PSs X r (tSs w g c E fr ir)):PSs X (s::r) (tSs w g c E fr (.cons is ir)):=
 PSs.imp (B' h1 h2) λD σ H ⟨H0,B,τ,S,ss,h⟩=>by
  simp only[qe]at h;refine⟨H0,B,τ,S,ss,?_⟩;cases q:evS w is τ with
  |nx τ'=>rw[q]at h;exact λσ' H' S' s' e=>⟨H0,B,τ',S',s',cg.up h e⟩
  |bk τ'=>rw[q]at h;exact h
  |ct τ'=>rw[q]at h;exact h
  |rt d=>rw[q]at h;exact h
  |ex k=>rw[q]at h;exact h
  |no=>rw[q]at h;exact h
theorem uW{t:Expr}{a b:List Stmt}{it:T}{ia ib:Ss}{pos:Pos}(ht:PT X t (tT w g c E it))(ha:PSs X a (tSs w g c E fr ia))(hb:PSs X b (tSs w g c E fr ib)):PS X (.If t a b pos) (tS w g c E fr (.ite it ia ib)):=
 PS.imp (FT ht ha hb) λD σ H ⟨H0,B,τ,S,ss,h⟩=>by
  simp only[zr,cU,cL,cV,zm,cX,zO,cQ,dj,zM,zI,zS,zT,zU,zN]at h;refine s_t ss h λz H1 _ s1 k1=>?_
  cases z with
  |true=>exact⟨H0,B,τ,S,ss.up s1,cg.up k1 (qZ s1)⟩
  |false=>exact⟨H0,B,τ,S,ss.up s1,cg.up k1 (qZ s1)⟩
theorem PS.nox'{st:Stmt}{t:TS}(h:PS X.nox st t):PS X st t:=λpins s σ H D I hw=>
 bK (h pins s σ H D (I.wish _) hw) (λ_ _ q=>q.unwish) λ_ _ z=>bq z
theorem XO.nox(O:XO w g c E X):XO w g c E0 X.nox:=⟨O.K,O.nm,O.N,O.nd,O.calm,O.units,O.dp,O.fn,O.kind,mC rfl rfl,O.gok,O.fns,O.sub,O.fl⟩
theorem XS.nox(O:XS w g c E X):XS w g c E0 X.nox:=⟨O.toXO.nox,λ_ _ _ _ _ _ _ _ _ _ z=>bq z,O.exc,O.cat,O.frm,O.gh⟩
theorem FE{o:O}(h:cg g c E fr H0 B H S Ed o.noEx):cg g c E0 fr H0 B H S Ed o/\(∀k,o≠.ex k)/\o≠.no:=by
 cases o with
 |ex k=>exact h.elim
 |no=>exact h.elim
 |nx t=>exact⟨h,(λ_ z=>by cases z),(λz=>by cases z)⟩
 |bk t=>exact⟨h,(λ_ z=>by cases z),(λz=>by cases z)⟩
 |ct t=>exact⟨h,(λ_ z=>by cases z),(λz=>by cases z)⟩
 |rt t=>exact⟨h,(λ_ z=>by cases z),(λz=>by cases z)⟩
noncomputable def frozen(c:Cc)(b:Bool):Cc:={c with frz:=c.frz||b}
theorem XS.froze(O:XS w g c E X){b:Bool}:XS w g (frozen c b) E X:=
 ⟨⟨O.K,O.nm,O.N,O.nd,O.calm,O.units,O.dp,O.fn,O.kind,O.pass,O.gok,O.fns,O.sub,O.fl⟩,O.thr,O.exc,O.cat,O.frm,O.gh⟩
noncomputable def eX(B:Sh)(b:Bool)(σ:L2.St)(H:Hp):Sh:=if b=true then ⟨B.o,B.h,σ,H⟩else B
theorem k9{b:Bool}:(eX B b σ H).h=B.h:=by unfold eX;split<;>rfl
theorem xB{b:Bool}{H1:Hp}:hid H1 (eX B b σ H)=hid H1 B:=by funext a;unfold hid;rw[k9]
theorem SS.froze(b:Bool)(ss:SS g c H0 B τ σ H S):SS g (frozen c b) H0 (eX B b σ H) τ σ H S:=by
 refine⟨⟨ss.se.len,ss.se.val,ss.se.sub⟩,ss.lenN,ss.same,?_,?_,ss.new,ss.own,ss.inj,λz=>?_⟩
 ·unfold eX;split
  ·exact ss.sub0
  ·exact ss.sub0
 ·rw[k9];exact ss.hd
 ·cases b with
  |true=>exact⟨λi _=>rfl,qf.refl _⟩
  |false=>
   have z:(c.frz||false)=true:=z;rw[Bool.or_false]at z;exact ss.frz z
theorem SS.thaw{b:Bool}{σ1:L2.St}{H1:Hp}{τ1:Env}{S1:Sh}(s0:SS g c H0 B τ1 σ1 H1 S1)(ss:SS g (frozen c b) H0 (eX B b σ1 H1) τ σ H S):SS g c H0 B τ σ H S:=by
 refine⟨⟨ss.se.len,ss.se.val,ss.se.sub⟩,ss.lenN,ss.same,s0.sub0,?_,ss.new,ss.own,ss.inj,λz=>?_⟩
 ·have:=ss.hd;rw[k9]at this;exact this
 ·have f:=ss.frz (by show (c.frz||b)=true;rw[z];rfl);cases b with
  |true=>exact⟨λi hi=>(f.1 i hi).trans ((s0.frz z).1 i hi),(s0.frz z).2.trans f.2⟩
  |false=>exact f
theorem SS.iced{b:Bool}{σ1:L2.St}{H1:Hp}(hb:b=true)(ss:SS g (frozen c b) H0 (eX B b σ1 H1) τ σ H S):qf H1 H:=by
 subst hb;exact(ss.frz (by show (c.frz||true)=true;rw[Bool.or_true])).2
theorem wL(O:XO w g c E X)(hc:X.calm=true){tg it:Expr}{b:List Stmt}{Gw:Tg}{GB:It}{ib:Ss}{pos:Pos}(hi:PI X.nox tg it (tIt w g c E0 GB))(hg:PG X.nox tg (gT X.K Gw))(hf:iL c Gw)(hb:PSs X.nox b (tSs w g (frozen c (owned GB)) E0 fr ib))(hs:zp it=true) :
  PS X (.For tg it b [] pos) (tS w g c E fr (.for Gw GB ib)):=by
 refine PS.nox' (PS.imp (vF (X:=X.nox) PassesOwn.never hc hi hg hb (λx=>by cases it<;>first|rfl|(exact Bool.noConfusion hs))) λD σ H ⟨H0,B,τ,S,ss,h⟩=>?_);simp only[zr,cU,cL,cV,zm,cX,zO,cQ,dj,zM,zI,zS,zT,zU,zN]at h;obtain⟨h,Ik,Jh⟩:=FE h;cases q:evI w GB τ with
 |ex z=>rw[q]at Ik;exact absurd rfl (Ik z)
 |no=>rw[q]at Jh;exact absurd rfl Jh
 |ok ds=>
  rw[q]at h Ik Jh;simp only[R.out_ok]at h Ik Jh;refine⟨τ,S,ss.se,?_⟩;rw[q];intro J H1 s1 kW kS;generalize hr:eC Gw (λσ=>qe w ib σ) ds τ=r at h Ik Jh;refine⟨λi m σ' H'=>m=ds.length-i/\i<=ds.length/\∃τ' S',SS g (frozen c (owned GB)) H0 (eX B (owned GB) σ H1) τ' σ' H' S'/\qf (hid H1 S) (hid H' S')/\eC Gw (λσ=>qe w ib σ) (ds.drop i) τ'=r,⟨ds.length,rfl,bU _,τ,S,(ss.up s1).froze _,qf.refl _,hr⟩,?_⟩;rintro i m σ' H' ⟨rfl,GY,τ',S',Kg,e',hl⟩;have gg:Goes g J ds H' S':=by
   cases hw:owned GB with
   |false=>exact kS hw H' S' e' Kg.se.sub
   |true=>exact kW H' S' (Kg.iced hw) e' Kg.se.sub
  obtain⟨g1,g2⟩:=gg;have eH:qf (hid H S) (hid H' S'):=(qZ s1).trans e';by_cases Gg:i<ds.length
  ·have hd:ds[i]? = some ds[i]:=List.getElem?_eq_getElem Gg;obtain⟨Mn,go2⟩:=g2 i ds[i] hd;refine .inr ⟨Mn,λσ2 H2=>∃τ' S',SS g (frozen c (owned GB)) H0 (eX B (owned GB) σ H1) τ' σ2 H2 S'/\qf (hid H1 S) (hid H2 S')/\eC Gw (λσ=>qe w ib σ) (ds.drop (i+1)) τ'=r,λσ2 H2 z=>⟨ds.length-(i+1),by lia,rfl,Gg,z⟩,λx H2 hy=>?_⟩;obtain⟨s2,rx⟩:=go2 x H2 hy;rw[fK Gg]at hl;simp only[eC]at hl;cases q1:store Gw ds[i] τ' with
   |ex z=>rw[q1]at hl;exact absurd hl.symm (Ik z)
   |no=>rw[q1]at hl;exact absurd hl.symm Jh
   |ok τ1=>
    rw[q1]at hl;simp only[R.out_ok]at hl;refine(Kg.up s2).store O.K hf rx q1 λσ1 O8=>⟨H0,_,τ1,S',O8,?_⟩
    cases q2:qe w ib τ1 with
    |nx τ2=>rw[q2]at hl;exact λσ2 H3 S3 s3 e3=>⟨τ2,S3,s3,(e'.trans (qZ s2)).trans e3,hl⟩
    |ct τ2=>rw[q2]at hl;exact λσ2 H3 S3 s3 e3=>⟨τ2,S3,s3,(e'.trans (qZ s2)).trans e3,hl⟩
    |bk τ2=>
     rw[q2]at hl;simp only at hl;rw[<-hl]at h;exact λσ2 H3 S3 s3 e3=>h σ2 H3 S3 ((ss.up s1).thaw s3) ((eH.trans (qZ s2)).trans e3)
    |rt d=>
     rw[q2]at hl;simp only at hl;rw[<-hl]at h;refine λv H3 s3 r3 f3=>h v H3 s3 (by rw[xB]at r3;exact r3) λz=>?_
     have f3:=f3 z;unfold eX at f3;split at f3
     ·exact f3
     ·exact f3
    |ex z=>rw[q2]at hl;exact absurd hl.symm (Ik z)
    |no=>rw[q2]at hl;exact absurd hl.symm Jh
  ·have e:i=ds.length:=by lia
   subst e;rw[List.drop_length]at hl;simp only[eC]at hl;rw[<-hl]at h;exact .inl ⟨g1 ds.length (aH _),h σ' H' S' ((ss.up s1).thaw Kg) eH⟩
theorem yY{t:Expr}{b:List Stmt}{it:T}{ib:Ss}{pos:Pos}(ht:PT X.nox t (tT w g c E0 it))(hb:PSs X.nox b (tSs w g c E0 fr ib)):PS X (.While t b [] pos) (tS w g c E fr (.while it ib)):=λpins s σ H D I ⟨H0,B,τ,S,ss,h⟩=>by
 simp only[zr,cU,cL,cV,zm,cX,zO,cQ,dj,zM,zI,zS,zT,zU,zN]at h;exact bq h
theorem yD(O:XS w g c E X)(hc:X.calm=true)(ht:c.thr=true){x:Str}{a:Expr}{as:List Expr}{ies:Es}{np cp pos:Pos}{n:Nat}(h:glob c x=some .exc)(ha:PA X (a::as) (tA w g c E ies))(Iq:cEs n c (a::as)=some ies)(hn:(a::as).length<=100000) :
  PS X (.Raise (some (.Call (.Name x np) (a::as) [] cp)) none pos) (tS w g c E fr (.raise x ies)):=λpins s σ H D I ⟨H0,B,τ,S,ss,h⟩=>by
 simp only[zr,cU,cL,cV,zm,cX,zO,cQ,dj,zM,zI,zS,zT,zU,zN]at h;exact bq h
theorem Bi(O:XS w g c E X)(hc:X.calm=true)(ht:c.thr=true){x:Str}{a:Expr}{as:List Expr}{ies:Es}{np cp pos:Pos}{n:Nat}(h:glob c x=some .exf)(ha:PA X (a::as) (tA w g c E ies))(Iq:cEs n c (a::as)=some ies) :
  PS X (.Raise (some (.Call (.Name x np) (a::as) [] cp)) none pos) (tS w g c E fr (.raisF x ies)):=by
 obtain⟨C,h1,h2⟩:=O.gm h;have hs:=gB Iq;intro pins s σ H D I ⟨H0,B,τ,S,ss,k⟩;simp only[zr,cU,cL,cV,zm,cX,zO,cQ,dj,zM,zI,zS,zT,zU,zN]at k;cases q:w.fld x with
 |none=>rw[q]at k;exact k.elim
 |some fs=>
  rw[q]at k;obtain⟨fI,z1,z2,z3,z4⟩:=O.fl x fs q C h2;refine F7 O.frm.1 hc (O.thr ht) (O.K▸z1) (O.K▸z2) z3 z4 (λa=>by have:=vg X.A a;have:=O.dp;lia) (O.gl h) h1 ha (qw h).2.2.1 (qu (hs a aQ)) (iI λz hz=>hs z (aO _ hz)) pins s σ H D I ?_;refine s_a ss k λds vs H1 e1 s1 r k1=>?_
  unfold jM at k1;cases qi:ints? ds with
  |none=>rw[qi]at k1;exact k1.elim
  |some ns=>
   rw[qi]at k1;simp only at k1;split at k1
   ·rename_i hl
    obtain⟨L,_,rr⟩:=seen r;obtain⟨rfl,_⟩:=rr.ints qi;refine⟨by simpa using hl,λdx HD=>?_⟩;exact k1 _ C (some dx) (ss.same.trans (s1.trans (qY HD))) h2 (.inr ⟨dx,rfl,(ss.same.trans s1).free HD,by rw[zo,List.zip_map_right];rfl⟩)
   ·exact k1.elim
end
section
variable{w:W}{g:Gc}{c:Cc}{E:XK}{fr:Bool}{X:Cx}{H0:Hp}{B:Sh}{τ:Env}{σ:L2.St}{H H':Hp}{S:Sh}{Ed:Ends}
theorem Ex{s:Stmt}:PS X s (tS w g c E fr .unk):=λpins s σ H D I ⟨H0,B,τ,S,ss,h⟩=>by
 simp only[zr,cU,cL,cV,zm,cX,zO,cQ,dj,zM,zI,zS,zT,zU,zN]at h;exact h.elim
theorem xY(O:XO w g c E X)(Ib:c.frz=false){x:Str}{i:Nat}{k a:Expr}{ik ia:EV.E}{p ap cp pos:Pos}(h:loc c x=some i)(ho:c.own.contains x=true)(hk:PE X k (tE w g c E ik))(ha:PE X a (tE w g c E ia))(Iq:esc ia=true)(QK:isStar k=false)(hs:isStar a=false)(hl:(ap.endLine==cp.line)=true) :
  PS X (.Expr (.Call (.Attribute (.Name x p) "insert" ap) [k,a] [] cp) pos) (tS w g c E fr (.ins i ik ia)):=λpins s σ H D I ⟨H0,B,τ,S,ss,h⟩=>by
 simp only[zr,cU,cL,cV,zm,cX,zO,cQ,dj,zM,zI,zS,zT,zU,zN]at h;exact bq h
theorem SS.cong{c':Cc}(hN:c'.N=c.N)(ho:c'.own=c.own)(hz:c'.frz=c.frz)(s:SS g c H0 B τ σ H S):SS g c' H0 B τ σ H S:=by
 cases c;cases c';simp only at hN ho hz;subst hN ho hz;exact⟨⟨s.se.len,s.se.val,s.se.sub⟩,s.lenN,s.same,s.sub0,s.hd,s.new,s.own,s.inj,s.frz⟩
theorem rg{i:Option Nat}{k:Xc}:(dR τ i k).length=τ.length:=by
 cases i<;>simp[dR]
theorem SS.hand{σ':L2.St}{k:Xc}{i:Option Nat}(ss:SS g c H0 B τ σ H S)(hz:c.frz=false)(he:c.own=[])(hs:qf H0 H')(hl:σ'.length=c.N.length)(hv:∀(j:Nat) (d:EV.D),(dR τ i k)[j]? = some (some d)->∃v,σ'[j]? = some (some v)/\Rep g (hid H' B) d v) :
  SS g (ij c) H0 B (dR τ i k) σ' H' ⟨λ_=>false,B.h,B.z,B.y⟩:=by
 have hh:hid H' ⟨λ_=>false,B.h,B.z,B.y⟩=hid H' B:=rfl;have no:∀j,¬ zA (ij c) j:=λj ⟨x,_,h2⟩=>by
  have h2:c.own.contains x=true:=h2;rw[he]at h2;cases h2
 refine⟨⟨by rw[rg,ss.lenN,hl],λj d h=>?_,λa ha=>?_⟩,by rw[rg];exact ss.lenN,hs,ss.sub0,(λa=>by simp),(λa ha=>by cases ha),λj d hj=>(no j hj).elim,λj _ d _ a hj=>(no j hj).elim,(λz=>by have z:c.frz=true:=z;rw[hz]at z;cases z)⟩
 ·obtain⟨v,h1,h2⟩:=hv j d h;exact⟨v,h1,.inl h2,λ_ _ _=>h2⟩
 ·refine(ss.sub0.same hs) a ?_;rcases ha with ha|ha
  ·exact .inl ha
  ·cases ha
def EhT(w:W)(g:Gc)(b:Ss)(τ:Env)(H0:Hp):XK:=λcls o H'=>∃k C,cls=.ref C/\fj H0 H' o k.fs/\g.clA k.nm=some C/\qe w b τ=.ex k/\qf H0 H'
theorem oJ{ib:Ss}{x:Str}{i:Option Nat}{ih:Ss}{c':Cc}(hN:c'.N=c.N)(ho:c'.own=c.own)(hz:c'.frz=c.frz)(h:cg g c E fr H0 B H S Ed (evS w (.try ib x i ih) τ)):cg g c' (EhT w g ib τ H0) fr H0 B H S Ed (qe w ib τ):=by
 simp only[zr,cU,cL,cV,zm,cX,zO,cQ,dj,zM,zI,zS,zT,zU,zN]at h;have c1:∀{τ':Env}{σ':L2.St}{H':Hp}{S':Sh},SS g c' H0 B τ' σ' H' S'->SS g c H0 B τ' σ' H' S':=λs=>s.cong hN.symm ho.symm hz.symm
 cases q:qe w ib τ with
 |nx τ'=>rw[q]at h;exact λσ' H' S' s e=>h σ' H' S' (c1 s) e
 |bk τ'=>rw[q]at h;exact λσ' H' S' s e=>h σ' H' S' (c1 s) e
 |ct τ'=>rw[q]at h;exact λσ' H' S' s e=>h σ' H' S' (c1 s) e
 |rt d=>rw[q]at h;exact h
 |ex k=>exact λH' C dx s hc hx=>⟨k,C,rfl,hx,hc,q,s⟩
 |no=>rw[q]at h;exact h
theorem pf{ib ih:Ss}{x:Str}{i:Option Nat}{k:Xc}(h:cg g c E false H0 B H S Ed (evS w (.try ib x i ih) τ))(q:qe w ib τ=.ex k):w.cat k.nm x=true/\∃d,qe w ih (dR τ i k)=.rt d/\∀v H',qf H0 H'->Rep g (hid H' B) d v->Ed.rt v H':=by
 simp only[zr,cU,cL,cV,zm,cX,zO,cQ,dj,zM,zI,zS,zT,zU,zN]at h;rw[q]at h;simp only at h;split at h
 ·rename_i hc
  refine⟨hc,?_⟩;cases z:qe w ih (dR τ i k)with
  |rt d=>rw[z]at h;exact⟨d,rfl,λv H' s r=>h v H' s r (by intro y;cases y)⟩
  |nx _=>rw[z]at h;exact h.elim
  |bk _=>rw[z]at h;exact h.elim
  |ct _=>rw[z]at h;exact h.elim
  |ex _=>rw[z]at h;exact h.elim
  |no=>rw[z]at h;exact h.elim
 ·exact h.elim
theorem XS.inTry(O:XS w g c E X){Eh:XK}{pn:List (Addr×Obj)}{Et:ae->af->Prop}(hp:Passes (CX1 X.prog X.w) (X.inTry pn Et) Eh):XS w g {c with thr:=false} Eh (X.inTry pn Et):=
 ⟨⟨O.K,O.nm,O.N,O.nd,O.calm,O.units,O.dp,O.fn,O.kind,hp,O.gok,O.fns,O.sub,O.fl⟩,(λz=>by cases z),O.exc,O.cat,O.frm,O.gh⟩
theorem XS.held(O:XS w g c E X)(x:Addr):XS w g (ij c) E0 (X.held x):=
 ⟨⟨O.K,O.nm,O.N,O.nd,(λz=>by cases z),O.units,O.dp,O.fn,O.kind,mC rfl rfl,(λy k z=>(O.gh y k z).2 _),(λz=>by cases z),O.sub,O.fl⟩,(λz=>by cases z),(λy C z _=>absurd rfl (O.gh y .exc z).1),O.cat,O.frm,(λy k z=>by cases z)⟩
theorem CF(O:XS w g c E X){x:Str}{b:List Stmt}{b₀:Stmt}{Gh:List Stmt}{ib ih:Ss}{np hpos pos:Pos}(Ib:c.frz=false)(he:c.own=[])(hg:glob c x=some .exc\/glob c x=some .exk\/glob c x=some .exf)
  (hb:∀(Eh:XK) pn Et,XS w g {c with thr:=false} Eh (X.inTry pn Et)->PSs (X.inTry pn Et) b (tSs w g {c with thr:=false} Eh false ib)) (hs:∀y,PSs (X.held y) (b₀::Gh) (tSs w g (ij c) E0 false ih)) :
  PS X (.Try b [.ExceptHandler (some (.Name x np)) none (b₀::Gh) hpos] [] [] pos) (tS w g c E false (.try ib x none ih)):=by
 have hG:∃C,X.mg x=some (.ref C)/\g.clA x=some C/\Gl X x/\(x==("__debug__" : Str))=false:=by
  rcases hg with h|h|h
  ·obtain⟨C,h1,h2⟩:=O.gm h;exact⟨C,h1,h2,O.gl h,(qw h).2.2.1⟩
  ·obtain⟨C,h1,h2⟩:=O.gm h;exact⟨C,h1,h2,O.gl h,(qw h).2.2.1⟩
  ·obtain⟨C,h1,h2⟩:=O.gm h;exact⟨C,h1,h2,O.gl h,(qw h).2.2.1⟩
 obtain⟨C,hm,hc,Mq,hd⟩:=hG;intro pins s σ H D I ⟨H0,B,τ,S,ss,h⟩;refine wQ (Eh:=EhT w g ib τ H0) O.frm.1 O.frm.2.1 O.frm.2.2 Mq hm (λpn Et hp=>hb _ pn Et (O.inTry hp)) hs hd pins s σ H D I ⟨⟨H0,B,τ,S,SS.cong (c:=c) rfl rfl rfl ss,oJ (c:=c) rfl rfl rfl h⟩,λσ' cls dx H' hl hE=>?_⟩;obtain⟨k,C',rfl,JM,hk,q,sm⟩:=hE;obtain⟨z1,d,z2,z3⟩:=pf h q;refine⟨by rw[O.K];exact O.cat k.nm x z1 C' C hk hc,H0,B,dR τ none k,⟨λ_=>false,B.h,B.z,B.y⟩,ss.hand Ib he sm (by rw[hl,O.N]) (λj d hj=>?_),?_⟩
 ·simp only[dR,List.getElem?_map]at hj;cases z:τ[j]? with
  |none=>rw[z]at hj;exact oN hj
  |some o=>rw[z]at hj;cases hj
 ·rw[z2];exact λv H'' s' r _=>z3 v H'' s' r
theorem Dl(O:XS w g c E X){x n:Str}{i:Nat}{b:List Stmt}{b₀:Stmt}{Gh:List Stmt}{ib ih:Ss}{np hpos pos:Pos}(Ib:c.frz=false)(he:c.own=[])(hg:glob c x=some .exc\/glob c x=some .exk\/glob c x=some .exf)(hi:c.N[i]? = some n)(hn:c.nm.lookup n=some .local)
  (hb:∀(Eh:XK) pn Et,XS w g {c with thr:=false} Eh (X.inTry pn Et)->PSs (X.inTry pn Et) b (tSs w g {c with thr:=false} Eh false ib)) (hs:∀y,PSs (X.held y) (b₀::Gh) (tSs w g (ij c) E0 false ih)) :
  PS X (.Try b [.ExceptHandler (some (.Name x np)) (some n) (b₀::Gh) hpos] [] [] pos) (tS w g c E false (.try ib x (some i) ih)):=by
 have hG:∃C,X.mg x=some (.ref C)/\g.clA x=some C/\Gl X x/\(x==("__debug__" : Str))=false:=by
  rcases hg with h|h|h
  ·obtain⟨C,h1,h2⟩:=O.gm h;exact⟨C,h1,h2,O.gl h,(qw h).2.2.1⟩
  ·obtain⟨C,h1,h2⟩:=O.gm h;exact⟨C,h1,h2,O.gl h,(qw h).2.2.1⟩
  ·obtain⟨C,h1,h2⟩:=O.gm h;exact⟨C,h1,h2,O.gl h,(qw h).2.2.1⟩
 obtain⟨C,hm,hc,Mq,hd⟩:=hG;intro pins s σ H D I ⟨H0,B,τ,S,ss,h⟩;have Gg:i<c.N.length:=(List.getElem?_eq_some_iff.mp hi).1;refine Bx (Eh:=EhT w g ib τ H0) (i:=i) O.frm.1 O.frm.2.1 O.frm.2.2 (by rw[O.N];exact O.nd) (by rw[O.N];exact hi) (by rw[O.nm];exact hn) Mq hm (λpn Et hp=>hb _ pn Et (O.inTry hp)) hs hd pins s σ H D I ⟨⟨H0,B,τ,S,SS.cong (c:=c) rfl rfl rfl ss,oJ (c:=c) rfl rfl rfl h⟩,λσ' cls dx H' x' hl hE hx=>?_⟩;obtain⟨k,C',rfl,JM,hk,q,sm⟩:=hE;obtain⟨z1,d,z2,z3⟩:=pf h q;have s2:qf H' (upd H' x' (hV x' (.ref C') dx)):=qY hx;refine⟨by rw[O.K];exact O.cat k.nm x z1 C' C hk hc,H0,B,dR τ (some i) k,⟨λ_=>false,B.h,B.z,B.y⟩,ss.hand Ib he (sm.trans s2) (by rw[List.length_set,hl,O.N]) (λj d hj=>?_),?_⟩
 ·simp only[dR]at hj;have GY:i<σ'.length:=by rw[hl,O.N];exact Gg
  by_cases Ge:i=j
  ·subst Ge;have G9:i<(τ.map λ_=>(none:Option EV.D)).length:=by rw[bG,ss.lenN];exact Gg
   rw[List.getElem?_set_self G9]at hj;cases hj;refine⟨.ref x',by rw[List.getElem?_set_self GY],.exn hk (bW.mpr ⟨ss.sub0.free (sm.free hx),zo⟩) (JM.hid ss.sub0 s2) ?_⟩;rintro rfl;rcases JM with ⟨_,e⟩|⟨d,e,_,e2⟩
   ·cases e
   ·cases e;rw[hx]at e2;cases e2
  ·rw[List.getElem?_set_ne Ge,List.getElem?_map]at hj;cases z:τ[j]? with
   |none=>rw[z]at hj;exact oN hj
   |some o=>rw[z]at hj;cases hj
 ·rw[z2];exact λv H'' s' r _=>z3 v H'' s' r
end
theorem Di{e:Expr}{x:Str}{ap cp:Pos}{k a:Expr}(h:kT e=some (x,ap,k,a,cp)):∃p,e=.Call (.Attribute (.Name x p) "insert" ap) [k,a] [] cp:=by cases h
theorem uV{ts:List Expr}{k:Nat}{p:Pos}{e:Expr}{env:PySem.Env}(h:isTup e=true->mq e=true):swappedStores [.Tuple ts k p] e env=pure none:=by
 cases e<;>first|rfl|skip
 rename_i vs k2 p2
 have h:vs.all (foldedForSure 8)=true:=h rfl;unfold swappedStores;simp only[h,if_true];split
 ·rfl
 ·split
  ·rfl
  ·split
   ·rfl
   ·rfl
section
variable{w:W}{g:Gc}{c:Cc}{E:XK}{fr:Bool}{X:Cx}
theorem xR(O:XO w g c E X){n:Nat}(hn:n<=100000){x:Str}{i:Nat}{elt:Expr}{gs:List cJ}{sc:a9}{p p' pos:Pos}{ie:EV.E}(hl:dq c x=some i)(h:cE n c (.ListComp elt gs sc p)=some ie)(Ky:jS (.ListComp elt gs sc p)=false)(hk:(zA c i/\fresh c ie=true/\c.frz=false)\/(¬ zA c i/\esc ie=true)) :
  PS X (.Assign [.Name x p'] (.ListComp elt gs sc p) pos) (tS w g c E fr (.set (.nm i) ie)):=by
 obtain⟨l1,l2⟩:=fN hl;obtain⟨l3,_⟩:=fA l1;have Gg:i<c.N.length:=(List.getElem?_eq_some_iff.mp l3).1;have hN:X.N.Nodup:=by rw[O.N];exact O.nd
 have Iw:X.N[i]? = some x:=by rw[O.N];exact l3
 have hx:L2.Loc X.env.scope x:=by unfold L2.Loc;rw[O.nm];rcases l2 with z|z;exact .inl z;exact .inr z.1
 have hf:X.fn x=true\/X.env.scope.names.lookup x=some .local:=by
  rcases l2 with z|z
  ·exact .inr (by rw[O.nm];exact z)
  ·exact .inl (O.fn x z.2)
 cases hb:(X.env.blockKind==.function&&X.env.kindOf x==some .local&&p'.line==p.line && !(sc.names.any λ(n,k)=>n==x&&(k==.local||k==.cell)))with
 |false=>
  have hs:swapsWith (.ListComp elt gs sc p) (some (.Name x p')) pos.line X.env=pure false:=by rw[<-hb];rfl
  exact kJ (e:=.ListComp elt gs sc p) (mP hN Iw hx ((snd n hn).e O h) hs hf) (λ_ _ _ z=>z) Gg hk
 |true=>
  have hs:swapsWith (.ListComp elt gs sc p) (some (.Name x p')) pos.line X.env=pure true:=by rw[<-hb];rfl
  match n,h with
  | 0,h=>exact oN h
  |m+1,h=>
   have ih:=snd (w:=w) (g:=g) m (Nat.le_of_succ_le hn);obtain⟨Gk,it,ifs,GB,Gw,HY,O9,rfl,Ij,Jq,h1,h2,h3,h4,he,rfl⟩:=oj h;have hS:ez X (zV sc.names) (gI c sc.names) sc:=ez.of (by
    have e1:(λx=>c.nm.lookup x)=X.env.kindOf:=by funext x;show _=X.env.scope.names.lookup x;rw[O.nm]
    rw[<-e1,O.N];exact Jq.1)
   refine kJ (e:=.ListComp elt [⟨Gk,it,ifs,0⟩] sc p) (EZ (tb:=λacc=>kB acc (tE w g (dX c sc) E0 O9)) hN Iw hx (O.calm Ij.1) hS (ih.i O h1 he.2) (λcl C s₀ H₀ fp=>?_) (by simp) hs hf (λx=>by
    have q:=Ij.2;cases it<;>first|rfl|cases q)) (λσ H Q q=>tY O hS he.1 q) Gg hk
   have OY:=O.comp hS.kind Jq.2 cl C s₀ H₀ fp;exact⟨jU OY h2,ih.ifs OY h3,λacc=>nF rfl (ih.e OY h4)⟩
end
structure i'(w:W)(g:Gc)(n:Nat):Prop where
 s:∀{c:Cc}{E:XK}{X:Cx} (O:XS w g c E X) {fr:Bool}{x:Stmt}{ir:EV.S},cS n c fr x=some ir->PS X x (tS w g c E fr ir)
 ss:∀{c:Cc}{E:XK}{X:Cx} (O:XS w g c E X) {fr:Bool}{x:List Stmt}{ir:Ss},cSs n c fr x=some ir->PSs X x (tSs w g c E fr ir)
section
variable{w:W}{g:Gc}{n:Nat}
theorem i'.ss_succ(ih:i' w g n){c:Cc}{E:XK}{X:Cx}(O:XS w g c E X){fr:Bool}{x:List Stmt}{ir:Ss}(h:cSs (n+1) c fr x=some ir):PSs X x (tSs w g c E fr ir):=by
 match x with
 | []=>simp only[cSs,cx]at h;subst h;exact Ce
 |s::r=>
  simp only[cSs,bX,bD]at h;obtain⟨Mo,h2,h⟩:=h;cases h;cases h1:cS n c fr s with
  |none=>exact tV Ex (ih.ss O h2)
  |some is=>exact tV (ih.s O h1) (ih.ss O h2)
theorem FL{c:Cc}{x:Str}{i:Nat}(h:c.N[i]? = some x):zA c i↔c.own.contains x=true:=⟨λ⟨y,h1,h2⟩=>by rw[h]at h1;cases h1;exact h2,λh2=>⟨x,h,h2⟩⟩
theorem xS{e:Expr}{x m:Str}{ap cp:Pos}{a:Expr}(h:jI e=some (x,m,ap,a,cp)):∃p,e=.Call (.Attribute (.Name x p) m ap) [a] [] cp:=by
 unfold jI at h;split at h
 ·split at h
  ·split at h
   ·split at h
    ·split at h
     ·rename_i hk;cases h;rw[List.isEmpty_iff]at hk;subst hk;exact⟨_,rfl⟩
     ·exact oN h
    ·exact oN h
   ·exact oN h
  ·exact oN h
 ·exact oN h
theorem uo{e:Expr}{x:Str}{a:Expr}{as:List Expr}(h:raiseOf e=some (x,a,as)):∃p q,e=.Call (.Name x p) (a::as) [] q:=by
 unfold raiseOf at h;split at h
 ·split at h
  ·split at h
   ·split at h
    ·rename_i hk;cases h;rw[List.isEmpty_iff]at hk;subst hk;exact⟨_,_,rfl⟩
    ·exact oN h
   ·exact oN h
  ·exact oN h
 ·exact oN h
theorem i'.s_succ(ih:i' w g n)(hn:n<=100000){c:Cc}{E:XK}{X:Cx}(O:XS w g c E X){fr:Bool}{x:Stmt}{ir:EV.S}(h:cS (n+1) c fr x=some ir):PS X x (tS w g c E fr ir):=by
 have K:=snd (w:=w) (g:=g) n hn;cases x
 case Assign O_ e pos=>
  rcases O_ with _|⟨t0,_|_⟩
  ·exact oN h
  ·cases t0
   case Name y p=>
    replace h:(do
      if jS e then none else
      let i <-dq c y
      let e' <-cE n c e
      if c.own.contains y then (if fresh c e' && !c.frz then some (.set (.nm i) e')else none)else if esc e' then some (.set (.nm i) e')else none:Option EV.S)=some ir:=h
    split at h
    ·exact oN h
    rename_i Ky
    have Ky:jS e=false:=by simpa using Ky
    refine oB2 h λi ie hl h1 h=>?_
    obtain⟨l1,l2⟩:=fN hl;obtain⟨l3,_⟩:=fA l1;have ho:=FL l3;have hk:((zA c i/\fresh c ie=true/\c.frz=false)\/(¬ zA c i/\esc ie=true))/\ir=.set (.nm i) ie:=by
     split at h
     ·rename_i hy
      split at h
      ·rename_i hf;cases h;exact⟨.inl ⟨ho.mpr hy,by simpa using hf⟩,rfl⟩
      ·exact oN h
     ·rename_i hy
      split at h
      ·rename_i hf;cases h;exact⟨.inr ⟨λz=>hy (ho.mp z),hf⟩,rfl⟩
      ·exact oN h
    obtain⟨hk,rfl⟩:=hk;cases hc:fG e with
    |false=>
     refine kJ (e:=e) (mP (i:=i) (by rw[O.N];exact O.nd) (by rw[O.N];exact l3) (by unfold L2.Loc;rw[O.nm];rcases l2 with z|z;exact .inl z;exact .inr z.1) (K.e O.toXO h1) (kC hc) ?_) (λ_ _ _ z=>z) (List.getElem?_eq_some_iff.mp l3).1 hk;rcases l2 with z|z
     ·exact .inr (by rw[O.nm];exact z)
     ·exact .inl (O.fn y z.2)
    |true=>
     cases e with
     |ListComp elt gs sc p=>exact xR O.toXO hn hl h1 Ky hk
     |SetComp elt gs sc p=>match n,h1 with
      | 0,h1=>exact oN h1
      |m+1,h1=>exact oN h1
     |DictComp a b gs sc p=>match n,h1 with
      | 0,h1=>exact oN h1
      |m+1,h1=>exact oN h1
     |_=>cases hc
   case Tuple ts k p=>
    refine oB2 h λtg ie h1 h2 h=>?_
    split at h
    ·exact oN h
    ·rename_i hc
     have hc:((isTup e=true->mq e=true)/\fG e=false)/\esc ie=true:=by simpa using hc
     cases h;refine Ff O.toXO (K.e O.toXO h2) (jU O.toXO h1) (sH h1) hc.2 (by simp only[swapsWithSole];exact kC hc.1.2) ?_ rfl;exact uV hc.1.1
   case Subscript a k pk=>
    cases a
    case Name x px=>
     refine oC3 h λi ie ik hl h1 h2 hc e_=>?_
     simp only[aL,bY]at hc;subst e_;exact FU O.toXO hc.2 (fN hl).1 hc.1.1.1.1 (K.e O.toXO h2) (K.e O.toXO h1) hc.1.1.1.2 hc.1.1.2 hc.1.2
    all_goals exact oN h
   all_goals exact oN h
  ·exact oN h
 case Expr e pz1=>
  replace h:(match (generalizing:=false) kT e with
    |some (x,ap,k,a,cp)=>do
     let i <-dq c x
     let k' <-cE n c k
     let a' <-cE n c a
     if c.own.contains x&&esc a' && !isStar k && !isStar a&&ap.endLine==cp.line && !c.frz then some (.ins i k' a')else none
    |none=>match (generalizing:=false) jI e with
    |some (x,m,ap,a,cp)=>do
     let i <-dq c x
     let a' <-cE n c a
     if m == "append" && c.own.contains x&&esc a' && !isStar a&&ap.endLine==cp.line && !c.frz then some (.app i a')else none
    |none=>do
     if fG e then none else
     let e' <-cE n c e
     some (.exp e'):Option EV.S)=some ir:=h
  split at h
  ·-- x.insert(k, a)
   rename_i he
   obtain⟨p,rfl⟩:=Di he;refine oC3 h λi ik ia hl h0 h1 hc e_=>?_
   simp only[aL,bY,beq_iff_eq]at hc;subst e_;obtain⟨⟨⟨⟨⟨c2,c3⟩,c4⟩,c5⟩,c6⟩,c7⟩:=hc;exact xY O.toXO c7 (fN hl).1 c2 (K.e O.toXO h0) (K.e O.toXO h1) c3 c4 c5 (by simpa using c6)
  split at h
  ·-- x.append(a)
   rename_i he
   obtain⟨p,rfl⟩:=xS he;refine oC2 h λi ia hl h1 hc e_=>?_
   simp only[aL,bY,beq_iff_eq]at hc;subst e_;obtain⟨⟨⟨⟨⟨rfl,c2⟩,c3⟩,c4⟩,c5⟩,c6⟩:=hc;exact wg O.toXO c6 (fN hl).1 c2 (K.e O.toXO h1) c3 c4 (by simpa using c5)
  ·split at h
   ·exact oN h
   ·rename_i hc
    refine oK1 h λie h1 e_=>?_
    subst e_;exact ve (K.e O.toXO h1) (by simpa using hc)
 case Return o pz1=>
  replace h:(match (generalizing:=false) o with
    |some e=>do
     let e' <-cE n c e
     if fr then (match (generalizing:=false) e with
      | .Name y _=>if c.own.contains y then (loc c y).map (λi=>.ret (.own i))else none
      |_=>if fresh c e' then some (.ret e')else none)
     else some (.ret e')
    |none=>if fr then none else some .retN:Option EV.S)=some ir:=h
  split at h
  ·-- return e
   rename_i e
   refine oB1 h λie h1 h=>?_
   split at h
   ·rename_i hf
    split at h
    ·rename_i y p
     split at h
     ·rename_i ho
      simp only[bI]at h;obtain⟨i,hl,rfl⟩:=h;exact FW O.toXO hl ho
     ·exact oN h
    ·split at h
     ·rename_i GQ
      cases h;exact rM (K.e O.toXO h1) λ_=>GQ
     ·exact oN h
   ·rename_i hf
    cases h;exact rM (K.e O.toXO h1) λz=>absurd z hf
  ·split at h
   ·exact oN h
   ·rename_i hf
    cases h;exact CO (by simpa using hf)
 case If t a b pz3=>
  refine oK3 h λit ia ib h1 h2 h3 e_=>?_
  subst e_;exact uW (K.t O.toXO h1) (ih.ss O h2) (ih.ss O h3)
 case For tg0 it0 b0 els0 pos0=>
  replace h:(do
    if !els0.isEmpty || !c.calm || !zp it0 then none else
    let Mf <-cTg c tg0
    let it <-cI n c it0
    if !gf it tg0 then none else
    let b <-cSs n {c with frz:=c.frz||owned it} fr b0
    some (.for Mf it b):Option EV.S)=some ir:=h
  split at h
  ·exact oN h
  ·rename_i hc
   have hc:(els0=[]/\c.calm=true)/\zp it0=true:=by simpa using hc
   obtain⟨⟨rfl,Kh⟩,GX⟩:=hc;refine oB2 h λtg it h1 h2 h=>?_
   split at h
   ·exact oN h
   ·rename_i ho
    have ho:gf it tg0=true:=by simpa using ho
    refine oK1 h λib h3 e_=>?_
    subst e_;exact wL O.toXO (O.calm Kh) (K.i O.toXO.nox h2 ho) (jU O.toXO.nox h1) (sH h1) (ih.ss O.nox.froze h3) GX
 case While t b els0 pz=>
  replace h:(do
    if !els0.isEmpty || !c.calm then none else
    let t <-cT n c t
    let b <-cSs n c fr b
    some (.while t b):Option EV.S)=some ir:=h
  split at h
  ·exact oN h
  ·rename_i hc
   have hc:els0=[]/\c.calm=true:=by simpa using hc
   obtain⟨rfl,hc⟩:=hc;refine oK2 h λit ib h1 h2 e_=>?_
   subst e_;exact yY (K.t O.toXO.nox h1) (ih.ss O.nox h2)
 case Raise o o' pz2=>
  replace h:(match (generalizing:=false) o with
    |some r=>match (generalizing:=false) raiseOf r with
     |some (x,a,as)=>do
      if !o'.isNone || !c.calm || !c.thr then none else
      match glob c x with
      |some .exc=>do
       let es <-cEs n c (a::as)
       some (.raise x es)
      |some .exf=>do
       let es <-cEs n c (a::as)
       some (.raisF x es)
      |_=>none
     |none=>none
    |none=>none:Option EV.S)=some ir:=h
  split at h
  ·split at h
   ·rename_i hr
    obtain⟨p0,q0,rfl⟩:=uo hr;split at h
    ·exact oN h
    ·rename_i hc
     simp only[bQ,bY,not_or,Bool.not_eq_false,Option.isNone_iff_eq_none]at hc;obtain⟨⟨rfl,Kh⟩,GX⟩:=hc;split at h
     ·rename_i hg
      refine oK1 h λies h1 e_=>?_
      subst e_;exact yD O (O.calm Kh) GX hg (K.es O.toXO h1) h1 (br (jX h1) hn)
     ·rename_i hg
      refine oK1 h λies h1 e_=>?_
      subst e_;exact Bi O (O.calm Kh) GX hg (K.es O.toXO h1) h1
     ·exact oN h
   ·exact oN h
  ·exact oN h
 case Try=>
  unfold cS at h;dsimp only at h;split at h
  ·split at h
   ·rename_i b0 els0 fin0 pos0 hs0 y0 h0 Nv ty0 x0 np0
    split at h
    ·exact oN h
    ·rename_i hc
     have hc:(((((((els0=[]/\fin0=[])/\c.calm=true)/\c.fnc=true)/\fr=false)/\h0≠[])/\c.own=[])/\c.frz=false):=by simpa using hc
     obtain⟨⟨⟨⟨⟨⟨⟨rfl,rfl⟩,Kh⟩,GX⟩,rfl⟩,Mr⟩,Nw⟩,Nx⟩:=hc;simp only[bX,bD]at h;obtain⟨ib,h1,QL,h2,h⟩:=h;split at h
     ·exact oN h
     ·rename_i hg
      have hg:glob c x0=some .exc\/glob c x0=some .exk\/glob c x0=some .exf:=by
       by_cases z:glob c x0=some .exc
       ·exact .inl z
       ·by_cases z':glob c x0=some .exk
        ·exact .inr (.inl z')
        ·exact .inr (.inr (by simpa[z,z']using hg))
      match h0,Mr,h2 with
      | [],Mr,_=>exact absurd rfl Mr
      |b₀::Gh,_,h2=>
       split at h
       ·cases h;exact CF O Nx Nw hg (λEh pn Et O'=>ih.ss O' h1) (λy=>ih.ss (O.held y) h2)
       ·simp only[bD]at h;obtain⟨i,hl,h⟩:=h;split at h
        ·rename_i hn
         cases h;exact Dl O Nx Nw hg (fA (fN hl).1).1 (by simpa using hn) (λEh pn Et O'=>ih.ss O' h1) (λy=>ih.ss (O.held y) h2)
        ·exact oN h
   ·exact oN h
  ·exact oN h
 all_goals exact oN h
theorem nu:∀n,n<=100000->i' w g n
 | 0,_=>⟨λ_ _ _ _ h=>(by cases h),λ_ _ _ _ h=>by simp[cSs]at h⟩
 |n+1,h=>
  have ih:=nu n (Nat.le_of_succ_le h)
  ⟨λO _ _ _ q=>ih.s_succ (Nat.le_of_succ_le h) O q,λO _ _ _ q=>ih.ss_succ O q⟩
end
section
variable{w:W}{g:Gc}{c:Cc}{E:XK}{fr:Bool}{X:Cx}{H0:Hp}{B:Sh}{τ:Env}{σ:L2.St}{H H':Hp}{S:Sh}{n:Nat}
def mf(g:Gc)(E:XK)(fr:Bool)(H0:Hp)(B:Sh)(D:Ends):O->Prop
 | .nx _=>∀σ' H',qf H0 H'->D.nx σ' H'
 | .rt d=>∀v H',qf H0 H'->Rep g (hid H' B) d v->(fr=true->Fr g H0 B H' d v)->D.rt v H'
 | .ex k=>∀H' C dx,qf H0 H'->g.clA k.nm=some C->fj H0 H' dx k.fs->E (.ref C) dx H'
 |_=>False
theorem mf.out{D:Ends}{o:O}(h:mf g E fr H0 B D o):cg g c E fr H0 B H S D o:=by
 cases o with
 |nx t=>exact λσ' H' S' ss _=>h σ' H' ss.same
 |rt d=>exact h
 |ex k=>exact h
 |bk t=>exact h.elim
 |ct t=>exact h.elim
 |no=>exact h.elim
def uL(w:W)(g:Gc)(c:Cc)(E:XK)(fr:Bool)(s:Ss):TS:=λD σ H=>∃H0 B τ S,SS g c H0 B τ σ H S/\mf g E fr H0 B D (qe w s τ)
theorem u7(hn:n<=100000)(O:XS w g c E X){x:List Stmt}{ir:Ss}(h:j_ n c fr x=some ir):PSs X x (uL w g c E fr ir):=
 PSs.imp ((nu n hn).ss O h) λD σ H ⟨H0,B,τ,S,ss,z⟩=>⟨H0,B,τ,S,ss,z.out⟩
end
def GM0(p:Pr)(g:Gc)(mg:Str->Option ae)(x:Str):GK->Prop
 | .fn _=>∃f,g.fnA x=some f
 | .val=>∃u v d,mg x=some u/\RelV v u/\p.glb x=some d/\∀H,Rep g H d v
 | .bi b=>mg x=none/\x=b1N b/\∃id,b1V b=.builtin id
 | .rng=>mg x=none/\x = "range"
 | .enum=>mg x=none/\x = "enumerate"
 | .zip=>mg x=none/\x = "zip"
 | .isi=>mg x=none/\x = "isinstance"
 | .ty n b=>mg x=none/\bT x=some (.type n)/\(n∈["int","bool","str","list","tuple"]\/n = "ValueError")/\∀b',b=some b'->x=b1N b'/\b1V b'=.type n
 | .exc=>∃C,mg x=some (.ref C)/\g.clA x=some C/\pE g.K C
 | .exk=>∃C,mg x=some (.ref C)/\g.clA x=some C
 | .exf=>∃C,mg x=some (.ref C)/\g.clA x=some C
 | .set=>mg x=none/\bT x=some (.type "set")
structure Ground(p:Pr)(g:Gc)(G GH GU:List (Str×GK))(mg:Str->Option ae):Prop where
 fn:∀x f,g.fnA x=some f->∃st own fr fd fnn,p.fns x=some fnn/\cFn G GH own fr st=some fnn/\Fun g.K x x st f fd/\Binds g.K fd (argNames (ze st)) []/\de g.K (.ref f)=true/\mg x=some (.ref f)/\G.lookup x=some (.fn fr)
 gl:∀x k,G.lookup x=some k->GM0 p g mg x k
 gu:∀x k,GU.lookup x=some k->(∀fr,k≠.fn fr)/\k≠.exc/\GM0 p g mg x k
 gh:∀x k,GH.lookup x=some k->GU.lookup x=some k
 sub:∀k cl b,p.sub k cl=some b->∃C cv,g.clA k=some C/\fh g.K C/\b_ g.K (.ref C) cv=some b/\match cl with
  | .ty n=>n = "ValueError"/\cv=.type n
  | .ex x=>∃D,g.clA x=some D/\cv=.ref D
 cat:∀k x,p.cat k x=true->∀C D,g.clA k=some C->g.clA x=some D->cz g.K (.ref C) (.ref D)=some true
 fl:m9 p.fld g
abbrev wAt(p:Pr)(k:Nat):W:=⟨qc p k,p.glb,p.sub,p.cat,p.fld⟩
theorem Fs{N ps:List Str}{sc:a9}(h:jO N ps sc=true):i5 N ps sc:=by
 unfold jO at h;simp only[aL,beq_iff_eq,bY,decide_eq_true_eq,bF,bQ,bne_iff_ne,ne_eq]at h;obtain⟨⟨⟨⟨⟨⟨h1,h2⟩,h3⟩,h4⟩,h5⟩,h6⟩,h7⟩:=h;exact⟨h1,h2,h3,h4,h5,h6,h7⟩
theorem Ck{G GH:List (Str×GK)}{own:List Str}{fr:Bool}{st:Stmt}{fnn:Fn}(h:cFn G GH own fr st=some fnn):jO (jr (ze st) (qF st)) (argNames (ze st)) (qF st)=true/\(argNames (ze st)).any own.contains=false /\
  ∃b,j_ lN ⟨(qF st).names,jr (ze st) (qF st),own,G,true,true,true,GH,[],false⟩ fr (zQ st)=some b/\fnn=⟨(argNames (ze st)).length,(jr (ze st) (qF st)).length,fr,b⟩:=by
 unfold cFn at h;dsimp only at h;split at h
 ·exact oN h
 ·rename_i hc
  simp only[bQ,bY,not_or,Bool.not_eq_false,Bool.not_eq_true]at hc;simp only[bX,bD,cx]at h;obtain⟨b,h1,h2⟩:=h;exact⟨hc.1,hc.2,b,h1,h2.symm⟩
section
variable{P:aF}{w:aB}{K:az}{mg:Str->Option ae}{base:Heap}{N:List Str}{qual:Str}{scope:a9}{f:Addr}{cd:ae}{A:aG}{outer:List PySem.Env}{s₀:af}{H₀:Hp}{E:XK}
end
theorem GM0.gm{p:Pr}{g:Gc}{mg:Str->Option ae}{x:Str}{k:GK}{P:aF}{wl:aB}{base:Heap}{A:aG}{calm:Bool}{n:Nat}(h:GM0 p g mg x k)(hf:∀fr,k≠.fn fr):GM (wAt p n) g P wl mg base A calm x k:=by
 cases k with
 |fn Ms=>exact absurd rfl (hf Ms)
 |exc=>obtain⟨C,h1,h2,_⟩:=h;exact⟨C,h1,h2⟩
 |val=>exact h
 |bi b=>exact h
 |rng=>exact h
 |enum=>exact h
 |zip=>exact h
 |isi=>exact h
 |ty n b=>exact h
 |exk=>exact h
 |exf=>exact h
 |set=>exact h
theorem Cj{w:W}{g:Gc}{c:Cc}{E:XK}{X:Cx}{N ps own:List Str}{sc:a9}{fr:Bool}{body:List Stmt}{b:Ss}(Ny:c.N=N)(Pa:c.own=own)(Pb:c.frz=false)(FS:i5 N ps sc)(c2:ps.any own.contains=false)(c3:j_ lN c fr body=some b)
  (O:XS w g c E X) {vs:List V}{ds:List D}{B:Sh}{H:Hp}{Q:VK} (hB:Sub B H) (rv:qq g (hid H B) ds vs) (hl:ds.length=ps.length)
  (h:tR g E H (match qe w b (ds.map some++bR (N.length-ps.length) none)with
   | .nx _=>if fr then .no else .ok .non
   | .rt d=>.ok d
   | .ex c=>.ex c
   |_=>.no) (λd=>∀v H',qf H H'->Rep g (hid H' B) d v->(fr=true->Fr g H B H' d v)->Q v H')) :
  ∃t,PSs X body t/\t {nx:=λ_ H'=>Q .non H',rt:=Q} (start N vs) H:=by
 have QM:ps.length<=N.length:=by have:=congrArg List.length FS.pre;rw[dH]at this;lia
 refine⟨_,u7 (by decide) O c3,H,B,ds.map some++bR (N.length-ps.length) none,⟨λ_=>false,B.h,B.z,B.y⟩,?_,?_⟩
 ·-- at the start
  have hh:hid H ⟨λ_=>false,B.h,B.z,B.y⟩=hid H B:=rfl;have QN:=rv.length;have par:∀i d,(ds.map some++bR (N.length-ps.length) none)[i]? = some (some d)->i<ps.length/\ds[i]? = some d:=λi d hi=>by
   by_cases Gg:i<ds.length
   ·rw[List.getElem?_append_left (by simpa using Gg),List.getElem?_map]at hi;refine⟨by lia,?_⟩;cases q:ds[i]? with
    |none=>rw[q]at hi;exact oN hi
    |some e=>rw[q]at hi;simpa using hi
   ·rw[List.getElem?_append_right (by simpa using Gg)]at hi;rw[List.getElem?_replicate]at hi;split at hi<;>cases hi
  have noOwn:∀i d,zA c i->(ds.map some++bR (N.length-ps.length) none)[i]? = some (some d)->False:=λi d ⟨y,h1,h2⟩ hi=>by
   obtain⟨Gg,_⟩:=par i d hi;rw[Ny]at h1;rw[Pa]at h2;have:N.take ps.length=ps:=FS.pre;have hy:ps[i]? = some y:=by
    rw[<-this,List.getElem?_take,if_pos Gg];exact h1
   have:=List.any_eq_false.mp c2 y (List.mem_of_getElem? hy);exact this h2
  refine⟨⟨by simp[L2.start];lia,λi d hi=>?_,λa ha=>?_⟩,by simp[Ny];lia,qf.refl _,hB,(λa=>by simp),(λa ha=>by cases ha),(λi d ho hi=>(noOwn i d ho hi).elim),λi j d e a ho _ hi _ _ _=>(noOwn i d ho hi).elim,λz=>by rw[Pb]at z;cases z⟩
  ·obtain⟨Gg,hd⟩:=par i d hi;obtain⟨v,h1,h2⟩:=rv.get hd;have G9:i<vs.length:=by lia
   refine⟨v,?_,.inl h2,λ_ _ _=>h2⟩;unfold L2.start;rw[List.getElem?_append_left (by simpa using G9),List.getElem?_map,h1]
   rfl
  ·refine hB a ?_;rcases ha with ha|ha
   ·exact .inl ha
   ·cases ha
 ·-- at the end
  cases q:qe w b (ds.map some++bR (N.length-ps.length) none)with
  |nx τ'=>
   rw[q]at h;simp only at h;cases fr with
   |true=>exact h.elim
   |false=>exact λσ' H' hs=>h .non H' hs .non (by intro z;cases z)
  |rt d=>rw[q]at h;exact h
  |ex z=>rw[q]at h;exact h
  |bk z=>rw[q]at h;exact h.elim
  |ct z=>rw[q]at h;exact h.elim
  |no=>rw[q]at h;exact h.elim
section
variable{p:Pr}{g:Gc}{G GH GU:List (Str×GK)}{mg:Str->Option ae}{P:aF}{wl:aB}{base:Heap}
theorem Ground.ok(T:Ground p g G GH GU mg):∀(k:Nat) (x:Str) (f:Addr) (st:Stmt) (own:List Str) (fr:Bool) (fd:FuncData) (fnn:Fn),p.fns x=some fnn->cFn G GH own fr st=some fnn->Fun g.K x x st f fd ->
  gb P wl g.K mg base (CX1 P wl) k f fd (argNames (ze st)) (spF (wAt p k) g x fr)
 | 0,x,f,st,own,fr,fd,fnn,_,_,_=>⟨λvs H Q E ⟨S,ds,_,_,h⟩=>h.elim,λA outer s H args us vs Q E _ _ _ _ ⟨S,ds,_,_,h⟩=>h.elim⟩
 |k+1,x,f,st,own,fr,fd,fnn,hf,hc,F=>by
  obtain⟨c1,c2,b,c3,rfl⟩:=Ck hc;have FS:=Fs c1;generalize hN:jr (ze st) (qF st)=N at *;generalize QO:argNames (ze st)=ps at *;have call:∀ds,qc p (k+1) x ds=cW (wAt p k) ⟨ps.length,N.length,fr,b⟩ ds:=λds=>by simp only[qc,hf]
  have lenOf:∀vs H Q E,spF (wAt p (k+1)) g x fr vs H Q E->vs.length=ps.length:=λvs H Q E ⟨S,ds,_,r,h⟩=>by
   have h:tR g E H (qc p (k+1) x ds) _:=h;rw[call]at h;unfold cW at h;by_cases hl:ds.length=ps.length
   ·rw[<-r.length];exact hl
   ·rw[if_neg hl]at h;exact h.elim
  refine F.ok1 FS lenOf λcdv A outer s H vs Q E hr HV=>?_
  obtain⟨B,ds,hB,rv,h⟩:=HV;have h:tR g E H (qc p (k+1) x ds) (λd=>∀v H',qf H H'->Rep g (hid H' B) d v->(fr=true->Fr g H B H' d v)->Q v H'):=h;rw[call]at h;unfold cW at h;by_cases hl:ds.length=ps.length
  ·rw[if_pos hl]at h
   -- the ground of the body
   have calls:∀y fy,g.fnA y=some fy->∃fry,G.lookup y=some (.fn fry)/\ka (wAt p k) g P wl mg base (A.deeper (envOfC x (qF st) s.heap.objs.size f cdv)) true y fy fry:=λy fy hy=>by
    obtain⟨Pc,Mt,fry,Nz,Pd,z1,z2,z3,z4,z5,z6,z7⟩:=T.fn y fy hy;exact⟨fry,z7,z6,z5,k,Nz,_,z4,.inl ⟨rfl,Ground.ok T k y fy Pc Mt fry Nz Pd z1 z2 z3,hr⟩⟩
   have O:XS (wAt p k) g ⟨(qF st).names,N,own,G,true,true,true,GH,[],false⟩ E (eJ (CX1 P wl) P wl g.K mg base N x (qF st) f cdv A outer s H E):=by
    refine⟨⟨rfl,rfl,rfl,FS.nd,λ_=>rfl,⟨hr.units,hr.gd⟩,by have:=hr.dp;show (A.deeper _).depth+5<_;lia,λ_ _=>rfl,FS.kind,Ey,λy ky hy=>?_,λ_ y fy hy=>?_,T.sub,T.fl⟩,λ_=>DG,λy C hy hC=>?_,T.cat,⟨rfl,rfl,rfl⟩,λy ky hy=>?_⟩
    ·have:=T.gl y ky hy;by_cases hf:∃fr,ky=.fn fr
     ·obtain⟨Ms,rfl⟩:=hf;obtain⟨fy,h1⟩:=this;obtain⟨fry,h2,h3⟩:=calls y fy h1;have hy:G.lookup y=some (.fn Ms):=hy;rw[hy]at h2;cases h2;exact⟨fy,h1,h3⟩
     ·exact this.gm λfr z=>hf ⟨fr,z⟩
    ·obtain⟨fry,_,h3⟩:=calls y fy hy;exact⟨fry,h3⟩
    ·obtain⟨C',_,h2,h3⟩:=T.gl y .exc hy;rw[h2]at hC;cases hC;exact h3
    ·obtain⟨u1,u2,u3⟩:=T.gu y ky (T.gh y ky hy);exact⟨u2,λv=>u3.gm u1⟩
   exact Cj rfl rfl rfl FS c2 c3 O hB rv hl h
  ·rw[if_neg hl]at h;exact h.elim
end
end EV
namespace WB
open PySem PySem.Spec PyProof.Rows L2
structure Dd(K:az)(n:Str)(st:Stmt)(f:Addr):Prop where
 a:aI K aC n=some (some (.ref f))
 l:∃oc od an sl kV dc pm cd ct,K.lookup f=some ⟨oc,od,.func (cK n n (ze st) (zQ st) (qF st) .none kV dc pm an cd ct),sl⟩/\PySem.W.codeIn K cd n=true
 k:de K (.ref f)=true
theorem qA{K:az}{n:Str}{st:Stmt}{f:Addr}{od an:Option Addr}{sl:Array (Option ae)}{oc kV dc pm cd ct:ae}(a:aI K aC n=some (some (.ref f)))
  (l:K.lookup f=some ⟨oc,od,.func (cK n n (ze st) (zQ st) (qF st) .none kV dc pm an cd ct),sl⟩) (c:PySem.W.codeIn K cd n=true) (k:de K (.ref f)=true):Dd K n st f:=
 ⟨a,⟨oc,od,an,sl,kV,dc,pm,cd,ct,l,c⟩,k⟩
theorem Dd.fn{K:az}{n:Str}{st:Stmt}{f:Addr}(d:Dd K n st f):∃fd,Fun K n n st f fd:=by
 obtain⟨oc,od,an,sl,kV,dc,pm,cd,ct,l,c⟩:=d.l;exact⟨_,sR (st:=st) l c d.k⟩
theorem m5{K:az}{C:Addr}{c:ae}{dd:Option Addr}{cd:PySem.ClassData}{sl:Array (Option ae)}(s1:PySem.W.findIn K (.ref C) "__getattribute__" = some (some (.builtin "BaseException.__getattribute__")))
  (s2:PySem.W.findIn K (.ref C) "__getattr__" = some none) (s3:PySem.W.findIn K (.ref C) "__class__" = some (some (.builtin "object.__class__"))) (s4:PySem.W.mroIn K C (.type "BaseException")=some true) (s5:PySem.W.mroIn K C (.type "object")=some true)
  (s6:K.lookup C=some ⟨c,dd,.cls cd,sl⟩):fh K C:=⟨s1,s2,s3,s4,s5,⟨c,dd,cd,sl,s6⟩⟩
theorem Fe{K:az}{C:Addr}(s:PySem.W.subIn K (.ref C) (.type "ValueError")=some true):b_ K (.ref C) (.type "ValueError")=some true:=by
 unfold b_;rw[if_neg (λz=>by have:=eq_of_beq z;cases this)];show (if PySem.W.kitMeta "ValueError" = true then PySem.W.subIn K (.ref C) (.type "ValueError")else none)=_;rw[if_pos (by decide +kernel)];exact s
theorem vS{K:az}{C D:Addr}{x:PySem.ClassData}(u:PySem.W.subIn K (.ref D) (.type "BaseException")=some true)(c:PySem.W.clsIn K D=some x)(t:PySem.W.typeIn K (.ref D)=some (.type "type"))(s:PySem.W.subIn K (.ref C) (.ref D)=some true) :
  cz K (.ref C) (.ref D)=some true:=by
 unfold cz;rw[u,if_pos (by decide)];show (if ((PySem.W.clsIn K D).isSome&&PySem.W.typeIn K (.ref D)==some (.type "type"))=true then PySem.W.subIn K (.ref C) (.ref D)else none)=_;rw[c,t,if_pos (by rw[beq_self_eq_true];rfl)];exact s
theorem t_{us:List ae}(h:us.length=1):∃a,us=[a]:=List.length_eq_one_iff.mp h
theorem ud{n:Nat}{us:List ae}(h:us.length=n+1):∃a r,us=a::r/\r.length=n:=by
 cases us with
 |nil=>cases h
 |cons a r=>exact⟨a,r,rfl,Nat.succ.inj h⟩
theorem mv{us:List ae}(h:us.length=2):∃a b,us=[a,b]:=by
 obtain⟨a,r,e,h⟩:=ud h;obtain⟨b,q⟩:=t_ h;subst q;exact⟨a,b,e⟩
theorem xa{us:List ae}(h:us.length=3):∃a b c,us=[a,b,c]:=by
 obtain⟨a,r,e,h⟩:=ud h;obtain⟨b,c,q⟩:=mv h;subst q;exact⟨a,b,c,e⟩
structure Dk(K:az)(n:Str)(D:Addr):Prop where
 a:aI K aC n=some (some (.ref D))
 c:∃x,PySem.W.clsIn K D=some x
 t:PySem.W.typeIn K (.ref D)=some (.type "type")
end WB
namespace EV
open PySem PySem.Spec PySem.P PyProof.Rows L2
structure Ent where
 x:Str
 st:Stmt
 own:List Str
 fr:Bool
 fn:Fn
noncomputable def prT(tab:List Ent)(vals:List (Str×D))(dh:List (Str×Str))(subs:List ((Str×Cl)×Bool):=[])(zE:List (Str×List Str):=[]):Pr:=⟨λx=>(tab.find? (·.x==x)).map (·.fn),λx=>vals.lookup x,λk c=>subs.lookup (k,c),λk x=>dh.contains (k,x),λx=>zE.lookup x⟩
noncomputable def unx:GK->GK
 | .exc=>.exk
 | .exf=>.exk
 |k=>k
noncomputable def fD(oth:List (Str×GK)):List (Str×GK):=oth.map λy=>(y.1,unx y.2)
noncomputable def gE(us:List Ent)(oth:List (Str×GK)):List (Str×GK):=us.map (λe=>(e.x,GK.fn e.fr))++fD oth
theorem mI{x:Str}{k:GK}:∀{oth:List (Str×GK)},(fD oth).lookup x=some k->∃k0,oth.lookup x=some k0/\k=unx k0
 | [],h=>by cases h
 | (y,k1)::r,h=>by
  have h:List.lookup x ((y,unx k1)::fD r)=some k:=h;rw[bw]at h;split at h
  ·rename_i q;cases h;exact⟨k1,by rw[bw,q],rfl⟩
  ·rename_i q
   obtain⟨k0,h1,h2⟩:=mI h;exact⟨k0,by rw[bw,q];exact h1,h2⟩
theorem mM{x:Str}{k:GK}{oth:List (Str×GK)}:∀{us:List Ent},(gE us oth).lookup x=some k->(∃e∈us,e.x=x/\k=.fn e.fr)\/(fD oth).lookup x=some k
 | [],h=>.inr h
 |a::r,h=>by
  have h:List.lookup x ((a.x,GK.fn a.fr)::gE r oth)=some k:=h;rw[bw]at h;split at h
  ·rename_i q;cases h;exact .inl ⟨a,aQ,(eq_of_beq q).symm,rfl⟩
  ·rcases mM h with ⟨e,h1,h2⟩|h1
   ·exact .inl ⟨e,aO _ h1,h2⟩
   ·exact .inr h1
noncomputable def fc(K:az)(ns:List Str)(x:Str):Option Addr:=if ns.contains x then (match aI K aC x with
 |some (some (.ref f))=>some f
 |_=>none)else none
noncomputable def gOf(K:az)(fns cls:List Str):Gc:=⟨K,fc K fns,fc K cls⟩
theorem iH{K:az}{ns:List Str}{x:Str}{f:Addr}(h:aI K aC x=some (some (.ref f)))(hx:ns.contains x=true):fc K ns x=some f:=by
 unfold fc;rw[if_pos hx,h]
theorem jP{K:az}{ns:List Str}{x:Str}{f:Addr}(h:fc K ns x=some f):ns.contains x=true/\aI K aC x=some (some (.ref f)):=by
 unfold fc at h;split at h
 ·rename_i hx
  split at h
  ·rename_i q;cases h;exact⟨hx,q⟩
  ·exact oN h
 ·exact oN h
def Bnd(e:Ent):Prop:=∀(kV doc pm:ae) (an:Option Addr) (cdv ct:ae) (us:List ae),us.length=(argNames (ze e.st)).length->bindArgs (cK e.x e.x (ze e.st) (zQ e.st) (qF e.st) .none kV doc pm an cdv ct) ⟨us,[]⟩=pure ((argNames (ze e.st)).zip us)
structure jf(K:az)(G:List (Str×GK))(e:Ent):Prop where
 dd:∃f,WB.Dd K e.x e.st f
 bnd:Bnd e
def mW(K:az)(vals:List (Str×D))(x:Str):GK->Prop
 | .fn _=>True
 | .val=>∃u v d,aI K aC x=some (some u)/\RelV v u/\vals.lookup x=some d/\∀g H,g.K=K->Rep g H d v
 | .bi b=>aI K aC x=some none/\x=b1N b/\∃id,b1V b=.builtin id
 | .rng=>aI K aC x=some none/\x = "range"
 | .enum=>aI K aC x=some none/\x = "enumerate"
 | .zip=>aI K aC x=some none/\x = "zip"
 | .isi=>aI K aC x=some none/\x = "isinstance"
 | .ty n b=>aI K aC x=some none/\bT x=some (.type n)/\(n∈["int","bool","str","list","tuple"]\/n = "ValueError")/\∀b',b=some b'->x=b1N b'/\b1V b'=.type n
 | .exc=>∃C,aI K aC x=some (some (.ref C))/\PySem.W.excIn K C dk "ValueError.__new__" = true
 | .exk=>∃C,aI K aC x=some (some (.ref C))
 | .exf=>∃C,aI K aC x=some (some (.ref C))
 | .set=>aI K aC x=some none/\bT x=some (.type "set")
def nL(K:az)(y:Str×List Str):Prop:=∃C fI,aI K aC y.1=some (some (.ref C))/\dn K C fI y.2/\fT K fI y.2/\y.2.length<=100/\y.2≠[]
def ny(K:az)(cls:List Str)(y:(Str×Cl)×Bool):Prop:=∃C cv,cls.contains y.1.1=true/\aI K aC y.1.1=some (some (.ref C))/\fh K C/\b_ K (.ref C) cv=some y.2/\match y.1.2 with
 | .ty n=>n = "ValueError"/\cv=.type n
 | .ex x=>∃D,cls.contains x=true/\aI K aC x=some (some (.ref D))/\cv=.ref D
theorem kQ{α β:Type} [BEq α] [LawfulBEq α]{a:α}{b:β}:∀{l:List (α×β)},l.lookup a=some b->(a,b)∈l
 | (c,d)::r,h=>by
  rw[bw]at h;split at h
  ·rename_i q;cases h;rw[eq_of_beq q];exact aQ
  ·exact aO _ (kQ h)
theorem rK{tab:List Ent}{e:Ent}(hn:(tab.map (·.x)).Nodup)(he:e∈tab):tab.find? (·.x==e.x)=some e:=by
 induction tab with
 |nil=>simp at he
 |cons a r ih=>
  simp only[aN,List.nodup_cons]at hn;rw[List.find?_cons];rcases aP.mp he with rfl|h
  ·simp
  ·have:(a.x==e.x)=false:=by
    cases q:a.x==e.x with
    |false=>rfl
    |true=>
     have:=eq_of_beq q;exact absurd (this▸aY.mpr ⟨e,h,rfl⟩) hn.1
   rw[this];exact ih hn.2 h
theorem Br{K:az}{h:Heap}{mg:Str->Option ae}(X:K.In h)(N:h.Ns aC mg){tab:List Ent}{oth G:List (Str×GK)}{vals:List (Str×D)}(hG:G=tab.map (λe=>(e.x,GK.fn e.fr))++oth)
  (HF:(tab.map (·.x)).Nodup) (ho:∀x k,oth.lookup x=some k->mW K vals x k) (NA:∀x fr,oth.lookup x≠some (.fn fr)) {us:List Ent} (NB:∀e∈us,e∈tab) (Pe:∀e∈us,rQ (fD oth) e.own e.fr e.st=some e.fn) (hc:∀e∈tab,cFn G (gE us oth) e.own e.fr e.st=some e.fn) (he:∀e∈tab,jf K G e) (cls:List Str) {dh:List (Str×Str)} (Mu:∀y∈dh,∃C D,aI K aC y.1=some (some (.ref C))/\aI K aC y.2=some (some (.ref D))/\cz K (.ref C) (.ref D)=some true) (HB:∀x,(oth.lookup x=some .exc\/oth.lookup x=some .exk\/oth.lookup x=some .exf)->cls.contains x=true)
  {subs:List ((Str×Cl)×Bool)} (Gj:∀y∈subs,ny K cls y) {zE:List (Str×List Str)} (NC:∀y∈zE,nL K y) :
  Ground (prT tab vals dh subs zE) (gOf K (tab.map (·.x)) cls) G (gE us oth) (fD oth) mg:=by
 have lk:∀x k,G.lookup x=some k->(∃e∈tab,e.x=x/\k=.fn e.fr)\/oth.lookup x=some k:=by
  subst hG;clear HF hc he NB
  induction tab with
  |nil=>intro x k hx;exact .inr hx
  |cons a r ih=>
   intro x k hx;simp only[aN,List.cons_append,bw]at hx;split at hx
   ·rename_i q;cases hx;exact .inl ⟨a,aQ,(eq_of_beq q).symm,rfl⟩
   ·rcases ih x k hx with ⟨e,h1,h2⟩|h1
    ·exact .inl ⟨e,aO _ h1,h2⟩
    ·exact .inr h1
 have Pf:∀e∈tab,G.lookup e.x=some (.fn e.fr):=by
  subst hG;clear hc he lk NB
  induction tab with
  |nil=>intro e h;simp at h
  |cons a r ih=>
   intro e hm;simp only[aN,List.nodup_cons]at HF;simp only[aN,List.cons_append,bw];rcases aP.mp hm with rfl|hm
   ·rw[beq_self_eq_true]
   ·have:(e.x==a.x)=false:=by
     cases q:e.x==a.x with
     |false=>rfl
     |true=>exact absurd ((eq_of_beq q)▸aY.mpr ⟨e,hm,rfl⟩) HF.1
    rw[this];exact ih HF.2 e hm
 have Pg:∀k x,dh.contains (k,x)=true->∀C D,fc K cls k=some C->fc K cls x=some D->cz K (.ref C) (.ref D)=some true:=λk x z C D h1 h2=>by
  obtain⟨C',D',e1,e2,e3⟩:=Mu (k,x) (by simpa using z);have a1:=(jP h1).2;have a2:=(jP h2).2;rw[e1]at a1;rw[e2]at a2;cases a1;cases a2;exact e3
 have ND:∀e∈tab,∃f fd,fc K (tab.map (·.x)) e.x=some f/\Fun K e.x e.x e.st f fd/\Binds K fd (argNames (ze e.st)) []/\de K (.ref f)=true/\mg e.x=some (.ref f):=λe hm=>by
  obtain⟨⟨f',d⟩,hb⟩:=he e hm;obtain⟨fd,F⟩:=d.fn;exact⟨f',fd,iH d.a (by simpa using aY.mpr ⟨e,hm,rfl⟩),F,F.binds hb,d.k,PySem.W.mg_of X N d.a⟩
 have Ph:∀e∈tab,(prT tab vals dh subs zE).fns e.x=some e.fn:=λe hm=>by show (tab.find? (·.x==e.x)).map (·.fn)=_;rw[rK HF hm];rfl
 have gl:∀x k,oth.lookup x=some k->GM0 (prT tab vals dh subs zE) (gOf K (tab.map (·.x)) cls) mg x k:=λx k hk=>by
  have:=ho x k hk;cases k with
  |fn fr=>exact absurd hk (NA x fr)
  |val=>obtain⟨u,v,d,h1,h2,h3,h4⟩:=this;exact⟨u,v,d,PySem.W.mg_of X N h1,h2,h3,λH=>h4 _ H rfl⟩
  |bi b=>exact⟨ed X N this.1,this.2⟩
  |rng=>exact⟨ed X N this.1,this.2⟩
  |enum=>exact⟨ed X N this.1,this.2⟩
  |zip=>exact⟨ed X N this.1,this.2⟩
  |isi=>exact⟨ed X N this.1,this.2⟩
  |ty n b=>exact⟨ed X N this.1,this.2⟩
  |exc=>obtain⟨C,h1,h2⟩:=this;exact⟨C,PySem.W.mg_of X N h1,iH h1 (HB x (.inl hk)),h2⟩
  |exk=>obtain⟨C,h1⟩:=this;exact⟨C,PySem.W.mg_of X N h1,iH h1 (HB x (.inr (.inl hk)))⟩
  |exf=>obtain⟨C,h1⟩:=this;exact⟨C,PySem.W.mg_of X N h1,iH h1 (HB x (.inr (.inr hk)))⟩
  |set=>exact⟨ed X N this.1,this.2⟩
 refine⟨λx f hf=>?_,λx k hx=>?_,λx k hx=>?_,λx k hx=>?_,λk cl b z=>?_,Pg,λx fs z C hC=>?_⟩
 ·obtain⟨h1,h2⟩:=jP hf;obtain⟨e,hm,rfl⟩:=aY.mp (by simpa using h1:x∈tab.map (·.x));obtain⟨f',fd,z1,z2,z3,z4,z5⟩:=ND e hm;have hf:fc K (tab.map (·.x)) e.x=some f:=hf;rw[hf]at z1;cases z1;exact⟨e.st,e.own,e.fr,fd,e.fn,Ph e hm,hc e hm,z2,z3,z4,z5,Pf e hm⟩
 ·rcases lk x k hx with ⟨e,hm,rfl,rfl⟩|hk
  ·obtain⟨f',fd,z1,_⟩:=ND e hm;exact⟨f',z1⟩
  ·exact gl x k hk
 ·obtain⟨k0,h1,rfl⟩:=mI hx;have:=gl x k0 h1;cases k0 with
  |fn fr=>exact absurd h1 (NA x fr)
  |exc=>obtain⟨C,z1,z2,_⟩:=this;exact⟨by simp[unx],by simp[unx],⟨C,z1,z2⟩⟩
  |_=>exact⟨by simp[unx],by simp[unx],this⟩
 ·rcases mM hx with ⟨e,hm,rfl,rfl⟩|hk
  ·have:=Pe e hm;cases this
  ·exact hk
 ·have z:subs.lookup (k,cl)=some b:=z;obtain⟨C,cv,h0,h1,h2,h3,h4⟩:=Gj _ (kQ z);refine⟨C,cv,iH h1 h0,h2,h3,?_⟩;cases cl with
  |ty n=>exact h4
  |ex x=>obtain⟨D,d0,d1,d2⟩:=h4;exact⟨D,iH d1 d0,d2⟩
 ·obtain⟨C',fI,h1,h2⟩:=NC _ (kQ (show zE.lookup x=some fs from z));have:=(jP hC).2;rw[h1]at this;cases this;exact⟨fI,h2⟩
theorem BD{l:PySem.W.OpenLaw}{q:aF}{loose:List Str}{XP:(Str->Option ae)->Heap->Prop}{YP:aB->Heap->Prop}{d:DefRec}{K:Params->az}{tab:List Ent}{G:List (Str×GK)}{vals:List (Str×D)}{cls:List Str}{dh:List (Str×Str)}{subs:List ((Str×Cl)×Bool)}{zE:List (Str×List Str)}{GH GU:List (Str×GK)}{e:Ent}{k:Nat}
  (hn:l.most=some 63) (IM:d.params.defaults=[]) (hd:d.name=e.x) (hr:cP k callerA) (hY:∀(w:aB) (h:Heap),YP w h->(K w.params).In h) (hm:e∈tab) (HF:(tab.map (·.x)).Nodup) (hx:e.x = "law") (GQ:e.fr=false) (hp:argNames (ze e.st)=[("_law_script" : Str)])
  (hG:∀(w:aB) (mg:Str->Option ae) (h:Heap),(K w.params).In h->h.Ns aC mg->Ground (prT tab vals dh subs zE) (gOf (K w.params) (tab.map (·.x)) cls) G GH GU mg/\jf (K w.params) G e) (hc:cFn G GH e.own e.fr e.st=some e.fn)
  (Mv:∀ns:List Int,ns.length<=63->qc (prT tab vals dh subs zE) k "law" [.lst (ns.map D.int)]=.ok (.bl true)) :
  PySem.W.WalkO q loose XP YP l.row.toRowW d [] (λf vs=>PySem.call f vs):=by
 refine L2.DN (n:=63) (k:=k) (x:="_law_script") (CX:=λw=>CX1 l.prog w) (sp:=λw=>spF (wAt (prT tab vals dh subs zE) k) (gOf (K w.params) (tab.map (·.x)) cls) "law" false) hn (by decide) IM hr hY (λw mg fa h KX N hfa=>?_) (λw H a ns hl _ hS=>?_) λw H s e s' z=>?_
 ·obtain⟨T,⟨f,dd⟩,hb⟩:=hG w mg h KX N;have e1:=hfa.symm.trans (hd▸PySem.W.mg_of KX N dd.a);cases e1;obtain⟨oc,od,an,sl,kV,dc,pm,cd,ct,lk,GO⟩:=dd.l;refine⟨cK e.x e.x (ze e.st) (zQ e.st) (qF e.st) .none kV dc pm an cd ct,λs u=>.of_eq ?_,λbase _ _=>?_⟩
  ·have:=hb kV dc pm an cd ct [u] (by rw[hp];rfl);rw[hp]at this;exact this
  ·have:=T.ok (P:=l.prog) (wl:=w) (base:=base) k e.x fa e.st e.own e.fr _ e.fn (by show (tab.find? (·.x==e.x)).map (·.fn)=_;rw[rK HF hm];rfl) hc (sR (st:=e.st) lk GO dd.k);rw[hp,hx,GQ]at this;rw[hx];exact this
 ·refine⟨⟨λ_=>false,λ_=>false,[],λ_=>none⟩,[.lst (ns.map D.int)],(λa z=>by rcases z with z|z<;>cases z),.cons (.lst (xs:=ns.map V.int) ?_ (qq.ofInts _)) .nil,?_⟩
  ·have:hid H ⟨λ_=>false,λ_=>false,[],λ_=>none⟩=H:=by funext b;unfold hid;rw[if_neg (by simp)]
   rw[this];exact hS
  ·show tR _ _ _ (qc (prT tab vals dh subs zE) k "law" [.lst (ns.map D.int)]) _;rw[Mv ns hl];intro v H' _ r _;cases r;rfl
 ·obtain⟨_,_,_,_,_,_,_,_,_,_,z⟩:=z;exact z
end EV
namespace L2
open PySem PySem.Spec PySem.W PyProof.Rows
noncomputable def Ea(st:Stmt)(i:Nat):Stmt:=match st with
 | .ClassDef (body:=b) .. => b.getD i (.Pass ⟨0,0,0,0⟩)
 |_=>.Pass ⟨0,0,0,0⟩
noncomputable def m8(self:Str)(fs:List Str)(st:Stmt):Bool:=(qF st).kind==.function && !(qF st).isCoroutine && !(qF st).isGenerator&&(self::fs).all (λf=>(qF st).names.lookup f==some .local)&&shp self fs (zQ st)&&decide (self::fs).Nodup && !(self==("__debug__" : Str))
section
variable{K:Frag}{C fI Ap N:Addr}{fs:List Str}{nm q:Str}{bs sub:List ae}{sn:List Str}{ab:Bool}{col:Option Bool}{dd od an:Option Addr}{k0 k1 k2 k3 k5:Option ae}{st:Stmt}{self:Str}{kV dc pm cd ct:ae}{sl:Array (Option ae)}{f g:Str}
theorem BG(see:fh K C)(l:K.lookup C=some (excClassObj nm q C N bs (.ref Ap::dk) true sn sub ab col dd k0 k1 k2 k3 k5 "ValueError.__new__"))(x:excIn K Ap dk "ValueError.__new__" = true)(i:findIn K (.ref C) "__init__" = some (some (.ref fI)))
  (s:findIn K (.ref C) "__setattr__" = some (some (.builtin "object.__setattr__"))) (h:∀f∈fs,findIn K (.ref C) f=some none):dn K C fI fs:=⟨see,⟨_,_,_,_,_,_,_,_,_,_,_,_,_,_,_,l,x⟩,i,s,h⟩
theorem uC(h:findIn K (.ref C) f=some none):∀y∈[f],findIn K (.ref C) y=some none:=λy hy=>by
 have:y=f:=by simpa using hy
 rw[this];exact h
theorem yE(lk:K.lookup fI=some ⟨.type "function",od,.func (fnOf nm q (ze st) (zQ st) (qF st) .none kV dc pm an cd ct),sl⟩)(GO:codeIn K cd q=true)(ck:m8 self fs st=true)
  (hb:∀us:List ae,us.length=fs.length+1->bindArgs (fnOf nm q (ze st) (zQ st) (qF st) .none kV dc pm an cd ct) ⟨us,[]⟩=pure ((self::fs).zip us)):fT K fI fs:=by
 unfold m8 at ck;simp only[aL,beq_iff_eq,bY,decide_eq_true_eq,bF]at ck;obtain⟨⟨⟨⟨⟨⟨c1,c2⟩,c3⟩,c4⟩,c5⟩,c6⟩,c7⟩:=ck;exact⟨self,nm,q,_,_,_,kV,dc,pm,an,cd,ct,od,sl,lk,GO,⟨c1,c2,c3,c4⟩,c5,c6,c7,hb⟩
end
end L2
namespace KG
open EV
open PySem (Str)
open L2 (atI ixN ltP)
abbrev prD:Int×Int->D:=EV.pairD
theorem qk{w:W}{f:Fn}{ds:List D}{d:D}{τ:Env}(hl:ds.length=f.ps)(hτ:ds.map some++bR (f.N-f.ps) none=τ)(h:qe w f.body τ=.rt d):cW w f ds=.ok d:=by
 rw[cW,if_pos hl,hτ,h]
theorem dM{w:W}{s:S}{r:Ss}{τ σ:Env}{o:O}(h:evS w s τ=.nx σ)(h':qe w r σ=o):qe w (.cons s r) τ=o:=by rw[qe,h];exact h'
theorem eE{w:W}{it:It}{cap:List (Option Nat)}{t:T}{elt:E}{τ c:Env}{ds:List D}{g:D->List D}(h:evI w it τ=.ok ds)(hz:ds.length<=SZ)(hc:dP cap τ=none::none::c)
  (hb:∀x∈ds,((evT w t (none::some x::c)).bind λr=>if r then (evE w elt (none::some x::c)).bind λd=>.ok [d]else .ok [])=.ok (g x)):evE w (.comp it cap (.nm 1) t elt) τ=.ok (.lst (ds.flatMap g)):=by
 have key:∀(l:List D) (v:Option D) (acc:List D),(∀x∈l,x∈ds)->zP (λx σ=>noEx ((store (.nm 1) x σ).bind λσ'=>(evT w t σ').bind λr=>if r then (evE w elt σ').bind λd=>.ok (σ',[d])else .ok (σ',[]))) l (none::v::c) acc=.ok (acc++l.flatMap g):=by
  intro l
  induction l with
  |nil=>intro v acc _;simp[zP]
  |cons x r ih=>
   intro v acc hm;have q:=hb x (hm x aQ);rw[zP];have e:noEx ((store (.nm 1) x (none::v::c)).bind λσ'=>(evT w t σ').bind λr=>if r then (evE w elt σ').bind λd=>.ok (σ',[d])else .ok (σ',[]))=.ok (none::some x::c,g x):=by
    simp only[store,R.bind_ok,List.set_cons_succ,List.set_cons_zero];cases ht:evT w t (none::some x::c)with
    |ok b=>
     rw[ht]at q;simp only[R.bind_ok]at q ⊢;cases b
     ·simp at q ⊢;rw[<-q];rfl
     ·simp only[if_true]at q ⊢;cases he:evE w elt (none::some x::c)with
      |ok d=>rw[he]at q;simp only[R.bind_ok,R.ok.injEq]at q ⊢;rw[<-q];rfl
      |ex=>rw[he]at q;cases q
      |no=>rw[he]at q;cases q
    |ex=>rw[ht]at q;cases q
    |no=>rw[ht]at q;cases q
   rw[e];simp only[R.bind_ok];rw[ih (some x) _ λy hy=>hm y (aO _ hy),cy,bu]
 rw[qE,h];simp only[R.bind_ok];rw[if_neg (by lia),hc,key ds none [] λ_ h=>h]
 rfl
theorem nI{w:W}{it:It}{cap:List (Option Nat)}{t:T}{elt:E}{τ c:Env}{ds:List D}{g:D->List D}(h:evI w it τ=.ok ds)(hz:ds.length<=SZ)(hc:dP cap τ=none::none::none::c)
  (hb:∀x∈ds,∃a b,x=.tup [a,b]/\((evT w t (none::some a::some b::c)).bind λr=>if r then (evE w elt (none::some a::some b::c)).bind λd=>.ok [d]else .ok [])=.ok (g x)):evE w (.comp it cap (.tp [1,2]) t elt) τ=.ok (.lst (ds.flatMap g)):=by
 have key:∀(l:List D) (v u:Option D) (acc:List D),(∀x∈l,x∈ds)->zP (λx σ=>noEx ((store (.tp [1,2]) x σ).bind λσ'=>(evT w t σ').bind λr=>if r then (evE w elt σ').bind λd=>.ok (σ',[d])else .ok (σ',[]))) l (none::v::u::c) acc=.ok (acc++l.flatMap g):=by
  intro l
  induction l with
  |nil=>intro v u acc _;simp[zP]
  |cons x r ih=>
   intro v u acc hm;obtain⟨a,b,rfl,q⟩:=hb x (hm x aQ);rw[zP];have e:noEx ((store (.tp [1,2]) (.tup [a,b]) (none::v::u::c)).bind λσ'=>(evT w t σ').bind λr=>if r then (evE w elt σ').bind λd=>.ok (σ',[d])else .ok (σ',[]))=.ok (none::some a::some b::c,g (.tup [a,b])):=by
    simp only[store,setAll,bM,List.length_nil,if_true,R.bind_ok,List.set_cons_succ,List.set_cons_zero];cases ht:evT w t (none::some a::some b::c)with
    |ok b'=>
     rw[ht]at q;simp only[R.bind_ok]at q ⊢;cases b'
     ·simp at q ⊢;rw[q];rfl
     ·simp only[if_true]at q ⊢;cases he:evE w elt (none::some a::some b::c)with
      |ok d=>rw[he]at q;simp only[R.bind_ok,R.ok.injEq]at q ⊢;rw[<-q];rfl
      |ex=>rw[he]at q;cases q
      |no=>rw[he]at q;cases q
    |ex=>rw[ht]at q;cases q
    |no=>rw[ht]at q;cases q
   rw[e];simp only[R.bind_ok];rw[ih (some a) (some b) _ λy hy=>hm y (aO _ hy),cy,bu]
 rw[qE,h];simp only[R.bind_ok];rw[if_neg (by lia),hc,key ds none none [] λ_ h=>h]
 rfl
theorem Ft{w:W}{i:Int}:cC w (.int i) (.ty "int")=.ok (.bl true):=rfl
theorem yL{w:W}{i:Int}:cC w (.int i) (.ty "bool")=.ok (.bl false):=rfl
theorem wG{w:W}{i:List D}:cC w (.tup i) (.ty "tuple")=.ok (.bl true):=rfl
theorem DY{w:W}{i:List D}:cC w (.tup i) (.ty "bool")=.ok (.bl false)/\cC w (.tup i) (.ty "int")=.ok (.bl false)/\cC w (.tup i) (.ty "str")=.ok (.bl false)/\cC w (.tup i) (.ty "list")=.ok (.bl false):=⟨rfl,rfl,rfl,rfl⟩
theorem Au{w:W}{i:Bool}:cC w (.bl i) (.ty "bool")=.ok (.bl true):=rfl
theorem D2(i:Int):(D.int i).asks=true:=rfl
theorem AU(t:Int×Int):(prD t).asks=true:=rfl
theorem mQ:∀ns:List Int,plainAll (ns.map D.int)=true
 | []=>rfl
 |_::r=>mQ r
theorem o6:∀ns:List Int,fR (ns.map D.int)=0
 | []=>rfl
 |_::r=>by show max 0 (fR _)=0;rw[o6 r];rfl
theorem jz(ns:List Int):(D.tup (ns.map D.int)).asks=true:=by
 simp[D.asks,D.plain,D.deep,mQ,o6]
theorem lR:∀ns ms:List Int,eqvAll (ns.map D.int) (ms.map D.int)=decide (ns=ms)
 | [],[]=>rfl
 | [],_::_=>rfl
 |_::_,[]=>rfl
 |a::r,b::t=>by
  show (a==b&&eqvAll (r.map D.int) (t.map D.int))=_;rw[lR r t];simp[Bool.decide_and]
  rfl
noncomputable def mn(a b:Int):Int:=if b<a then b else a
noncomputable def mx(a b:Int):Int:=if a<b then b else a
noncomputable def el(ts:List (Int×Int))(a b:Int):Bool:=ts.any λt=>t.1==mn a b&&t.2==mx a b
theorem Df(ts:List (Int×Int))(u v:Int):qh .isin (.tup [.int u,.int v]) (.tup (ts.map prD))=.ok (ts.any λt=>t.1==u&&t.2==v):=by
 simp only[zZ,zq,zy,zt,dW,zY,zX];simp only[seq?];rw[if_pos (by simp only[aL,bF,aY];exact⟨rfl,λx ⟨t,_,e⟩=>e▸AU t⟩),inD,List.any_map]
 congr 2;funext t;show ((t.1==u)&&((t.2==v)&&true))=_;rw[Bool.and_true]
theorem vk(ns:List Int)(a:Int):qh .isin (.int a) (.tup (ns.map D.int))=.ok (ns.any λt=>t==a):=by
 simp only[zZ,zq,zy,zt,dW,zY,zX];simp only[seq?];rw[if_pos (by simp only[aL,bF,aY];exact⟨rfl,λx ⟨t,_,e⟩=>e▸D2 t⟩),inD,List.any_map]
 rfl
theorem lE(ns ms:List Int):qh .eq (.tup (ns.map D.int)) (.tup (ms.map D.int))=.ok (decide (ns=ms)):=by
 simp only[zZ,zq,zy,zt,dW,zY,zX]
 ·rw[if_pos (by simp only[aL];exact⟨jz _,jz _⟩)];show R.ok (eqvAll _ _)=_;rw[lR]
 all_goals (intros;rintro⟨⟩)
structure GW(m:Int)(ts:List (Int×Int)):Prop where
 lo:1<=m
 hi:m<=8
 lt:ts.Pairwise λs t=>ltP s t=true
 ok:∀t∈ts,0<=t.1/\t.1<t.2/\t.2<m
 len:ts.length<=28
structure GS(m:Int)(s:List Int):Prop where
 lt:s.Pairwise (· < ·)
 ok:∀i∈s,0<=i/\i<m
 len:s.length<=8
abbrev wb(m:Int)(ts:List (Int×Int)):D:=.tup [.int m,.tup (ts.map prD)]
abbrev tu(s:List Int):D:=.tup (s.map D.int)
theorem fO{xs:List D}{i:Nat}(h:i<xs.length):atI xs (i:Int)=some xs[i]:=by
 rw[atI,ixN,if_pos (by lia),if_pos (by lia)];simp[h]
theorem all_true(xs:List D):bools? (xs.flatMap λ_=>[.bl true])=some (bR xs.length true):=by
 induction xs with
 |nil=>rfl
 |cons x r ih=>show (bools? (r.flatMap λ_=>[.bl true])).map (true :: ·)=_;rw[ih];rfl
theorem E6(n:Nat):(bR n true).all id=true:=by simp
theorem yO{s t:Int×Int}(h:ltP s t=true):qh .lt (prD s) (prD t)=.ok true:=by
 show R.ok (dA [s.1,s.2] [t.1,t.2])=_;rw[ltP]at h;simp only[dA];by_cases e:s.1=t.1
 ·rw[if_pos e]at h ⊢;by_cases e2:s.2=t.2
  ·rw[e2]at h;simp at h
  ·rw[if_neg e2,h]
 ·rw[if_neg e]at h ⊢;rw[h]
noncomputable def rng(m:Int):List Int:=(aS m.toNat).map λ(i:Nat)=>(i:Int)
theorem zK(m:Int):zk 0 m.toNat=(rng m).map D.int:=by
 rw[zk,rng,cc];simp
theorem fq(m:Int):(rng m).length=m.toNat:=by simp[rng]
theorem dY{m i:Int}:i∈rng m↔0<=i/\i<m:=by
 simp only[rng,aY,List.mem_range];constructor
 ·rintro⟨a,h,rfl⟩;lia
 ·intro h;exact⟨i.toNat,by lia,by lia⟩
theorem D9(m:Int):(rng m).Pairwise (· < ·):=by
 rw[rng,List.pairwise_map];exact List.pairwise_lt_range.imp λh=>by lia
theorem lu(c:Int->Bool)(ns:List Int):(ns.map D.int).flatMap (λx=>match x with | .int i=>if c i then [D.int i]else []|_=>[])=(ns.filter c).map D.int:=by
 induction ns with
 |nil=>rfl
 |cons a r ih=>
  rw[aN,cy,ih,dF];show (if c a=true then [D.int a]else [])++_=_;cases c a<;>rfl
theorem Co(x y:Int)(h:0<y)(h':y<=2^64):small (x%y)=true:=by
 have a:=Int.emod_nonneg x (show y≠0 by lia);have b:=Int.emod_lt_of_pos x h;simp only[small,aL,decide_eq_true_eq];lia
noncomputable def st(c j:Int):Int:=
 ((((c%2147483647+977 * j+1) * 48271%2147483647) * ((c%2147483647+977 * j+1) * 48271%2147483647)%2147483629+40692 * (j+3)) * 69621%2147483647)/8
theorem GW.sub{m:Int}{ts ps:List (Int×Int)}(h:GW m ps)(s:ts.Sublist ps):GW m ts:=
 ⟨h.lo,h.hi,h.lt.sublist s,λt ht=>h.ok t (s.subset ht),br s.length_le h.len⟩
theorem eq_int(a b:Int):qh .eq (.int a) (.int b)=.ok (decide (a=b)):=by
 show R.ok (a==b)=_;congr 1
theorem lt_int(a b:Int):qh .lt (.int a) (.int b)=.ok (decide (a<b)):=rfl
theorem ints_map(ns:List Int):ints? (ns.map D.int)=some ns:=by
 induction ns with
 |nil=>rfl
 |cons a r ih=>show (ints? (r.map D.int)).map (a :: ·)=_;rw[ih];rfl
theorem nj{f:Int->D}(ns:List Int):(ns.map D.int).flatMap (λx=>match x with | .int i=>[f i]|_=>[])=ns.map f:=by
 induction ns with
 |nil=>rfl
 |cons a r ih=>rw[aN,cy,ih];rfl
noncomputable instance (m:Int) (ts:List (Int×Int)):Decidable (GW m ts):=
 decidable_of_iff (1<=m/\m<=8/\ts.Pairwise (λs t=>ltP s t=true)/\(∀t∈ts,0<=t.1/\t.1<t.2/\t.2<m)/\ts.length<=28) ⟨λ⟨a,b,c,d,e⟩=>⟨a,b,c,d,e⟩,λ⟨a,b,c,d,e⟩=>⟨a,b,c,d,e⟩⟩
def Ends(J:Env->Prop)(Q:D->Prop):O->Prop
 | .nx σ=>J σ
 | .rt d=>Q d
 |_=>False
section
variable{w:W}{J K:Env->Prop}{Q:D->Prop}{s:S}{r:Ss}{τ σ:Env}
theorem zv(h:J τ):Ends J Q (qe w .nil τ):=by rw[qe];exact h
theorem zj(h:evS w s τ=.nx σ)(h':Ends J Q (qe w r σ)):Ends J Q (qe w (.cons s r) τ):=by rw[qe,h];exact h'
theorem eO(h:Ends K Q (evS w s τ))(h':∀σ,K σ->Ends J Q (qe w r σ)):Ends J Q (qe w (.cons s r) τ):=by
 rw[qe];cases q:evS w s τ with
 |nx σ=>rw[q]at h;exact h' σ h
 |rt d=>rw[q]at h;exact h
 |_=>rw[q]at h;exact h.elim
theorem fZ{e:E}{d:D}(h:evE w e τ=.ok d)(hq:Q d):Ends J Q (qe w (.cons (.ret e) r) τ):=by
 rw[qe,zm,h];exact hq
theorem h_{t:T}{a b:Ss}{v:Bool}(h:evT w t τ=.ok v)(h1:v=true->Ends J Q (qe w a τ))(h2:v=false->Ends J Q (qe w b τ)):Ends J Q (evS w (.ite t a b) τ):=by
 rw[zO,h];cases v
 ·exact h2 rfl
 ·exact h1 rfl
theorem fv{tg:Tg}{it:It}{b:Ss}{ds:List D}(I:List D->Env->Prop)(h:evI w it τ=.ok ds)(h0:I ds τ)(hs:∀x t σ,I (x::t) σ->∃σ1,store tg x σ=.ok σ1/\Ends (I t) Q (qe w b σ1))(hn:∀σ,I [] σ->Ends J Q (qe w r σ)):Ends J Q (qe w (.cons (.for tg it b) r) τ):=by
 have key:∀(l:List D) (σ:Env),I l σ->Ends (I []) Q (eC tg (λσ=>qe w b σ) l σ):=by
  intro l
  induction l with
  |nil=>intro σ q;exact q
  |cons x t ih=>
   intro σ q;obtain⟨σ1,a,b'⟩:=hs x t σ q;rw[eC,a];simp only[R.out_ok];cases z:qe w b σ1 with
   |nx σ2=>rw[z]at b';exact ih σ2 b'
   |rt d=>rw[z]at b';exact b'
   |_=>rw[z]at b';exact b'.elim
 have hk:=key ds τ h0;refine eO (K:=I []) ?_ hn;rw[cQ,h];simp only[R.out_ok];cases z:eC tg (λσ=>qe w b σ) ds τ with
 |nx σ2=>rw[z]at hk;exact hk
 |rt d=>rw[z]at hk;exact hk
 |_=>rw[z]at hk;exact hk.elim
end
theorem EL{J J':Env->Prop}{Q:D->Prop}{o:O}(h:Ends J Q o)(hj:∀σ,J σ->J' σ):Ends J' Q o:=by
 cases o with
 |nx σ=>exact hj σ h
 |rt d=>exact h
 |_=>exact h.elim
noncomputable def gX(m:Int):List Int:=(aS (m-1).toNat).map λ(i:Nat)=>1+(i:Int)
noncomputable def kY(b:Int):List (Int×Int):=(rng b).map λa=>(a,b)
noncomputable def fW(m:Int):List (Int×Int):=(gX m).flatMap kY
structure Pok(n:Int):Prop where
 nd:(fW n).Nodup
 ok:∀t∈fW n,0<=t.1/\t.1<t.2/\t.2<n
 len:(fW n).length<=28
theorem pok(n:Int)(h1:1<=n)(h2:n<=8):Pok n:=by
 have:n=1\/n=2\/n=3\/n=4\/n=5\/n=6\/n=7\/n=8:=by lia
 rcases this with rfl|rfl|rfl|rfl|rfl|rfl|rfl|rfl<;>exact⟨by decide +kernel,by decide +kernel,by decide +kernel⟩
theorem E5{s t:Int×Int}(h:ltP t s=false)(hn:s≠t):ltP s t=true:=by
 simp only[ltP]at h ⊢;by_cases e:s.1=t.1
 ·rw[if_pos e.symm]at h;rw[if_pos e];have:s.2≠t.2:=λz=>hn (Prod.ext e z)
  simp at h ⊢;lia
 ·rw[if_neg (λz=>e z.symm)]at h;rw[if_neg e];simp at h ⊢;lia
theorem Cu{l:List (Int×Int)}(h:l.Pairwise λa b=>ltP b a=false)(hn:l.Nodup):l.Pairwise λs t=>ltP s t=true:=
 List.Pairwise.imp₂ (λa b h1 h2=>E5 h1 h2) h hn
theorem Dq{n:Int}(h1:1<=n)(h2:n<=8){ts:List (Int×Int)}(s:ts.Sublist (fW n)):GW n (dN ts):=by
 have P:=pok n h1 h2;have pm:=mG ts;exact⟨by lia,by lia,Cu (pV ts) (pm.nodup_iff.mpr (P.nd.sublist s)),λt ht=>P.ok t (s.subset (pm.mem_iff.mp ht)),by rw[pm.length_eq];exact br s.length_le P.len⟩
theorem nq:∀ts:List (Int×Int),pairs? (ts.map prD)=some ts
 | []=>rfl
 |t::r=>by show (pairs? (r.map prD)).map (t :: ·)=_;rw[nq r];rfl
theorem nJ(xs:List D):b1 .sorted [.lst xs]=(if xs.length<64 then (match pairs? xs with
   |some ps=>.ok (.lst ((dN ps).map pairD))
   |none=>eW xs)else eW xs):=rfl
theorem B4(ts:List (Int×Int))(h:ts.length<64):b1 .sorted [.lst (ts.map prD)]=.ok (.lst ((dN ts).map prD)):=by
 rw[nJ,if_pos (by simpa using h),nq]
noncomputable def hd(m:Int)(ts:List (Int×Int))(a:Int):List Int:=(rng m).filter λb=>b==a||el ts a b
noncomputable def mk(m:Int)(ts:List (Int×Int))(s:List Int)(a:Int):List Int:=s.filter λx=>(hd m ts a).any λt=>t==x
end KG
noncomputable def KG.Z:=aw @EV.qe.eq_1 (aw @EV.qe.eq_2 (aw @EV.zr (aw @EV.cU (aw @EV.cV (aw @EV.zm (aw @EV.cX (aw @EV.zO (aw @EV.zM (aw @EV.qo (aw @EV.zb (aw @EV.qX (aw @EV.zf (aw @EV.qT (aw @EV.zi (aw @EV.qG (aw @EV.qK (aw @EV.qO (aw @EV.qP (aw @EV.qL (aw @EV.qN (aw @EV.qB (aw @EV.qx (aw @EV.qH (aw @EV.qz (aw @EV.ql (aw @EV.qI (aw @EV.qC (aw @EV.qD.eq_1 (aw @EV.qD.eq_2 (aw @EV.fS (aw @EV.eA (aw @EV.fH (aw @EV.fP (aw @EV.gj (aw @EV.eU (aw @EV.fg (aw @EV.evI.eq_1 (aw @EV.evI.eq_2 (aw @EV.evI.eq_3 (aw @EV.evI.eq_4 (aw @EV.evI.eq_5 (aw @EV.evI.eq_6 (aw @EV.evO.eq_1 (aw @EV.evO.eq_2 (aw @EV.opI.eq_1 (aw @EV.opI.eq_2 (aw @EV.opI.eq_3 (aw @EV.opI.eq_4 (aw @EV.opI.eq_5 (aw @EV.opI.eq_6 (aw @EV.opI.eq_7 (aw @EV.opI.eq_8 (aw @EV.opI.eq_9 (aw @EV.opI.eq_10 (aw @EV.opI.eq_11 (aw @EV.b11.eq_1 (aw @EV.b11.eq_2 (aw @EV.b11.eq_3 (aw @EV.b11.eq_4 (aw @EV.b11.eq_5 (aw @EV.b11.eq_6 (aw @EV.b11.eq_7 (aw @EV.b11.eq_8 (aw @EV.b11.eq_9 (aw @EV.b11.eq_10 (aw @EV.b11.eq_11 (aw @EV.b11.eq_12 (aw @EV.b11.eq_13 (aw @EV.b11.eq_14 (aw @EV.b11.eq_15 (aw @EV.b12.eq_1 (aw @EV.b12.eq_2 (aw @EV.b12.eq_3 (aw @EV.b7.eq_1 (aw @EV.b7.eq_2 (aw @EV.dt.eq_1 (aw @EV.dt.eq_2 (aw @EV.iiR.eq_1 (aw @EV.iiR.eq_2 (aw @EV.zD.eq_1 (aw @EV.store.eq_1 (aw @EV.store.eq_2 (aw @EV.store.eq_3 (aw @EV.setAll.eq_1 (aw @EV.setAll.eq_2 (aw @EV.setAll.eq_3 (aw @EV.truth.eq_1 (aw @EV.truth.eq_2 (aw @EV.truth.eq_3 (aw @EV.truth.eq_4 (aw @EV.truth.eq_5 (aw @EV.truth.eq_6 (aw @KG.Ft (aw @KG.yL (aw @KG.wG (aw @KG.DY (@KG.Au)))))))))))))))))))))))))))))))))))))))))))))))))))))))))))))))))))))))))))))))))))))))))))))))))
namespace KG
open EV
open PySem (Str)
open L2 (atI ixN ltP)
noncomputable def kj:Fn:=⟨1,1,false,(.cons (.ret (.and (.isi (.var 0) (.ty "int")) (.not (.isi (.var 0) (.ty "bool"))))) .nil)⟩
noncomputable def zC:Fn:=⟨3,3,false,(.cons (.ret (.and (.call "is_whole" (.cons (.var 0) .nil)) (.cmp2 .le .le (.var 1) (.var 0) (.var 2)))) .nil)⟩
noncomputable def iK:Fn:=⟨1,1,false,(.cons (.ret (.and (.isi (.var 0) (.ty "tuple")) (.cmp .eq (.bi .len (.cons (.var 0) .nil)) (.con (.int 2))))) .nil)⟩
noncomputable def jd:Fn:=⟨1,1,false,(.cons (.ret (.bi .all (.cons (.comp (.rng (.op .sub (.bi .len (.cons (.var 0) .nil)) (.con (.int 1)))) [none,none,some 0] (.nm 1) .yes (.cmp .lt (.ix (.var 2) (.var 1)) (.ix (.var 2) (.op .add (.var 1) (.con (.int 1)))))) .nil))) .nil)⟩
noncomputable def iZ:Fn:=⟨1,3,false,(.cons (.ite (.not (.val (.call "is_pair" (.cons (.var 0) .nil)))) (.cons (.ret (.con (.bl false))) .nil) .nil) (.cons (.set (.tp [1,2]) (.var 0)) (.cons (.ite (.or (.not (.val (.call "is_between" (.cons (.var 1) (.cons (.con (.int 1)) (.cons (.glb "MOST") .nil)))))) (.not (.val (.isi (.var 2) (.ty "tuple"))))) (.cons (.ret (.con (.bl false))) .nil) .nil) (.cons (.ret (.and (.bi .all (.cons (.comp (.seq (.var 2)) [none,none,some 1] (.nm 1) .yes (.call "is_tie" (.cons (.var 1) (.cons (.var 2) .nil)))) .nil)) (.call "rises" (.cons (.var 2) .nil)))) .nil))))⟩
noncomputable def jl:Fn:=⟨2,4,false,(.cons (.ite (.not (.val (.call "is_pair" (.cons (.var 0) .nil)))) (.cons (.ret (.con (.bl false))) .nil) .nil) (.cons (.set (.tp [2,3]) (.var 0)) (.cons (.ret (.and (.call "is_whole" (.cons (.var 2) .nil)) (.and (.call "is_whole" (.cons (.var 3) .nil)) (.cmp3 .le .lt .lt (.con (.int 0)) (.var 2) (.var 3) (.var 1))))) .nil)))⟩
noncomputable def iQ:Fn:=⟨1,1,false,(.cons (.ite (.not (.val (.call "is_web" (.cons (.var 0) .nil)))) (.cons (.raise "NoWeb" (.cons (.con (.str "a web is due")) .nil)) .nil) .nil) .nil)⟩
noncomputable def hW:Fn:=⟨1,1,false,(.cons (.exp (.call "need_web" (.cons (.var 0) .nil))) (.cons (.ret (.bi .tuple (.cons (.comp (.rng (.ix (.var 0) (.con (.int 0)))) [none,none,some 0] (.nm 1) .yes (.call "hood_of" (.cons (.var 2) (.cons (.var 1) .nil)))) .nil))) .nil))⟩
noncomputable def gz:Fn:=⟨2,4,false,(.cons (.set (.tp [2,3]) (.var 0)) (.cons (.ret (.bi .tuple (.cons (.comp (.rng (.var 2)) [none,none,some 1,some 3] (.nm 1) (.or (.cmp .eq (.var 1) (.var 2)) (.val (.call "are_tied" (.cons (.var 3) (.cons (.var 2) (.cons (.var 1) .nil)))))) (.var 1)) .nil))) .nil))⟩
noncomputable def fX:Fn:=⟨3,3,false,(.cons (.ret (.cmp .isin (.tup (.cons (.bi .min (.cons (.var 1) (.cons (.var 2) .nil))) (.cons (.bi .max (.cons (.var 1) (.cons (.var 2) .nil))) .nil))) (.var 0))) .nil)⟩
noncomputable def iS:Fn:=⟨2,2,false,(.cons (.ret (.bi .tuple (.cons (.comp (.seq (.var 1)) [none,none,some 0] (.nm 1) (.cmp .isin (.var 1) (.var 2)) (.var 1)) .nil))) .nil)⟩
noncomputable def jc:Fn:=⟨2,2,false,(.cons (.ret (.comp (.seq (.var 0)) [none,none,some 1] (.nm 1) .yes (.call "mark_of" (.cons (.var 1) (.cons (.var 2) .nil))))) .nil)⟩
noncomputable def gx:Fn:=⟨1,3,false,(.cons (.set (.nm 1) (.lst (.cons (.tup .nil) .nil))) (.cons (.for (.nm 2) (.rng (.ix (.var 0) (.con (.int 0)))) (.cons (.set (.nm 1) (.op .add (.var 1) (.comp (.seq (.var 1)) [none,none,some 2] (.nm 1) .yes (.op .add (.var 1) (.tup (.cons (.var 2) .nil)))))) .nil)) (.cons (.ret (.bi .sorted (.cons (.var 1) .nil))) .nil)))⟩
noncomputable def h8:Fn:=⟨1,2,false,(.cons (.set (.nm 1) (.call "hoods" (.cons (.var 0) .nil))) (.cons (.ret (.comp (.seq (.call "all_some" (.cons (.var 0) .nil))) [none,none,some 1] (.nm 1) (.cmp .notin (.tup .nil) (.call "marks_of" (.cons (.var 2) (.cons (.var 1) .nil)))) (.var 1))) .nil))⟩
noncomputable def iN:Fn:=⟨1,1,false,(.cons (.ret (.bi .len (.cons (.call "first_fewest" (.cons (.var 0) .nil)) .nil))) .nil)⟩
noncomputable def i4:Fn:=⟨1,1,false,(.cons (.ret (.ix (.call "all_fewest" (.cons (.var 0) .nil)) (.con (.int 0)))) .nil)⟩
noncomputable def j6:Fn:=⟨1,3,true,(.cons (.exp (.call "need_web" (.cons (.var 0) .nil))) (.cons (.set (.nm 1) (.call "all_holding" (.cons (.var 0) .nil))) (.cons (.set (.nm 2) (.bi .min (.cons (.comp (.seq (.var 1)) [none,none] (.nm 1) .yes (.bi .len (.cons (.var 1) .nil))) .nil))) (.cons (.ret (.comp (.seq (.var 1)) [none,none,some 2] (.nm 1) (.cmp .eq (.bi .len (.cons (.var 1) .nil)) (.var 2)) (.var 1))) .nil))))⟩
noncomputable def zx:Fn:=⟨2,2,false,(.cons (.ite (.cmp .lt (.var 1) (.bi .len (.cons (.var 0) .nil))) (.cons (.ret (.ix (.var 0) (.var 1))) .nil) .nil) (.cons (.ret (.con (.int 0))) .nil))⟩
noncomputable def zW:Fn:=⟨2,3,false,(.cons (.set (.nm 2) (.op .mod (.op .mul (.op .add (.op .add (.op .mod (.var 0) (.con (.int 2147483647))) (.op .mul (.con (.int 977)) (.var 1))) (.con (.int 1))) (.con (.int 48271))) (.con (.int 2147483647)))) (.cons (.set (.nm 2) (.op .mod (.op .mul (.var 2) (.var 2)) (.con (.int 2147483629)))) (.cons (.set (.nm 2) (.op .mod (.op .mul (.op .add (.var 2) (.op .mul (.con (.int 40692)) (.op .add (.var 1) (.con (.int 3))))) (.con (.int 69621))) (.con (.int 2147483647)))) (.cons (.ret (.op .fdiv (.var 2) (.con (.int 8)))) .nil))))⟩
noncomputable def gU:Fn:=⟨1,1,false,(.cons (.ret (.and (.isi (.var 0) (.ty "int")) (.not (.isi (.var 0) (.ty "bool"))))) .nil)⟩
noncomputable def jw:Fn:=⟨2,10,false,(.cons (.set (.nm 2) (.op .add (.con (.int 1)) (.op .mod (.var 0) (.var 1)))) (.cons (.set (.nm 3) (.op .fdiv (.var 0) (.var 1))) (.cons (.set (.nm 4) (.op .mod (.var 3) (.con (.int 6)))) (.cons (.set (.nm 5) (.lst .nil)) (.cons (.for (.nm 6) (.rng2 (.con (.int 1)) (.var 2)) (.cons (.for (.nm 7) (.rng (.var 6)) (.cons (.set (.nm 8) (.op .band (.op .shr (.op .fdiv (.var 3) (.con (.int 6))) (.op .add (.op .fdiv (.op .mul (.var 6) (.op .sub (.var 6) (.con (.int 1)))) (.con (.int 2))) (.var 7))) (.con (.int 1)))) (.cons (.ite (.cmp .eq (.var 4) (.con (.int 3))) (.cons (.set (.nm 8) (.op .fdiv (.op .mod (.call "_law_stir" (.cons (.var 0) (.cons (.op .add (.op .mul (.con (.int 8)) (.var 7)) (.var 6)) .nil))) (.con (.int 3))) (.con (.int 2)))) .nil) .nil) (.cons (.ite (.cmp .eq (.var 4) (.con (.int 4))) (.cons (.set (.nm 8) (.op .fdiv (.op .add (.op .mod (.call "_law_stir" (.cons (.var 0) (.cons (.op .add (.op .mul (.con (.int 8)) (.var 7)) (.var 6)) .nil))) (.con (.int 4))) (.con (.int 2))) (.con (.int 3)))) .nil) .nil) (.cons (.ite (.cmp .eq (.var 4) (.con (.int 5))) (.cons (.set (.nm 9) (.lst (.cons (.cmp .eq (.var 6) (.op .add (.var 7) (.con (.int 1)))) (.cons (.or (.cmp .eq (.var 6) (.op .add (.var 7) (.con (.int 1)))) (.cmp .eq (.op .sub (.var 6) (.var 7)) (.op .sub (.var 2) (.con (.int 1))))) (.cons (.cmp .eq (.var 7) (.con (.int 0))) (.cons (.con (.bl true)) (.cons (.and (.cmp .eq (.var 6) (.op .add (.var 7) (.con (.int 1)))) (.cmp .lt (.op .mod (.var 7) (.con (.int 3))) (.con (.int 2)))) .nil))))))) (.cons (.set (.nm 8) (.bi .int (.cons (.ix (.var 9) (.op .mod (.op .fdiv (.var 3) (.con (.int 6))) (.con (.int 5)))) .nil))) .nil)) .nil) (.cons (.ite (.cmp .eq (.var 8) (.con (.int 1))) (.cons (.app 5 (.tup (.cons (.var 7) (.cons (.var 6) .nil)))) .nil) .nil) .nil)))))) .nil)) (.cons (.ret (.tup (.cons (.var 2) (.cons (.bi .tuple (.cons (.bi .sorted (.cons (.own 5) .nil)) .nil)) .nil)))) .nil))))))⟩
noncomputable def jj:Fn:=⟨1,4,false,(.cons (.set (.nm 1) (.comp (.rng (.ix (.var 0) (.con (.int 0)))) [none,none] (.nm 1) .yes (.op .shl (.con (.int 1)) (.var 1)))) (.cons (.for (.tp [2,3]) (.seq (.ix (.var 0) (.con (.int 1)))) (.cons (.seti 1 (.var 2) (.op .bor (.ix (.own 1) (.var 2)) (.op .shl (.con (.int 1)) (.var 3)))) (.cons (.seti 1 (.var 3) (.op .bor (.ix (.own 1) (.var 3)) (.op .shl (.con (.int 1)) (.var 2)))) .nil))) (.cons (.ret (.own 1)) .nil)))⟩
noncomputable def jg:Fn:=⟨2,2,false,(.cons (.ret (.bi .tuple (.cons (.comp (.rng (.var 0)) [none,none,some 1] (.nm 1) (.cmp .eq (.op .band (.op .shr (.var 2) (.var 1)) (.con (.int 1))) (.con (.int 1))) (.var 1)) .nil))) .nil)⟩
noncomputable def hU:Fn:=⟨1,1,false,(.cons (.ret (.bi .sum (.cons (.comp (.seq (.var 0)) [none,none] (.nm 1) .yes (.op .shl (.con (.int 1)) (.var 1))) .nil))) .nil)⟩
noncomputable def gN:Fn:=⟨2,5,false,(.cons (.set (.nm 2) (.con (.int 0))) (.cons (.for (.tp [3,4]) (.enum (.var 0)) (.cons (.ite (.cmp .eq (.op .band (.op .shr (.var 1) (.var 3)) (.con (.int 1))) (.con (.int 1))) (.cons (.set (.nm 2) (.op .bor (.var 2) (.var 4))) .nil) .nil) .nil)) (.cons (.ret (.var 2)) .nil)))⟩
noncomputable def hZ:Fn:=⟨1,1,false,(.cons (.ret (.bi .sorted (.cons (.comp (.rng (.op .shl (.con (.int 1)) (.var 0))) [none,none,some 0] (.nm 1) .yes (.call "_law_some" (.cons (.var 2) (.cons (.var 1) .nil)))) .nil))) .nil)⟩
noncomputable def iP:Fn:=⟨1,3,false,(.cons (.set (.nm 1) (.call "_law_masks" (.cons (.var 0) .nil))) (.cons (.set (.nm 2) (.op .sub (.op .shl (.con (.int 1)) (.ix (.var 0) (.con (.int 0)))) (.con (.int 1)))) (.cons (.ret (.comp (.seq (.call "_law_all" (.cons (.ix (.var 0) (.con (.int 0))) .nil))) [none,none,some 2,some 1] (.nm 1) (.cmp .eq (.call "_law_held" (.cons (.var 3) (.cons (.call "_law_mask" (.cons (.var 1) .nil)) .nil))) (.var 2)) (.var 1))) .nil)))⟩
noncomputable def fV:Fn:=⟨2,2,false,(.cons (.ret (.call "is_between" (.cons (.var 1) (.cons (.con (.int 0)) (.cons (.op .sub (.ix (.var 0) (.con (.int 0))) (.con (.int 1))) .nil))))) .nil)⟩
noncomputable def gC:Fn:=⟨2,2,false,(.cons (.ite (.not (.val (.isi (.var 1) (.ty "tuple")))) (.cons (.ret (.con (.bl false))) .nil) .nil) (.cons (.ret (.and (.bi .all (.cons (.comp (.seq (.var 1)) [none,none,some 0] (.nm 1) .yes (.call "is_place" (.cons (.var 2) (.cons (.var 1) .nil)))) .nil)) (.call "rises" (.cons (.var 1) .nil)))) .nil))⟩
noncomputable def i_:Fn:=⟨2,2,false,(.cons (.ite (.not (.val (.call "is_some" (.cons (.var 0) (.cons (.var 1) .nil))))) (.cons (.raise "NoPlaces" (.cons (.con (.str "a rising tuple of places of the web is due")) .nil)) .nil) .nil) .nil)⟩
structure Web(p:Pr):Prop where
 is_whole:p.fns "is_whole" = some kj
 is_between:p.fns "is_between" = some zC
 is_pair:p.fns "is_pair" = some iK
 rises:p.fns "rises" = some jd
 is_web:p.fns "is_web" = some iZ
 is_tie:p.fns "is_tie" = some jl
 need_web:p.fns "need_web" = some iQ
 MOST:p.glb "MOST" = some (.int 8)
structure Base(p:Pr):Prop extends Web p where
 all_some:p.fns "all_some" = some gx
 _law_cell_at:p.fns "_law_cell_at" = some zx
 _law_stir:p.fns "_law_stir" = some zW
 _law_web:p.fns "_law_web" = some jw
 _law_some:p.fns "_law_some" = some jg
structure g_(p:Pr):Prop where
 _law_cell_at:p.fns "_law_cell_at" = some zx
 _law_stir:p.fns "_law_stir" = some zW
 _law_web:p.fns "_law_web" = some jw
theorem Base.draw{p:Pr}(B:Base p):g_ p:=⟨B._law_cell_at,B._law_stir,B._law_web⟩
structure Hds(p:Pr):Prop where
 hoods:p.fns "hoods" = some hW
 hood_of:p.fns "hood_of" = some gz
 are_tied:p.fns "are_tied" = some fX
structure Nbr(p:Pr):Prop where
 hoods:p.fns "hoods" = some hW
 hood_of:p.fns "hood_of" = some gz
 are_tied:p.fns "are_tied" = some fX
 mark_of:p.fns "mark_of" = some iS
 marks_of:p.fns "marks_of" = some jc
structure jo(p:Pr):Prop extends Nbr p where
 _law_masks:p.fns "_law_masks" = some jj
noncomputable instance {p:Pr}:CoeOut (Base p) (Web p):=⟨λb=>b.toWeb⟩
theorem Nbr.hds{p:Pr}(O:Nbr p):Hds p:=⟨O.hoods,O.hood_of,O.are_tied⟩
noncomputable instance {p:Pr}:CoeOut (Base p) (g_ p):=⟨λb=>b.draw⟩
noncomputable instance {p:Pr}:CoeOut (Nbr p) (Hds p):=⟨λb=>b.hds⟩
noncomputable instance {p:Pr}:CoeOut (jo p) (Nbr p):=⟨λb=>b.toNbr⟩
structure gD(p:Pr):Prop where
 is_place:p.fns "is_place" = some fV
 is_some:p.fns "is_some" = some gC
structure gy(p:Pr):Prop where
 is_place:p.fns "is_place" = some fV
 is_some:p.fns "is_some" = some gC
 need_some:p.fns "need_some" = some i_
theorem gy.a{p:Pr}(b:gy p):gD p:=⟨b.is_place,b.is_some⟩
noncomputable instance {p:Pr}:CoeOut (gy p) (gD p):=⟨λb=>b.a⟩
section
variable{p:Pr}
theorem qd{k:Nat}{x:Str}{f:Fn}{ds:List D}(h:p.fns x=some f):qc p (k+1) x ds=cW ⟨qc p k,p.glb,p.sub,p.cat,p.fld⟩ f ds:=by
 rw[qc,h]
theorem gZ{k:Nat}{x:Str}{f:Fn}{ds:List D}{τ:Env}{Q:D->Prop}(hf:p.fns x=some f)(hl:ds.length=f.ps)(hτ:ds.map some++bR (f.N-f.ps) none=τ)(h:Ends (λ_=>False) Q (qe (wAt p k) f.body τ)):∃d,qc p (k+1) x ds=.ok d/\Q d:=by
 rw[qd hf,cW,if_pos hl,hτ];cases z:qe ⟨qc p k,p.glb,p.sub,p.cat,p.fld⟩ f.body τ with
 |rt d=>rw[z]at h;exact⟨d,rfl,h⟩
 |nx _=>rw[z]at h;exact h.elim
 |_=>rw[z]at h;exact h.elim
section
variable(B:Web p)
include B
theorem is_whole{k:Nat}(i:Int):qc p (k+1) "is_whole" [.int i]=.ok (.bl true):=by rw[qd B.is_whole];rfl
theorem is_between{k:Nat}(i a b:Int)(h:a<=i/\i<=b):qc p (k+2) "is_between" [.int i,.int a,.int b]=.ok (.bl true):=by
 rw[qd B.is_between];refine qk rfl rfl ?_;simp[KG.Z,zC,is_whole B,qh,kg,h.1,h.2]
theorem is_pair{k:Nat}(a b:D):qc p (k+1) "is_pair" [.tup [a,b]]=.ok (.bl true):=by
 rw[qd B.is_pair];refine qk rfl rfl ?_;simp[KG.Z,iK,b1,seq?,qh,D.asks,D.plain,D.deep,D.eqv]
theorem is_tie{k:Nat}(a b m:Int)(h:0<=a/\a<b/\b<m):qc p (k+2) "is_tie" [.tup [.int a,.int b],.int m]=.ok (.bl true):=by
 rw[qd B.is_tie];refine qk rfl rfl ?_;simp[KG.Z,jl,is_pair B,is_whole B,qh,kg,h.1,h.2.1,h.2.2]
theorem rises{k:Nat}(xs:List D)(hz:xs.length<=28)(h:∀(i:Nat) (q:i+1<xs.length),qh .lt xs[i] xs[i+1]=.ok true):qc p (k+1) "rises" [.tup xs]=.ok (.bl true):=by
 rw[qd B.rises];refine qk rfl rfl ?_;have hr:qr ((xs.length:Int)-1)=true:=by simp[qr];lia
 have hc:evE ⟨qc p k,p.glb,p.sub,p.cat,p.fld⟩ (.comp (.rng (.op .sub (.bi .len (.cons (.var 0) .nil)) (.con (.int 1)))) [none,none,some 0] (.nm 1) .yes (.cmp .lt (.ix (.var 2) (.var 1)) (.ix (.var 2) (.op .add (.var 1) (.con (.int 1)))))) [some (.tup xs)]=.ok (.lst ((zk 0 ((xs.length:Int)-1).toNat).flatMap λ_=>[.bl true])):=by
  refine eE (c:=[some (.tup xs)]) ?_ ?_ rfl ?_
  ·simp[KG.Z,b1,seq?,op2,hr]
  ·simp[zk,SZ];lia
  ·intro x hx;simp only[zk,aY,List.mem_range]at hx;obtain⟨i,hi,rfl⟩:=hx;have e1:atI xs ((0:Int)+(i:Int))=some xs[i]:=by rw[Int.zero_add];exact fO (by lia)
   have e2:atI xs ((0:Int)+(i:Int)+1)=some xs[i+1]:=by rw[Int.zero_add];exact fO (i:=i+1) (by lia)
   have e3:=h i (by lia);simp only[Int.zero_add]at e1 e2;simp[KG.Z,ixD,op2,e1,e2,e3]
 simp[KG.Z,jd,hc,b1,all_true,E6]
theorem is_web{k:Nat}{m:Int}{ts:List (Int×Int)}(h:GW m ts):qc p (k+3) "is_web" [wb m ts]=.ok (.bl true):=by
 rw[qd B.is_web];refine qk rfl rfl ?_;have hr:=rises B (k:=k+1) (ts.map prD) (by simpa using h.len) (λi q=>by
  rw[dE,dE];exact yO (List.pairwise_iff_getElem.mp h.lt i (i+1) (by simp at q;lia) (by simpa using q) (by lia)))
 have hc:evE ⟨qc p (k+2),p.glb,p.sub,p.cat,p.fld⟩ (.comp (.seq (.var 2)) [none,none,some 1] (.nm 1) .yes (.call "is_tie" (.cons (.var 1) (.cons (.var 2) .nil)))) [some (wb m ts),some (.int m),some (.tup (ts.map prD))]=.ok (.lst ((ts.map prD).flatMap λ_=>[.bl true])):=by
  refine eE (c:=[some (.int m)]) ?_ ?_ rfl ?_
  ·simp[KG.Z,seq?]
  ·simp[SZ];have:=h.len;lia
  ·intro x hx;rw[aY]at hx;obtain⟨t,ht,rfl⟩:=hx;have e:=is_tie B (k:=k) t.1 t.2 m (h.ok t ht);have e':qc p (k+2) "is_tie" [prD t,.int m]=.ok (.bl true):=e;simp[KG.Z,e']
 simp[KG.Z,iZ,is_pair B,is_between B m 1 8 ⟨h.lo,h.hi⟩,B.MOST,hc,b1,all_true,hr]
theorem need_web{k:Nat}{m:Int}{ts:List (Int×Int)}(h:GW m ts):qc p (k+4) "need_web" [wb m ts]=.ok .non:=by
 rw[qd B.need_web];simp only[cW];simp[KG.Z,iQ,is_web B h]
end
theorem lp(hf:p.fns "_law_stir" = some zW){k:Nat}(c j:Int):qc p (k+1) "_law_stir" [.int c,.int j]=.ok (.int (st c j)):=by
 have s1:small 977=true:=by decide
 have s2:small 48271=true:=by decide
 have s3:small 40692=true:=by decide
 have s4:small 69621=true:=by decide
 have s5:=Co ((c%2147483647+977 * j+1) * 48271) 2147483647 (by decide) (by decide);rw[qd hf];refine qk rfl rfl ?_;simp[KG.Z,zW,op2,s1,s2,s3,s4,s5,st]
theorem EG(hf:p.fns "_law_cell_at" = some zx){k:Nat}(ns:List Int):∃x:Int,qc p (k+1) "_law_cell_at" [.lst (ns.map D.int),.int 0]=.ok (.int x):=by
 cases ns with
 |nil=>
  refine⟨0,?_⟩;have e1:b1 .len [.lst []]=.ok (.int 0):=rfl;have e3:qh .lt (.int 0) (.int 0)=.ok false:=rfl;rw[qd hf];refine qk rfl rfl ?_;simp[KG.Z,zx,e1,e3]
 |cons x r=>
  refine⟨x,?_⟩;have e1:b1 .len [.lst ((x::r).map D.int)]=.ok (.int (r.length+1:Nat)):=by
   show R.ok (D.int ((x::r).map D.int).length)=_;simp
  have e2:ixD (.lst ((x::r).map D.int)) (.int 0)=.ok (.int x):=by
   have:=fO (xs:=(x::r).map D.int) (i:=0) (by simp);simp only[ixD];rw[show (0:Int)=((0:Nat):Int)from rfl,this];rfl
  simp only[aN]at e1 e2;have h0:(0:Int)<((r.length+1:Nat):Int):=by lia
  have e3:qh .lt (.int 0) (.int ((r.length+1:Nat):Int))=.ok true:=by rw[lt_int,decide_eq_true h0]
  generalize ((r.length+1:Nat):Int)=N at *;rw[qd hf];refine qk rfl rfl ?_;simp[KG.Z,zx,e1,e2,e3]
section
variable(B:Base p)
include B
theorem stir{k:Nat}(c j:Int):qc p (k+1) "_law_stir" [.int c,.int j]=.ok (.int (st c j)):=lp B._law_stir c j
theorem wY{k:Nat}(ns:List Int):∃x:Int,qc p (k+1) "_law_cell_at" [.lst (ns.map D.int),.int 0]=.ok (.int x):=EG B._law_cell_at ns
end
section
variable(B:Web p)(S:gD p)
include B S
theorem is_place{k:Nat}(i m:Int)(t:D)(h:0<=i/\i<m):qc p (k+3) "is_place" [.tup [.int m,t],.int i]=.ok (.bl true):=by
 rw[qd S.is_place];refine qk rfl rfl ?_;simp[KG.Z,fV,ixD,atI,ixN,op2,is_between B i 0 (m-1) (by lia)]
theorem is_some{k:Nat}{m:Int}{t:D}{s:List Int}(h:GS m s):qc p (k+4) "is_some" [.tup [.int m,t],tu s]=.ok (.bl true):=by
 rw[qd S.is_some];refine qk rfl rfl ?_;have hr:=rises B (k:=k+2) (s.map D.int) (by simp;have:=h.len;lia) (λi q=>by
  rw[dE,dE];have:=List.pairwise_iff_getElem.mp h.lt i (i+1) (by simp at q;lia) (by simpa using q) (by lia);simp[qh,kg,this])
 have hc:evE ⟨qc p (k+3),p.glb,p.sub,p.cat,p.fld⟩ (.comp (.seq (.var 1)) [none,none,some 0] (.nm 1) .yes (.call "is_place" (.cons (.var 2) (.cons (.var 1) .nil)))) [some (.tup [.int m,t]),some (tu s)]=.ok (.lst ((s.map D.int).flatMap λ_=>[.bl true])):=by
  refine eE (c:=[some (.tup [.int m,t])]) ?_ ?_ rfl ?_
  ·simp[KG.Z,seq?]
  ·simp[SZ];have:=h.len;lia
  ·intro x hx;rw[aY]at hx;obtain⟨i,hi,rfl⟩:=hx;simp[KG.Z,is_place B S i m t (h.ok i hi)]
 simp[KG.Z,gC,hc,b1,all_true,hr]
omit S in
theorem need_some(S:gy p){k:Nat}{m:Int}{t:D}{s:List Int}(h:GS m s):qc p (k+5) "need_some" [.tup [.int m,t],tu s]=.ok .non:=by
 rw[qd S.need_some];simp only[cW];simp[KG.Z,i_,is_some B S h]
end
theorem nO(hA:p.fns "are_tied" = some fX){k:Nat}(ts:List (Int×Int))(a b:Int):qc p (k+1) "are_tied" [.tup (ts.map prD),.int a,.int b]=.ok (.bl (el ts a b)):=by
 rw[qd hA];refine qk rfl rfl ?_;simp[KG.Z,fX,b1,Df,el,mn,mx]
theorem AL(hH:p.fns "hood_of" = some gz)(hA:p.fns "are_tied" = some fX){k:Nat}{m:Int}{ts:List (Int×Int)}(h:GW m ts)(a:Int):qc p (k+2) "hood_of" [wb m ts,.int a]=.ok (tu (hd m ts a)):=by
 rw[qd hH];refine qk rfl rfl ?_;have h1:=h.lo;have h2:=h.hi;have hc:evE ⟨qc p (k+1),p.glb,p.sub,p.cat,p.fld⟩ (.comp (.rng (.var 2)) [none,none,some 1,some 3] (.nm 1) (.or (.cmp .eq (.var 1) (.var 2)) (.val (.call "are_tied" (.cons (.var 3) (.cons (.var 2) (.cons (.var 1) .nil)))))) (.var 1)) [some (wb m ts),some (.int a),some (.int m),some (.tup (ts.map prD))]=.ok (.lst ((hd m ts a).map D.int)):=by
  rw[hd,<-lu,<-zK];refine eE (c:=[some (.int a),some (.tup (ts.map prD))]) ?_ ?_ rfl ?_
  ·have:qr m=true:=by simp[qr];lia
   simp[KG.Z,this]
  ·simp[zk,SZ];lia
  ·intro x hx;rw[zK,aY]at hx;obtain⟨b,hb,rfl⟩:=hx;have e:qh .eq (.int b) (.int a)=.ok (b==a):=rfl;simp[KG.Z,e,nO hA];by_cases q:b=a
   ·simp[q]
   ·simp[q];cases el ts a b<;>simp
 simp[KG.Z,gz,hc,b1,seq?]
section
variable(B:Web p)(O:Hds p)
include O
theorem are_tied{k:Nat}(ts:List (Int×Int))(a b:Int):qc p (k+1) "are_tied" [.tup (ts.map prD),.int a,.int b]=.ok (.bl (el ts a b)):=nO O.are_tied ts a b
theorem hood_of{k:Nat}{m:Int}{ts:List (Int×Int)}(h:GW m ts)(a:Int):qc p (k+2) "hood_of" [wb m ts,.int a]=.ok (tu (hd m ts a)):=AL O.hood_of O.are_tied h a
include B
theorem hoods{k:Nat}{m:Int}{ts:List (Int×Int)}(h:GW m ts):qc p (k+5) "hoods" [wb m ts]=.ok (.tup ((rng m).map λa=>tu (hd m ts a))):=by
 rw[qd O.hoods];refine qk rfl rfl ?_;have h1:=h.lo;have h2:=h.hi;have hc:evE ⟨qc p (k+4),p.glb,p.sub,p.cat,p.fld⟩ (.comp (.rng (.ix (.var 0) (.con (.int 0)))) [none,none,some 0] (.nm 1) .yes (.call "hood_of" (.cons (.var 2) (.cons (.var 1) .nil)))) [some (wb m ts)]=.ok (.lst ((rng m).map λa=>tu (hd m ts a))):=by
  rw[<-nj,<-zK];refine eE (c:=[some (wb m ts)]) ?_ ?_ rfl ?_
  ·have:qr m=true:=by simp[qr];lia
   simp[KG.Z,this,ixD,atI,ixN]
  ·simp[zk,SZ];lia
  ·intro x hx;rw[zK,aY]at hx;obtain⟨b,hb,rfl⟩:=hx;simp[KG.Z,hood_of O h]
 simp[KG.Z,hW,need_web B h,hc,b1,seq?]
end
section
variable(O:Nbr p)
include O
theorem mark_of{k:Nat}(n s:List Int)(hz:s.length<=8):qc p (k+1) "mark_of" [tu n,tu s]=.ok (tu (s.filter λx=>n.any λt=>t==x)):=by
 rw[qd O.mark_of];refine qk rfl rfl ?_;have hc:evE ⟨qc p k,p.glb,p.sub,p.cat,p.fld⟩ (.comp (.seq (.var 1)) [none,none,some 0] (.nm 1) (.cmp .isin (.var 1) (.var 2)) (.var 1)) [some (tu n),some (tu s)]=.ok (.lst ((s.filter λx=>n.any λt=>t==x).map D.int)):=by
  rw[<-lu];refine eE (c:=[some (tu n)]) ?_ ?_ rfl ?_
  ·simp[KG.Z,seq?]
  ·simp[SZ];lia
  ·intro x hx;rw[aY]at hx;obtain⟨b,hb,rfl⟩:=hx;simp[KG.Z,vk];by_cases q:b∈n<;>simp[q]
 simp[KG.Z,iS,hc,b1,seq?]
theorem marks_of{k:Nat}(ns:List Int)(f:Int->List Int)(s:List Int)(hz:s.length<=8)(hn:ns.length<=8):qc p (k+2) "marks_of" [.tup (ns.map λa=>tu (f a)),tu s]=.ok (.lst (ns.map λa=>tu (s.filter λx=>(f a).any λt=>t==x))):=by
 rw[qd O.marks_of];refine qk rfl rfl ?_;have hc:evE ⟨qc p (k+1),p.glb,p.sub,p.cat,p.fld⟩ (.comp (.seq (.var 0)) [none,none,some 1] (.nm 1) .yes (.call "mark_of" (.cons (.var 1) (.cons (.var 2) .nil)))) [some (.tup (ns.map λa=>tu (f a))),some (tu s)]=.ok (.lst ((ns.map λa=>tu (f a)).flatMap λx=>match qc p (k+1) "mark_of" [x,tu s]with | .ok d=>[d]|_=>[])):=by
  refine eE (c:=[some (tu s)]) ?_ ?_ rfl ?_
  ·simp[KG.Z,seq?]
  ·simp[SZ];lia
  ·intro x hx;rw[aY]at hx;obtain⟨b,hb,rfl⟩:=hx;simp[KG.Z,mark_of O (f b) s hz]
 have he:((ns.map λa=>tu (f a)).flatMap λx=>match qc p (k+1) "mark_of" [x,tu s]with | .ok d=>[d]|_=>[])=ns.map λa=>tu (s.filter λx=>(f a).any λt=>t==x):=by
  clear hc hn
  induction ns with
  |nil=>rfl
  |cons a r ih=>rw[aN,cy,ih,mark_of O (f a) s hz];rfl
 simp[KG.Z,jc,hc,he]
end
end
theorem fU{α:Type}{w:W}{it:It}{cap:List (Option Nat)}{t:T}{elt:E}{τ c:Env}{l:List α}{f:α->D}(q:α->Bool)(g:α->D)(h:evI w it τ=.ok (l.map f))(hz:l.length<=SZ)(hc:dP cap τ=none::none::c)
  (hb:∀a∈l,evT w t (none::some (f a)::c)=.ok (q a)/\(q a=true->evE w elt (none::some (f a)::c)=.ok (g a))):evE w (.comp it cap (.nm 1) t elt) τ=.ok (.lst ((l.filter q).map g)):=by
 have key:∀(r:List α) (v:Option D) (acc:List D),(∀x∈r,x∈l)->zP (λx σ=>noEx ((store (.nm 1) x σ).bind λσ'=>(evT w t σ').bind λr=>if r then (evE w elt σ').bind λd=>.ok (σ',[d])else .ok (σ',[]))) (r.map f) (none::v::c) acc=.ok (acc++(r.filter q).map g):=by
  intro r
  induction r with
  |nil=>intro v acc _;simp[zP]
  |cons x r ih=>
   intro v acc hm;obtain⟨h1,h2⟩:=hb x (hm x aQ);rw[aN,zP];have e:noEx ((store (.nm 1) (f x) (none::v::c)).bind λσ'=>(evT w t σ').bind λr=>if r then (evE w elt σ').bind λd=>.ok (σ',[d])else .ok (σ',[]))=.ok (none::some (f x)::c,if q x then [g x]else []):=by
    simp only[store,R.bind_ok,List.set_cons_succ,List.set_cons_zero,h1];cases hq:q x with
    |false=>rfl
    |true=>simp only[if_true,h2 hq,R.bind_ok];rfl
   rw[e];simp only[R.bind_ok];rw[ih (some (f x)) _ λy hy=>hm y (aO _ hy),dF,bu];cases q x<;>simp
 rw[qE,h];simp only[R.bind_ok];rw[if_neg (by simp;lia),hc,key l none [] λ_ h=>h]
 rfl
theorem gH{α:Type}{w:W}{it:It}{cap:List (Option Nat)}{elt:E}{τ c:Env}{l:List α}{f:α->D}(g:α->D)(h:evI w it τ=.ok (l.map f))(hz:l.length<=SZ)(hc:dP cap τ=none::none::c)
  (hb:∀a∈l,evE w elt (none::some (f a)::c)=.ok (g a)):evE w (.comp it cap (.nm 1) .yes elt) τ=.ok (.lst (l.map g)):=by
 have:=fU (t:=.yes) (elt:=elt) (f:=f) (λ_=>true) g h hz hc λa ha=>⟨rfl,λ_=>hb a ha⟩
 rwa[List.filter_eq_self.mpr (λ_ _=>rfl)]at this
theorem dQ{w:W}{e:E}{τ:Env}{xs:List D}(h:evE w e τ=.ok (.lst xs)):evI w (.seq e) τ=.ok xs:=by rw[evI.eq_1,h];rfl
theorem lU{w:W}{e:E}{τ:Env}{xs:List D}(h:evE w e τ=.ok (.tup xs)):evI w (.seq e) τ=.ok xs:=by rw[evI.eq_1,h];rfl
theorem F8{α:Type}(l:List α)(f:α->Bool):bools? (l.map λa=>D.bl (f a))=some (l.map f):=by
 induction l with
 |nil=>rfl
 |cons a r ih=>rw[aN,bools?,ih];rfl
theorem iY{α:Type}(l:List α)(f:α->Bool):b1 .all [.lst (l.map λa=>D.bl (f a))]=.ok (.bl (l.all f)):=by
 rw[b1,b11];simp only[dt];rw[F8];simp only[b7];rw[List.all_map];rfl
theorem dz(s:List Int):b1 .len [tu s]=.ok (.int s.length):=by
 show R.ok (D.int ((s.map D.int).length:Nat))=_;rw[bG]
theorem pU{x:Int}{r:List Int}:b1 .min [.lst ((x::r).map D.int)]=.ok (.int (cM false x r)):=by
 show b7 (ints? ((x::r).map D.int)) _=_;rw[ints_map];rfl
theorem CC{x:Int}{r:List Int}:b1 .max [.lst ((x::r).map D.int)]=.ok (.int (cM true x r)):=by
 show b7 (ints? ((x::r).map D.int)) _=_;rw[ints_map];rfl
theorem kM(s t:List Int):qh .ne (tu s) (tu t)=.ok (!decide (s=t)):=by
 simp only[zZ,zq,zy,zt,dW,zY,zX]
 ·rw[if_pos (by rw[jz,jz];rfl)];show R.ok (!D.eqv (.tup _) (.tup _))=_;rw[show D.eqv (.tup (s.map D.int)) (.tup (t.map D.int))=eqvAll (s.map D.int) (t.map D.int)from rfl,lR]
 all_goals (intros;rintro⟨⟩)
theorem rj(s t:List Int):qh .eq (tu s) (tu t)=.ok (decide (s=t)):=lE s t
theorem ya(a b:Bool):qh .ne (.bl a) (.bl b)=.ok (!decide (a=b)):=by
 cases a<;>cases b<;>rfl
theorem AE(l:List Int)(f:Int->List Int):qh .notin (.tup []) (.lst (l.map λa=>tu (f a)))=.ok (l.all λa=>!(f a).isEmpty):=by
 simp only[zZ,zq,zy,zt,dW,zY,zX];simp only[seq?];rw[if_pos (by simp only[aL,bF,aY];exact⟨rfl,λx ⟨t,_,e⟩=>e▸jz _⟩),inD,List.any_map]
 congr 1
 rw[List.not_any_eq_all_not]
 congr 1;funext a
 show (!D.eqv (tu (f a)) (.tup []))=_;rw[show D.eqv (tu (f a)) (.tup [])=eqvAll ((f a).map D.int) []from rfl];cases f a<;>rfl
theorem ix0{α:Type}(f:α->D)(a:α)(r:List α):ixD (.lst ((a::r).map f)) (.int 0)=.ok (f a):=by
 have:=fO (xs:=(a::r).map f) (i:=0) (by simp);simp only[ixD];rw[show (0:Int)=((0:Nat):Int)from rfl,this];rfl
theorem CZ(ns:List Int)(lo hi:Option Int):∃cs:List Int,cutD (ns.map D.int) lo hi=cs.map D.int/\cs.length<=ns.length:=by
 refine⟨(ns.drop _).take _,by rw[cutD,<-List.map_drop,<-List.map_take],by simp;lia⟩
theorem yt{p:Pr}(hf:p.fns "_law_whole" = some gU){k:Nat}(i:Int):qc p (k+1) "_law_whole" [.int i]=.ok (.bl true):=by
 rw[qd hf];refine qk rfl rfl ?_;simp[KG.Z,gU]
theorem fx{α:Type}{f:α->D}{r:List D}{x:D}{l:List α}(e:x::r=l.map f):∃a l',l=a::l'/\x=f a/\r=l'.map f:=by
 cases l with
 |nil=>cases e
 |cons a l'=>rw[aN]at e;injection e with e1 e2;exact⟨a,l',rfl,e1,e2⟩
noncomputable def je:Fn:=⟨2,2,false,(.cons (.exp (.call "need_web" (.cons (.var 0) .nil))) (.cons (.exp (.call "need_some" (.cons (.var 0) (.cons (.var 1) .nil)))) (.cons (.ret (.call "places_marked" (.cons (.call "marks_of" (.cons (.call "hoods" (.cons (.var 0) .nil)) (.cons (.var 1) .nil))) (.cons (.tup .nil) .nil)))) .nil)))⟩
noncomputable def zR:Fn:=⟨2,2,false,(.cons (.ret (.bi .tuple (.cons (.comp (.enum (.var 0)) [none,none,none,some 1] (.tp [1,2]) (.cmp .eq (.var 2) (.var 3)) (.var 1)) .nil))) .nil)⟩
noncomputable def Af:Fn:=⟨2,2,false,(.cons (.exp (.call "need_web" (.cons (.var 0) .nil))) (.cons (.exp (.call "need_some" (.cons (.var 0) (.cons (.var 1) .nil)))) (.cons (.ret (.call "spare_by" (.cons (.call "marks_of" (.cons (.call "hoods" (.cons (.var 0) .nil)) (.cons (.var 1) .nil))) (.cons (.var 1) .nil)))) .nil)))⟩
noncomputable def BH:Fn:=⟨2,2,false,(.cons (.ret (.bi .tuple (.cons (.comp (.seq (.var 1)) [none,none,some 0] (.nm 1) (.cmp .notin (.tup (.cons (.var 1) .nil)) (.var 2)) (.var 1)) .nil))) .nil)⟩
noncomputable def wW:Fn:=⟨1,3,false,(.cons (.set (.nm 1) (.lst .nil)) (.cons (.for (.nm 2) (.rng (.var 0)) (.cons (.set (.nm 1) (.op .add (.var 1) (.comp (.rng2 (.op .add (.var 2) (.con (.int 1))) (.var 0)) [none,none,some 2] (.nm 1) .yes (.tup (.cons (.var 2) (.cons (.var 1) .nil)))))) .nil)) (.cons (.ret (.var 1)) .nil)))⟩
noncomputable def EI:Fn:=⟨2,5,false,(.cons (.set (.nm 2) (.lst .nil)) (.cons (.for (.tp [3,4]) (.enum (.call "_law_pairs" (.cons (.var 0) .nil))) (.cons (.ite (.and (.cmp .eq (.op .mod (.var 1) (.con (.int 2))) (.con (.int 0))) (.cmp .eq (.op .mod (.op .shr (.op .fdiv (.var 1) (.con (.int 2))) (.var 3)) (.con (.int 2))) (.con (.int 1)))) (.cons (.app 2 (.var 4)) .nil) .nil) (.cons (.ite (.and (.cmp .eq (.op .mod (.var 1) (.con (.int 2))) (.con (.int 1))) (.cmp .lt (.op .mod (.call "_law_stir" (.cons (.var 1) (.cons (.var 3) .nil))) (.con (.int 5))) (.op .add (.con (.int 1)) (.op .mod (.op .fdiv (.var 1) (.con (.int 2))) (.con (.int 3)))))) (.cons (.app 2 (.var 4)) .nil) .nil) .nil))) (.cons (.ret (.tup (.cons (.var 0) (.cons (.bi .tuple (.cons (.own 2) .nil)) .nil)))) .nil)))⟩
noncomputable def vA:Fn:=⟨2,2,false,(.cons (.ite (.cmp .eq (.op .mod (.var 1) (.con (.int 2))) (.con (.int 0))) (.cons (.ret (.bi .tuple (.cons (.comp (.rng (.var 0)) [none,none,some 1] (.nm 1) (.cmp .eq (.op .mod (.op .shr (.op .fdiv (.var 2) (.con (.int 2))) (.var 1)) (.con (.int 2))) (.con (.int 1))) (.var 1)) .nil))) .nil) .nil) (.cons (.ret (.bi .tuple (.cons (.comp (.rng (.var 0)) [none,none,some 1] (.nm 1) (.cmp .lt (.op .mod (.call "_law_stir" (.cons (.var 2) (.cons (.op .add (.var 1) (.con (.int 60))) .nil))) (.con (.int 4))) (.op .add (.con (.int 1)) (.op .mod (.op .fdiv (.var 2) (.con (.int 2))) (.con (.int 3))))) (.var 1)) .nil))) .nil))⟩
structure Un(p:Pr):Prop where
 places_marked:p.fns "places_marked" = some zR
 unheld:p.fns "unheld" = some je
structure Lw(p:Pr):Prop where
 _law_stir:p.fns "_law_stir" = some zW
 _law_pairs:p.fns "_law_pairs" = some wW
 _law_web_by:p.fns "_law_web_by" = some EI
 _law_some_by:p.fns "_law_some_by" = some vA
section
variable{p:Pr}
theorem Dh{xs:List D}:∀{k:Nat}{x:D},x∈cN k xs->∃(i:Nat) (d:D),d∈xs/\x=.tup [.int i,d]:=by
 induction xs with
 |nil=>intro k x h;cases h
 |cons a r ih=>
  intro k x h;rw[cN,aP]at h;rcases h with rfl|h
  ·exact⟨k,a,aQ,rfl⟩
  ·obtain⟨i,d,h1,h2⟩:=ih h;exact⟨i,d,aO _ h1,h2⟩
theorem BQ{xs:List D}:∀{k:Nat},(cN k xs).length=xs.length:=by
 induction xs with
 |nil=>intro k;rfl
 |cons a r ih=>intro k;rw[cN,bM,ih,bM]
theorem places_marked(hf:p.fns "places_marked" = some zR){k:Nat}(m:Int)(hm:m<=8)(f:Int->List Int)(z:List Int):qc p (k+1) "places_marked" [.lst ((rng m).map λa=>tu (f a)),(tu z)]=.ok (tu ((rng m).filter λa=>decide (f a=z))):=by
 rw[qd hf];refine qk rfl rfl ?_;have hc:evE ⟨qc p k,p.glb,p.sub,p.cat,p.fld⟩ (.comp (.enum (.var 0)) [none,none,none,some 1] (.tp [1,2]) (.cmp .eq (.var 2) (.var 3)) (.var 1)) [some (.lst ((rng m).map λa=>tu (f a))),some ((tu z))]=.ok (.lst ((cN 0 ((rng m).map λa=>tu (f a))).flatMap λx=>match x with | .tup [i,d]=>(match qh .eq d ((tu z))with | .ok true=>[i]|_=>[])|_=>[])):=by
  refine nI (c:=[some ((tu z))]) ?_ ?_ rfl ?_
  ·simp[KG.Z]
  ·rw[BQ];simp[SZ,fq];lia
  ·intro x hx;obtain⟨i,d,hd,rfl⟩:=Dh hx;rw[aY]at hd;obtain⟨b,hb,rfl⟩:=hd;refine⟨_,_,rfl,?_⟩;have e:qh .eq (tu (f b)) (tu z)=.ok (decide (f b=z)):=lE (f b) z;simp[KG.Z,e];by_cases q:f b=z
   ·simp[q]
   ·simp[q]
 have he:∀(n j:Nat),((cN j (((List.range' j n).map λ(i:Nat)=>(i:Int)).map λa=>tu (f a))).flatMap λx=>match x with | .tup [i,d]=>(match qh .eq d ((tu z))with | .ok true=>[i]|_=>[])|_=>[])=((((List.range' j n).map λ(i:Nat)=>(i:Int)).filter λa=>decide (f a=z)).map D.int):=by
  intro n
  induction n with
  |zero=>intro j;rfl
  |succ n ih=>
   intro j;rw[List.range'_succ,aN,aN,cN,cy,ih (j+1),dF];have e:qh .eq (tu (f j)) (tu z)=.ok (decide (f j=z)):=lE (f j) z;simp only[e];by_cases q:f j=z
   ·simp[q]
   ·simp[q]
 have Mw:=he m.toNat 0;rw[<-List.range_eq_range']at Mw;rw[show (aS m.toNat).map (λ(i:Nat)=>(i:Int))=rng m from rfl]at Mw;simp[KG.Z,zR,hc,Mw,b1,seq?]
noncomputable def un(m:Int)(ts:List (Int×Int))(s:List Int):List Int:=(rng m).filter λa=>decide (mk m ts s a=[])
theorem unheld(B:Web p)(S:gy p)(O:Nbr p)(U:Un p){k:Nat}{m:Int}{ts:List (Int×Int)}(h:GW m ts){s:List Int}(g:GS m s):qc p (k+6) "unheld" [wb m ts,tu s]=.ok (tu (un m ts s)):=by
 have e1:=marks_of O (k:=k+3) (rng m) (hd m ts) s g.len (by rw[fq];have:=h.hi;lia);have e2:=places_marked U.places_marked (k:=k+4) m h.hi (λa=>s.filter λx=>(hd m ts a).any λt=>t==x) [];have e2:qc p (k+5) "places_marked" [.lst ((rng m).map λa=>tu (s.filter λx=>(hd m ts a).any λt=>t==x)),.tup []]=_:=e2;rw[qd U.unheld];refine qk rfl rfl ?_;simp[KG.Z,je,need_web B h,need_some B S g,hoods B O h,e1,e2];simp[un,mk]
theorem GS.none{m:Int}:GS m []:=⟨List.Pairwise.nil,by simp,by simp⟩
end
abbrev L(M c:Int)(m:Int)(ts:List (Int×Int))(b a dr ro:Option D):Env:=[some (.int c),some (.int M),some (.int m),some (.int (c/M)),some (.int (c/M%6)),some (.lst (ts.map prD)),b,a,dr,ro]
noncomputable def mB:S:=(.set (.nm 8) (.op .band (.op .shr (.op .fdiv (.var 3) (.con (.int 6))) (.op .add (.op .fdiv (.op .mul (.var 6) (.op .sub (.var 6) (.con (.int 1)))) (.con (.int 2))) (.var 7))) (.con (.int 1))))
noncomputable def tX:S:=(.ite (.cmp .eq (.var 4) (.con (.int 3))) (.cons (.set (.nm 8) (.op .fdiv (.op .mod (.call "_law_stir" (.cons (.var 0) (.cons (.op .add (.op .mul (.con (.int 8)) (.var 7)) (.var 6)) .nil))) (.con (.int 3))) (.con (.int 2)))) .nil) .nil)
noncomputable def pM:S:=(.ite (.cmp .eq (.var 4) (.con (.int 4))) (.cons (.set (.nm 8) (.op .fdiv (.op .add (.op .mod (.call "_law_stir" (.cons (.var 0) (.cons (.op .add (.op .mul (.con (.int 8)) (.var 7)) (.var 6)) .nil))) (.con (.int 4))) (.con (.int 2))) (.con (.int 3)))) .nil) .nil)
noncomputable def rl:S:=(.ite (.cmp .eq (.var 4) (.con (.int 5))) (.cons (.set (.nm 9) (.lst (.cons (.cmp .eq (.var 6) (.op .add (.var 7) (.con (.int 1)))) (.cons (.or (.cmp .eq (.var 6) (.op .add (.var 7) (.con (.int 1)))) (.cmp .eq (.op .sub (.var 6) (.var 7)) (.op .sub (.var 2) (.con (.int 1))))) (.cons (.cmp .eq (.var 7) (.con (.int 0))) (.cons (.con (.bl true)) (.cons (.and (.cmp .eq (.var 6) (.op .add (.var 7) (.con (.int 1)))) (.cmp .lt (.op .mod (.var 7) (.con (.int 3))) (.con (.int 2)))) .nil))))))) (.cons (.set (.nm 8) (.bi .int (.cons (.ix (.var 9) (.op .mod (.op .fdiv (.var 3) (.con (.int 6))) (.con (.int 5)))) .nil))) .nil)) .nil)
noncomputable def mH:S:=(.ite (.cmp .eq (.var 8) (.con (.int 1))) (.cons (.app 5 (.tup (.cons (.var 7) (.cons (.var 6) .nil)))) .nil) .nil)
noncomputable def win:Ss:=(.cons mB (.cons tX (.cons pM (.cons rl (.cons mH .nil)))))
abbrev LQ(M c:Int)(n:Int)(ts:List (Int×Int))(b a:Int):Env->Prop:=λσ=>∃(i:Int) (v4:Option D),σ=L M c n ts (some (.int b)) (some (.int a)) (some (.int i)) v4
section
variable{p:Pr}{k:Nat}{M c:Int}{n:Int}{ts:List (Int×Int)}{a b:Int}{i:Int}{v3 v4:Option D}{Q:D->Prop}
theorem w0(ha:0<=a)(Kz:0<=b)(hb:b<8):Ends (LQ M c n ts b a) Q (evS (wAt p (k+1)) mB (L M c n ts (some (.int b)) (some (.int a)) v3 v4)):=by
 have Pj:small b=true:=by simp[small];lia
 have JE:0<=b * (b-1)/2+a:=by
  have:0<=b * (b-1):=by
   by_cases q:b=0
   ·rw[q];decide
   ·exact Int.mul_nonneg (by lia) (by lia)
  lia
 rw[mB];simp[KG.Z,op2,Pj,JE];exact⟨_,_,rfl⟩
theorem w1(B:g_ p):Ends (LQ M c n ts b a) Q (evS (wAt p (k+1)) tX (L M c n ts (some (.int b)) (some (.int a)) (some (.int i)) v4)):=by
 have s8:small 8=true:=by decide
 refine h_ (v:=decide (c/M%6=3)) (by simp[KG.Z,eq_int]) (λ_=>eO (K:=LQ M c n ts b a) ?_ λ_ h=>zv h) λ_=>zv ⟨_,_,rfl⟩
 simp[KG.Z,op2,s8,lp B._law_stir];exact⟨_,_,rfl⟩
theorem w2(B:g_ p):Ends (LQ M c n ts b a) Q (evS (wAt p (k+1)) pM (L M c n ts (some (.int b)) (some (.int a)) (some (.int i)) v4)):=by
 have s8:small 8=true:=by decide
 refine h_ (v:=decide (c/M%6=4)) (by simp[KG.Z,eq_int]) (λ_=>eO (K:=LQ M c n ts b a) ?_ λ_ h=>zv h) λ_=>zv ⟨_,_,rfl⟩
 simp[KG.Z,op2,s8,lp B._law_stir];exact⟨_,_,rfl⟩
theorem w3:Ends (LQ M c n ts b a) Q (evS (wAt p (k+1)) rl (L M c n ts (some (.int b)) (some (.int a)) (some (.int i)) v4)):=by
 have Ji:∃b1 b2 b3 b5:Bool,evE (wAt p (k+1)) (.lst (.cons (.cmp .eq (.var 6) (.op .add (.var 7) (.con (.int 1)))) (.cons (.or (.cmp .eq (.var 6) (.op .add (.var 7) (.con (.int 1)))) (.cmp .eq (.op .sub (.var 6) (.var 7)) (.op .sub (.var 2) (.con (.int 1))))) (.cons (.cmp .eq (.var 7) (.con (.int 0))) (.cons (.con (.bl true)) (.cons (.and (.cmp .eq (.var 6) (.op .add (.var 7) (.con (.int 1)))) (.cmp .lt (.op .mod (.var 7) (.con (.int 3))) (.con (.int 2)))) .nil)))))) (L M c n ts (some (.int b)) (some (.int a)) (some (.int i)) v4)=.ok (.lst [.bl b1,.bl b2,.bl b3,.bl true,.bl b5]):=by
  by_cases q1:b=a+1
  ·exact⟨true,true,decide (a=0),decide (a%3<2),by simp[KG.Z,op2,eq_int,lt_int,q1]⟩
  ·exact⟨false,decide (b-a=n-1),decide (a=0),false,by simp[KG.Z,op2,eq_int,lt_int,q1]⟩
 obtain⟨b1,b2,b3,b5,Ji⟩:=Ji;have Iw:∃z:Bool,ixD (.lst [.bl b1,.bl b2,.bl b3,.bl true,.bl b5]) (.int (c/M/6%5))=.ok (.bl z):=by
  have:c/M/6%5=0\/c/M/6%5=1\/c/M/6%5=2\/c/M/6%5=3\/c/M/6%5=4:=by lia
  rcases this with h|h|h|h|h<;>rw[h]
  ·exact⟨b1,rfl⟩
  ·exact⟨b2,rfl⟩
  ·exact⟨b3,rfl⟩
  ·exact⟨true,rfl⟩
  ·exact⟨b5,rfl⟩
 obtain⟨z,Iw⟩:=Iw;have hint:EV.b1 .int [.bl z]=.ok (.int (if z then 1 else 0)):=rfl;refine h_ (v:=decide (c/M%6=5)) (by simp[KG.Z,eq_int]) (λ_=>?_) λ_=>zv ⟨_,_,rfl⟩
 refine zj (σ:=L M c n ts (some (.int b)) (some (.int a)) (some (.int i)) (some (.lst [.bl b1,.bl b2,.bl b3,.bl true,.bl b5]))) (by rw[zr,Ji];rfl) ?_;refine eO (K:=LQ M c n ts b a) ?_ λ_ h=>zv h
 simp[KG.Z,op2,Iw,hint];exact⟨_,_,rfl⟩
theorem w4(hl:ts.length<SZ):Ends (λσ=>∃(us:List (Int×Int)) (v4:Option D),(us=ts\/us=ts++[(a,b)])/\σ=L M c n us (some (.int b)) (some (.int a)) (some (.int i)) v4) Q (evS (wAt p (k+1)) mH (L M c n ts (some (.int b)) (some (.int a)) (some (.int i)) v4)):=by
 refine h_ (v:=decide (i=1)) (by simp[KG.Z,eq_int]) (λ_=>?_) λ_=>zv ⟨ts,_,.inl rfl,rfl⟩
 refine zj (σ:=L M c n (ts++[(a,b)]) (some (.int b)) (some (.int a)) (some (.int i)) v4) ?_ (zv ⟨_,_,.inr rfl,rfl⟩);simp[KG.Z,hl]
 rfl
theorem En(B:g_ p)(ha:0<=a)(Kz:0<=b)(hb:b<8)(hl:ts.length<SZ):Ends (λσ=>∃(us:List (Int×Int)) (v3 v4:Option D),(us=ts\/us=ts++[(a,b)])/\σ=L M c n us (some (.int b)) (some (.int a)) v3 v4) Q (qe (wAt p (k+1)) win (L M c n ts (some (.int b)) (some (.int a)) v3 v4)):=by
 refine eO (w0 ha Kz hb) ?_;rintro _ ⟨i,v4,rfl⟩;refine eO (w1 B) ?_;rintro _ ⟨i,v4,rfl⟩;refine eO (w2 B) ?_;rintro _ ⟨i,v4,rfl⟩;refine eO w3 ?_;rintro _ ⟨i,v4,rfl⟩;refine eO (w4 hl) ?_;rintro _ ⟨us,v4,h,rfl⟩;exact zv ⟨us,_,_,h,rfl⟩
end
theorem BO{p:Pr}(B:g_ p){k:Nat}(M c:Int)(hM:1<=M/\M<=8):∃ts,GW (1+c%M) ts/\qc p (k+2) "_law_web" [.int c,.int M]=.ok (wb (1+c%M) ts):=by
 have q1:=Int.emod_nonneg c (show M≠0 by lia);have q2:=Int.emod_lt_of_pos c (show 0<M by lia);have h1:1<=1+c%M:=by lia
 have h2:1+c%M<=8:=by lia
 have p0:0<M:=by lia
 have p1:M<1000000000000000000000000000000:=by lia
 generalize hn:1+c%M=n at h1 h2 ⊢;have P:=pok n h1 h2
 suffices h:∃d,qc p (k+2) "_law_web" [.int c,.int M]=.ok d/\∃ts,GW n ts/\d=wb n ts by
  obtain⟨d,e,ts,g,rfl⟩:=h;exact⟨ts,g,e⟩
 refine gZ (k:=k+1) (τ:=[some (.int c),some (.int M),none,none,none,none,none,none,none,none]) B._law_web rfl rfl ?_;refine zj (σ:=[some (.int c),some (.int M),some (.int n),none,none,none,none,none,none,none]) (by simp[KG.Z,op2,hn,p0]) ?_;refine zj (σ:=[some (.int c),some (.int M),some (.int n),some (.int (c/M)),none,none,none,none,none,none]) (by simp[KG.Z,op2,p0,p1]) ?_;refine zj (σ:=[some (.int c),some (.int M),some (.int n),some (.int (c/M)),some (.int (c/M%6)),none,none,none,none,none]) (by simp[KG.Z,op2,p0,p1]) ?_;refine zj (σ:=L M c n [] none none none none) (by simp[KG.Z]) ?_;have hm:qr n=true:=by simp[qr];lia
 have s1:qr 1=true:=by decide
 have hr:zk 1 (n-1).toNat=(gX n).map D.int:=by
  rw[zk,gX,cc];rfl
 have m1:∀b∈gX n,0<=b/\b<8:=by
  intro b hb;simp only[gX,aY,List.mem_range]at hb;obtain⟨i,hi,rfl⟩:=hb;lia
 refine fv (ds:=(gX n).map D.int) (λr σ=>∃(bs:List Int) (ts:List (Int×Int)) (v1 v2 v3 v4:Option D),r=bs.map D.int/\(∀b∈bs,0<=b/\b<8)/\(ts++bs.flatMap kY).Sublist (fW n)/\σ=L M c n ts v1 v2 v3 v4) (by rw[<-hr];simp[KG.Z,hm,s1]) ⟨_,[],none,none,none,none,rfl,m1,(by rw[fW];simp),rfl⟩ ?_ ?_
 ·rintro x t σ ⟨bs,ts,v1,v2,v3,v4,e,hb,hs,rfl⟩;cases bs with
  |nil=>cases e
  |cons b bs=>
   rw[aN]at e;injection e with e1 e2
   subst e1 e2;obtain⟨Kz,Pk⟩:=hb b aQ;refine⟨L M c n ts (some (.int b)) v2 v3 v4,rfl,?_⟩;have Pl:qr b=true:=by simp[qr];lia
   refine fv (ds:=(rng b).map D.int) (λr σ=>∃(as:List Int) (ts:List (Int×Int)) (v2 v3 v4:Option D),r=as.map D.int/\(∀a∈as,0<=a)/\(ts++(as.map λa=>(a,b))++bs.flatMap kY).Sublist (fW n)/\σ=L M c n ts (some (.int b)) v2 v3 v4) (by rw[<-zK];simp[KG.Z,Pl]) ⟨_,ts,_,_,_,rfl,(λa ha=>(dY.mp ha).1),(by rw[cy,<-bu]at hs;exact hs),rfl⟩ ?_ ?_
   ·rintro x t σ ⟨as,ts,v2,v3,v4,e,ha,hs,rfl⟩;cases as with
    |nil=>cases e
    |cons a as=>
     rw[aN]at e;injection e with e1 e2
     subst e1 e2;refine⟨L M c n ts (some (.int b)) (some (.int a)) v3 v4,rfl,?_⟩;have hlen:ts.length<SZ:=by
      have h1:=hs.length_le;have h2:=P.len;simp only[d_]at h1;simp only[SZ];lia
     have W:=En B (k:=k) (M:=M) (c:=c) (n:=n) (ts:=ts) (v3:=v3) (v4:=v4) (Q:=λd=>∃ts,GW n ts/\d=wb n ts) (ha a aQ) Kz Pk hlen;refine EL W ?_;rintro _ ⟨us,v3,v4,h,rfl⟩;refine⟨as,us,_,v3,v4,rfl,λa' q=>ha a' (aO _ q),?_,rfl⟩;rcases h with rfl|rfl
     ·refine List.Sublist.trans ?_ hs;simp
     ·simpa using hs
   ·rintro σ ⟨as,ts,v2,v3,v4,e,ha,hs,rfl⟩;cases as with
    |cons a as=>cases e
    |nil=>exact zv ⟨bs,ts,_,_,_,_,rfl,λb' q=>hb b' (aO _ q),by simpa using hs,rfl⟩
 ·rintro σ ⟨bs,ts,v1,v2,v3,v4,e,hb,hs,rfl⟩;cases bs with
  |cons b bs=>cases e
  |nil=>
   have hs:ts.Sublist (fW n):=by simpa using hs
   have hl:ts.length<64:=by have:=hs.length_le;have:=P.len;lia
   refine fZ (d:=wb n (dN ts)) ?_ ⟨_,Dq h1 h2 hs,rfl⟩;have e1:=B4 ts hl;have e2:b1 .tuple [.lst ((dN ts).map prD)]=.ok (.tup ((dN ts).map prD)):=rfl;simp[KG.Z,e1,e2]
end KG
namespace KG
open EV
open PySem (Str Builtin.bitAnd Builtin.bitOr)
open L2 (atI ixN ltP)
theorem sG(a b:Nat):cw (a:Int) (b:Int)=((a &&& b:Nat):Int):=by
 simp[cw]
theorem lB(a b:Nat):PySem.Builtin.bitOr (a:Int) (b:Int)=((a |||b:Nat):Int):=by
 have h:∀n:Nat,¬ (0<=bE (n:Int)):=λn=>by simp[bE];lia
 have e:∀n:Nat,bE (bE (n:Int))=n:=λn=>by simp[bE];lia
 unfold PySem.Builtin.bitOr;have:cw (bE (a:Int)) (bE (b:Int))=bE (((bE (bE (a:Int))).toNat ||| (bE (bE (b:Int))).toNat:Nat):Int):=by
  simp[cw,h a,h b]
 rw[this,e,e,e];simp
theorem oR(n:Nat)(i:Nat):cw ((n:Int)/2^i) 1=if n.testBit i then 1 else 0:=by
 have e:((n:Int)/2^i)=((n/2^i:Nat):Int):=by simp
 rw[e,show (1:Int)=((1:Nat):Int)from rfl,sG,Nat.and_one_is_mod,Nat.testBit_eq_decide_div_mod_eq];by_cases h:n/2^i%2=1
 ·simp[h]
 ·have:n/2^i%2=0:=by lia
  simp[this]
noncomputable def bs(m:Int)(n:Nat):List Int:=(rng m).filter λi=>n.testBit i.toNat
theorem gp{m:Int}(h:m<=8)(n:Nat):GS m (bs m n):=
 ⟨(D9 m).sublist List.filter_sublist,λi hi=>dY.mp (bN.mp hi).1,br (List.length_filter_le _ _) (by rw[fq];lia)⟩
theorem kP{m:Int}{n:Nat}{i:Int}:i∈bs m n↔(0<=i/\i<m)/\n.testBit i.toNat=true:=by
 rw[bs,bN,dY]
noncomputable def subs:Nat->List (List Int)
 | 0=>[[]]
 |j+1=>subs j++(subs j).map (· ++ [(j:Int)])
theorem l5(m:Int)(h1:1<=m)(h2:m<=8):subs m.toNat=(aS (2^m.toNat)).map (bs m):=by
 have:m=1\/m=2\/m=3\/m=4\/m=5\/m=6\/m=7\/m=8:=by lia
 rcases this with rfl|rfl|rfl|rfl|rfl|rfl|rfl|rfl<;>decide +kernel
theorem lg:∀j,(subs j).length=2^j
 | 0=>rfl
 |j+1=>by rw[subs,d_,bG,lg j,Nat.pow_succ];lia
theorem pF:∀ts:List (List Int),tups? (ts.map tu)=some ts
 | []=>rfl
 |t::r=>by
  show (ints? (t.map D.int)).bind (λn=>(tups? (r.map tu)).map (n :: ·))=_;rw[ints_map,pF r];rfl
theorem lW:∀j,1<=j->∃b r,subs j=[]::b::r
 | 1,_=>⟨_,_,rfl⟩
 |j+2,_=>by
  obtain⟨b,r,e⟩:=lW (j+1) (by lia);rw[subs,e];exact⟨_,_,rfl⟩
theorem vq(j:Nat)(h:1<=j):gF (subs j)=true:=by
 obtain⟨b,r,e⟩:=lW j h;rw[e];rfl
theorem ki{m:Nat}(h:m<=8):2^m<=256:=Nat.pow_le_pow_right (by decide) h
theorem tW{j:Nat}(h1:1<=j):b1 .sorted [.lst ((subs j).map tu)]=.ok (.lst ((zH (subs j)).map tu)):=by
 have hT:eW ((subs j).map tu)=.ok (.lst ((zH (subs j)).map tu)):=by
  rw[eW,pF];show (if gF (subs j)=true then _ else _)=_;rw[vq j h1];rfl
 rw[nJ];obtain⟨b,r,e⟩:=lW j h1;have hp:pairs? ((subs j).map tu)=none:=by rw[e];rfl
 rw[hp];simp only;rw[hT];split<;>rfl
theorem pA{p:Pr}(hf:p.fns "all_some" = some gx){k:Nat}{m:Int}{t:D}(h1:1<=m)(h2:m<=8):qc p (k+1) "all_some" [.tup [.int m,t]]=.ok (.lst ((zH (subs m.toNat)).map tu)):=by
 obtain⟨d,e,rfl⟩:∃d,qc p (k+1) "all_some" [.tup [.int m,t]]=.ok d/\d=.lst ((zH (subs m.toNat)).map tu):=by
  refine gZ (k:=k) (τ:=[some (.tup [.int m,t]),none,none]) hf rfl rfl ?_;refine zj (σ:=[some (.tup [.int m,t]),some (.lst ((subs 0).map tu)),none]) (by simp[KG.Z];rfl) ?_;have hm:qr m=true:=by simp[qr];lia
  have hx:ixD (.tup [.int m,t]) (.int 0)=.ok (.int m):=rfl;refine fv (ds:=(rng m).map D.int) (λr σ=>∃(j:Nat) (v2:Option D),j<=m.toNat/\r=((List.range' j (m.toNat-j)).map λ(i:Nat)=>(i:Int)).map D.int/\σ=[some (.tup [.int m,t]),some (.lst ((subs j).map tu)),v2]) (by rw[<-zK];simp[KG.Z,hm,hx]) ⟨0,none,by lia,by rw[rng,List.range_eq_range'];rfl,rfl⟩ ?_ ?_
  ·rintro x r σ ⟨j,v2,hj,e,rfl⟩;by_cases Mx:j=m.toNat
   ·subst Mx;simp at e
   ·have ej:m.toNat-j=(m.toNat-(j+1))+1:=by lia
    rw[ej,List.range'_succ,aN,aN]at e;injection e with e1 e2
    subst e1 e2;refine⟨[some (.tup [.int m,t]),some (.lst ((subs j).map tu)),some (.int j)],rfl,?_⟩;have hl:=lg j;have hp:=ki (m:=j) (by lia);have hc:evE (wAt p k) (.comp (.seq (.var 1)) [none,none,some 2] (.nm 1) .yes (.op .add (.var 1) (.tup (.cons (.var 2) .nil)))) [some (.tup [.int m,t]),some (.lst ((subs j).map tu)),some (.int j)]=.ok (.lst (((subs j).map (· ++ [(j:Int)])).map tu)):=by
     have he:((subs j).map tu).flatMap (λx=>match x with | .tup xs=>[D.tup (xs++[.int j])]|_=>[])=((subs j).map (· ++ [(j:Int)])).map tu:=by
      generalize subs j=l
      induction l with
      |nil=>rfl
      |cons a r ih=>rw[aN,cy,ih];simp[tu]
     rw[<-he];refine eE (c:=[some (.int j)]) ?_ ?_ rfl ?_
     ·simp[KG.Z,seq?]
     ·simp[SZ];lia
     ·intro x hx;rw[aY]at hx;obtain⟨s,hs,rfl⟩:=hx;have Il:s.length<=j:=by
       have:∀(n:Nat) (s:List Int),s∈subs n->s.length<=n:=by
        intro n
        induction n with
        |zero=>intro s hs;simp[subs]at hs;subst hs;simp
        |succ n ih=>
         intro s hs;rw[subs,List.mem_append,aY]at hs;rcases hs with hs|⟨u,hu,rfl⟩
         ·have:=ih s hs;lia
         ·have:=ih u hu;simp;lia
       exact this j s hs
      have e:op2 .add (tu s) (.tup [.int j])=.ok (.tup (s.map D.int++[.int j])):=by
       rw[op2,if_pos (by simp[SZ];lia)]
      simp[KG.Z,e]
    have e3:op2 .add (.lst ((subs j).map tu)) (.lst (((subs j).map (· ++ [(j:Int)])).map tu))=.ok (.lst ((subs (j+1)).map tu)):=by
     rw[op2,if_pos (by simp[SZ];lia),subs,List.map_append]
    refine zj (σ:=[some (.tup [.int m,t]),some (.lst ((subs (j+1)).map tu)),some (.int j)]) (by rw[zr,qT,hc,qo];simp only[zD,List.getElem?_cons_succ,List.getElem?_cons_zero,R.bind_ok];rw[e3];rfl) (zv ⟨j+1,_,by lia,rfl,rfl⟩)
  ·rintro σ ⟨j,v2,hj,e,rfl⟩;have:j=m.toNat:=by
    have:=congrArg List.length e;simp at this;lia
   subst this;exact fZ (d:=.lst ((zH (subs m.toNat)).map tu)) (by simp[KG.Z,tW (j:=m.toNat) (by lia)]) rfl
 exact e
section
variable{p:Pr}(B:Base p)
include B
theorem l8{k:Nat}{m:Int}(h1:0<=m)(h2:m<=8)(n:Nat):qc p (k+1) "_law_some" [.int m,.int n]=.ok (tu (bs m n)):=by
 rw[qd B._law_some];refine qk rfl rfl ?_;have hc:evE ⟨qc p k,p.glb,p.sub,p.cat,p.fld⟩ (.comp (.rng (.var 0)) [none,none,some 1] (.nm 1) (.cmp .eq (.op .band (.op .shr (.var 2) (.var 1)) (.con (.int 1))) (.con (.int 1))) (.var 1)) [some (.int m),some (.int n)]=.ok (.lst ((bs m n).map D.int)):=by
  rw[bs,<-lu,<-zK];refine eE (c:=[some (.int n)]) ?_ ?_ rfl ?_
  ·have:qr m=true:=by simp[qr];lia
   simp[KG.Z,this]
  ·simp[zk,SZ];lia
  ·intro x hx;rw[zK,aY]at hx;obtain⟨b,hb,rfl⟩:=hx;obtain⟨b0,b1⟩:=dY.mp hb;have e:=oR n b.toNat;have e2:qh .eq (.int (cw ((n:Int)/2^b.toNat) 1)) (.int 1)=.ok (n.testBit b.toNat):=by
    rw[e,eq_int];cases n.testBit b.toNat<;>rfl
   simp[KG.Z,op2,b0,e2];cases n.testBit b.toNat<;>simp
 simp[KG.Z,jg,hc,b1,seq?]
theorem all_some{k:Nat}{m:Int}{t:D}(h1:1<=m)(h2:m<=8):qc p (k+1) "all_some" [.tup [.int m,t]]=.ok (.lst ((zH (subs m.toNat)).map tu)):=pA B.all_some h1 h2
end
end KG
namespace KG
open EV
open PySem (Str)
open L2 (atI ixN ltP)
theorem vQ(m:Int)(h1:1<=m)(h2:m<=8)(n:Nat)(h:n<2^m.toNat):((bs m n).map λi=>(1:Int) * 2^i.toNat).sum=n:=by
 have:m=1\/m=2\/m=3\/m=4\/m=5\/m=6\/m=7\/m=8:=by lia
 have key:∀m:Fin 9,1<=m.val->∀n,n<2^m.val->((bs (m.val:Int) n).map λi=>(1:Int) * 2^i.toNat).sum=n:=by decide +kernel
 have:=key ⟨m.toNat,by lia⟩ (by show 1<=m.toNat;lia) n h;rw[show ((⟨m.toNat,by lia⟩:Fin 9).val:Int)=m by show (m.toNat:Int)=m;lia]at this;exact this
theorem iB(i:Int)(h:0<=i)(h':i<=8):opI .shl 1 i=.ok (.int (1 * 2^i.toNat)):=by
 rw[opI,if_pos ⟨h,by lia,by decide⟩]
theorem iO(i:Int):(1:Int) * 2^i.toNat=((2^i.toNat:Nat):Int):=by simp
section
variable{p:Pr}(B:Base p)
include B
theorem rY(hf:p.fns "_law_mask" = some hU){k:Nat}{m:Int}(h1:1<=m)(h2:m<=8){n:Nat}(h:n<2^m.toNat):qc p (k+1) "_law_mask" [tu (bs m n)]=.ok (.int n):=by
 rw[qd hf];refine qk (τ:=[some (tu (bs m n))]) rfl rfl ?_;have G:=gp h2 n;have hc:evE ⟨qc p k,p.glb,p.sub,p.cat,p.fld⟩ (.comp (.seq (.var 0)) [none,none] (.nm 1) .yes (.op .shl (.con (.int 1)) (.var 1))) [some (tu (bs m n))]=.ok (.lst (((bs m n).map λi=>(1:Int) * 2^i.toNat).map D.int)):=by
  rw[cc,<-nj];refine eE (c:=[]) ?_ ?_ rfl ?_
  ·simp[KG.Z,seq?]
  ·simp[SZ];have:=G.len;lia
  ·intro x hx;rw[aY]at hx;obtain⟨b,hb,rfl⟩:=hx;have e:=iB b (G.ok b hb).1 (by have:=(G.ok b hb).2;lia);have e2:op2 .shl (.int 1) (.int b)=.ok (.int (1 * 2^b.toNat)):=e;simp[KG.Z,e2]
 have hs:b1 .sum [.lst (((bs m n).map λi=>(1:Int) * 2^i.toNat).map D.int)]=.ok (.int n):=by
  rw[b1,b11];simp only[dt];rw[ints_map,<-vQ m h1 h2 n h];rfl
 show qe _ (.cons (.ret (.bi .sum (.cons _ .nil))) .nil) _=_;rw[qe,zm,ql,qD,hc];simp only[R.bind_ok,qD,hs,R.out_ok]
theorem mL(hf:p.fns "_law_all" = some hZ){k:Nat}{m:Int}(h1:1<=m)(h2:m<=8):qc p (k+2) "_law_all" [.int m]=.ok (.lst ((zH (subs m.toNat)).map tu)):=by
 rw[qd hf];refine qk (τ:=[some (.int m)]) rfl rfl ?_;have hp:=ki (m:=m.toNat) (by lia);have hc:evE ⟨qc p (k+1),p.glb,p.sub,p.cat,p.fld⟩ (.comp (.rng (.op .shl (.con (.int 1)) (.var 0))) [none,none,some 0] (.nm 1) .yes (.call "_law_some" (.cons (.var 2) (.cons (.var 1) .nil)))) [some (.int m)]=.ok (.lst ((subs m.toNat).map tu)):=by
  have he:(zk 0 (2^m.toNat)).flatMap (λx=>match x with | .int i=>[tu (bs m i.toNat)]|_=>[])=(subs m.toNat).map tu:=by
   rw[l5 m h1 h2,zk,List.flatMap_map,cc];generalize aS (2^m.toNat)=l
   induction l with
   |nil=>rfl
   |cons a r ih=>rw[cy,ih,aN];simp[tu]
  rw[<-he];refine eE (c:=[some (.int m)]) ?_ ?_ rfl ?_
  ·have e:op2 .shl (.int 1) (.int m)=.ok (.int ((2^m.toNat:Nat):Int)):=by
    show opI .shl 1 m=_;rw[iB m (by lia) h2,iO]
   clear he;generalize 2^m.toNat=N at *;have:qr (N:Int)=true:=by simp only[qr,aL,decide_eq_true_eq];lia
   simp[KG.Z,e,this]
  ·simp[zk,SZ];lia
  ·intro x hx;simp only[zk,aY,List.mem_range]at hx;obtain⟨i,hi,rfl⟩:=hx;have e:=l8 B (k:=k) (m:=m) (by lia) h2 i;simp only[Int.zero_add];simp[KG.Z,e]
 have hs:=tW (j:=m.toNat) (by lia);show qe _ (.cons (.ret (.bi .sorted (.cons _ .nil))) .nil) _=_;rw[qe,zm,ql,qD,hc];simp only[R.bind_ok,qD,hs,R.out_ok]
end
noncomputable def near(ts:List (Int×Int))(q i:Nat):Bool:=q==i||ts.any λt=>(t.1==(q:Int)&&t.2==(i:Int))||(t.1==(i:Int)&&t.2==(q:Int))
abbrev ln(N:List Nat):D:=.lst (N.map λ(x:Nat)=>D.int (x:Int))
structure fk(m:Int)(ts:List (Int×Int))(N:List Nat):Prop where
 len:N.length=m.toNat
 bit:∀(q:Nat) (h:q<N.length) (i:Nat),N[q].testBit i=near ts q i
theorem FJ(q i:Nat):near [] q i=(q==i):=by simp[near]
theorem vL(ts:List (Int×Int))(t:Int×Int)(q i:Nat):near (ts++[t]) q i=(near ts q i||((t.1==(q:Int)&&t.2==(i:Int))||(t.1==(i:Int)&&t.2==(q:Int)))):=by
 simp[near,List.any_append,Bool.or_assoc]
theorem Fl{m:Int}{ts:List (Int×Int)}{N:List Nat}(h:fk m ts N){a b:Nat}(My:a≠b)(ha:a<N.length)(hb:b<N.length):fk m (ts++[((a:Int),(b:Int))]) ((N.set a (N[a] ||| 2^b)).set b (N[b] ||| 2^a)):=by
 refine⟨by simp[h.len],λq hq i=>?_⟩;have Ki:q<N.length:=by simpa using hq
 rw[vL];by_cases qb:q=b
 ·subst qb;have e:((N.set a (N[a] ||| 2^q)).set q (N[q] ||| 2^a))[q]=N[q] ||| 2^a:=by simp
  rw[e,Nat.testBit_or,h.bit q hb i,Nat.testBit_two_pow]
  congr 1
  by_cases z:a=i
  ·subst z;simp
  ·have:((a:Int)==(q:Int))=false:=by simp;lia
   have z2:((a:Int)==(i:Int))=false:=by simp;lia
   simp[z,this,z2]
 ·by_cases qa:q=a
  ·subst qa;have e:((N.set q (N[q] ||| 2^b)).set b (N[b] ||| 2^q))[q]=N[q] ||| 2^b:=by simp[List.getElem_set,bH qb]
   rw[e,Nat.testBit_or,h.bit q ha i,Nat.testBit_two_pow]
   congr 1
   by_cases z:b=i
   ·subst z;simp
   ·have z2:((b:Int)==(i:Int))=false:=by simp;lia
    have z3:((b:Int)==(q:Int))=false:=by simp;lia
    simp[z,z2,z3]
  ·have e:((N.set a (N[a] ||| 2^b)).set b (N[b] ||| 2^a))[q]=N[q]:=by simp[List.getElem_set,bH qb,bH qa]
   have z1:((a:Int)==(q:Int))=false:=by simp;lia
   have z2:((b:Int)==(q:Int))=false:=by simp;lia
   rw[e,h.bit q Ki i];simp[z1,z2]
theorem lO{N:List Nat}{a:Nat}(h:a<N.length):ixD (ln N) (.int (a:Int))=.ok (.int (N[a]:Nat)):=by
 have:=fO (xs:=N.map λ(x:Nat)=>D.int (x:Int)) (i:=a) (by simpa using h);simp only[ixD];rw[this];simp
theorem mZ{N:List Nat}{a:Nat}(h:a<N.length):ixN (N.map λ(x:Nat)=>D.int (x:Int)).length (a:Int)=some a:=by
 rw[ixN,if_pos (by lia),if_pos (by simp;lia)];simp
theorem nC(N:List Nat)(a v:Nat):(N.map λ(x:Nat)=>D.int (x:Int)).set a (.int (v:Int))=(N.set a v).map λ(x:Nat)=>D.int (x:Int):=by
 rw[List.map_set]
theorem Dz{p:Pr}(hf:p.fns "_law_masks" = some jj){k:Nat}{m:Int}{ts:List (Int×Int)}(h:GW m ts):∃N,fk m ts N/\qc p (k+1) "_law_masks" [wb m ts]=.ok (ln N):=by
 have h1:=h.lo;have h2:=h.hi
 suffices hs:∃d,qc p (k+1) "_law_masks" [wb m ts]=.ok d/\∃N,fk m ts N/\d=ln N by
  obtain⟨d,e,N,g,rfl⟩:=hs;exact⟨N,g,e⟩
 refine gZ (k:=k) (τ:=[some (wb m ts),none,none,none]) hf rfl rfl ?_;have hm:qr m=true:=by simp[qr];lia
 have hx:ixD (wb m ts) (.int 0)=.ok (.int m):=rfl;have hy:ixD (wb m ts) (.int 1)=.ok (.tup (ts.map prD)):=rfl;have hc:evE (wAt p k) (.comp (.rng (.ix (.var 0) (.con (.int 0)))) [none,none] (.nm 1) .yes (.op .shl (.con (.int 1)) (.var 1))) [some (wb m ts),none,none,none]=.ok (ln ((aS m.toNat).map λi=>2^i)):=by
  have he:((rng m).map D.int).flatMap (λx=>match x with | .int i=>[D.int ((2^i.toNat:Nat):Int)]|_=>[])=((aS m.toNat).map λi=>2^i).map λ(x:Nat)=>D.int (x:Int):=by
   rw[rng,cc,cc,List.flatMap_map];generalize aS m.toNat=l
   induction l with
   |nil=>rfl
   |cons a r ih=>rw[cy,ih,aN];simp
  rw[ln,<-he];refine eE (c:=[]) ?_ ?_ rfl ?_
  ·rw[<-zK];simp[KG.Z,hm,hx]
  ·simp[fq,SZ];lia
  ·intro x hx;rw[aY]at hx;obtain⟨b,hb,rfl⟩:=hx;have G4:=dY.mp hb;have e2:op2 .shl (.int 1) (.int b)=.ok (.int ((2^b.toNat:Nat):Int)):=by
    show opI .shl 1 b=_;rw[iB b G4.1 (by lia),iO]
   simp[KG.Z,e2]
 refine zj (σ:=[some (wb m ts),some (ln ((aS m.toNat).map λi=>2^i)),none,none]) (by rw[zr,hc];rfl) ?_;refine fv (ds:=ts.map prD) (λr σ=>∃(us vs:List (Int×Int)) (N:List Nat) (v2 v3:Option D),us++vs=ts/\r=vs.map prD/\fk m us N/\σ=[some (wb m ts),some (ln N),v2,v3]) (by simp[KG.Z,hy,seq?]) ⟨[],ts,_,none,none,rfl,rfl,⟨by simp,λq hq i=>by rw[FJ];simp[Nat.testBit_two_pow];rfl⟩,rfl⟩ ?_ ?_
 ·rintro x r σ ⟨us,vs,N,v2,v3,e,er,hN,rfl⟩;cases vs with
  |nil=>cases er
  |cons t vs=>
   rw[aN]at er;injection er with e1 e2
   subst e1 e2;have ht:=h.ok t (by rw[<-e];simp);obtain⟨a,ha⟩:∃a:Nat,t.1=a:=⟨t.1.toNat,by lia⟩
   obtain⟨b,hb⟩:∃b:Nat,t.2=b:=⟨t.2.toNat,by lia⟩
   have et:t=((a:Int),(b:Int)):=Prod.ext ha hb;subst et;have la:a<N.length:=by rw[hN.len];lia
   have lb:b<N.length:=by rw[hN.len];lia
   have My:a≠b:=by lia
   refine⟨[some (wb m ts),some (ln N),some (.int a),some (.int b)],rfl,?_⟩;have sh:∀i:Nat,i<=8->op2 .shl (.int 1) (.int i)=.ok (.int ((2^i:Nat):Int)):=λi hi=>by
    show opI .shl 1 (i:Int)=_;rw[iB i (by lia) (by lia),iO];simp
   have bo:∀x y:Nat,op2 .bor (.int x) (.int y)=.ok (.int ((x |||y:Nat):Int)):=λx y=>by
    show R.ok (D.int (PySem.Builtin.bitOr (x:Int) (y:Int)))=_;rw[lB]
   have s1:evS (wAt p k) (.seti 1 (.var 2) (.op .bor (.ix (.own 1) (.var 2)) (.op .shl (.con (.int 1)) (.var 3)))) [some (wb m ts),some (ln N),some (.int a),some (.int b)]=.nx [some (wb m ts),some (ln (N.set a (N[a] ||| 2^b))),some (.int a),some (.int b)]:=by
    have e0:evE (wAt p k) (.op .bor (.ix (.own 1) (.var 2)) (.op .shl (.con (.int 1)) (.var 3))) [some (wb m ts),some (ln N),some (.int a),some (.int b)]=.ok (.int ((N[a] ||| 2^b:Nat):Int)):=by
     rw[qT,qT,qx,qo,qo,zb,qX];simp only[zD,List.getElem?_cons_succ,List.getElem?_cons_zero,R.bind_ok];rw[lO la,sh b (by lia)];exact bo _ _
    rw[cL,e0];simp only[R.out_ok,zD,qo,List.getElem?_cons_succ,List.getElem?_cons_zero];rw[mZ la];simp only[List.set_cons_succ,List.set_cons_zero];rw[nC]
   have QP:a<(N.set a (N[a] ||| 2^b)).length:=by simpa using la
   have NF:b<(N.set a (N[a] ||| 2^b)).length:=by simpa using lb
   have eb:(N.set a (N[a] ||| 2^b))[b]=N[b]:=by simp[List.getElem_set,My]
   have s2:evS (wAt p k) (.seti 1 (.var 3) (.op .bor (.ix (.own 1) (.var 3)) (.op .shl (.con (.int 1)) (.var 2)))) [some (wb m ts),some (ln (N.set a (N[a] ||| 2^b))),some (.int a),some (.int b)]=.nx [some (wb m ts),some (ln ((N.set a (N[a] ||| 2^b)).set b (N[b] ||| 2^a))),some (.int a),some (.int b)]:=by
    have e0:evE (wAt p k) (.op .bor (.ix (.own 1) (.var 3)) (.op .shl (.con (.int 1)) (.var 2))) [some (wb m ts),some (ln (N.set a (N[a] ||| 2^b))),some (.int a),some (.int b)]=.ok (.int ((N[b] ||| 2^a:Nat):Int)):=by
     rw[qT,qT,qx,qo,qo,zb,qX];simp only[zD,List.getElem?_cons_succ,List.getElem?_cons_zero,R.bind_ok];rw[lO NF,eb,sh a (by lia)];exact bo _ _
    rw[cL,e0];simp only[R.out_ok,zD,qo,List.getElem?_cons_succ,List.getElem?_cons_zero];rw[mZ NF];simp only[List.set_cons_succ,List.set_cons_zero];rw[nC]
   exact zj s1 (zj s2 (zv ⟨us++[((a:Int),(b:Int))],vs,_,_,_,by simpa using e,rfl,Fl hN My la lb,rfl⟩))
 ·rintro σ ⟨us,vs,N,v2,v3,e,er,hN,rfl⟩;have:vs=[]:=by cases vs with|nil=>rfl|cons _ _=>cases er
  subst this;rw[c_]at e;subst e;exact fZ (d:=ln N) (by simp[KG.Z]) ⟨N,hN,rfl⟩
theorem ub{p:Pr}(O:jo p){k:Nat}{m:Int}{ts:List (Int×Int)}(h:GW m ts):∃N,fk m ts N/\qc p (k+1) "_law_masks" [wb m ts]=.ok (ln N):=Dz O._law_masks h
noncomputable def hold(m:Int)(ts:List (Int×Int))(n i:Nat):Bool:=(aS m.toNat).any λq=>n.testBit q&&near ts q i
theorem yl(N:List Nat):∀j:Nat,cN j (N.map λ(x:Nat)=>D.int (x:Int))=(List.range' j N.length).map λ(q:Nat)=>.tup [.int (q:Int),.int ((N.getD (q-j) 0:Nat):Int)]:=by
 induction N with
 |nil=>intro j;rfl
 |cons a r ih=>
  intro j;rw[aN,cN,ih (j+1),bM,List.range'_succ,aN]
  congr 1
  ·simp
  ·refine List.map_congr_left λq hq=>?_
   have:=(List.mem_range'_1.mp hq).1;have e:q-j=(q-(j+1))+1:=by lia
   rw[e,List.getD_cons_succ]
theorem oZ{p:Pr}(hf:p.fns "_law_held" = some gN){k:Nat}{m:Int}{ts:List (Int×Int)}{N:List Nat}(hN:fk m ts N)(n:Nat):∃H:Nat,(∀i,H.testBit i=hold m ts n i)/\qc p (k+1) "_law_held" [ln N,.int n]=.ok (.int H):=by
 suffices hs:∃d,qc p (k+1) "_law_held" [ln N,.int n]=.ok d/\∃H:Nat,(∀i,H.testBit i=hold m ts n i)/\d=.int H by
  obtain⟨d,e,H,g,rfl⟩:=hs;exact⟨H,g,e⟩
 refine gZ (k:=k) (τ:=[some (ln N),some (.int n),none,none,none]) hf rfl rfl ?_;refine zj (σ:=[some (ln N),some (.int n),some (.int ((0:Nat):Int)),none,none]) (by simp[KG.Z]) ?_;have hl:=hN.len;refine fv (ds:=(List.range' 0 N.length).map λ(q:Nat)=>.tup [.int (q:Int),.int ((N.getD q 0:Nat):Int)]) (λr σ=>∃(j H:Nat) (v3 v4:Option D),j<=N.length/\(r=(List.range' j (N.length-j)).map λ(q:Nat)=>.tup [.int (q:Int),.int ((N.getD q 0:Nat):Int)])/\(∀i,H.testBit i=(aS j).any λq=>n.testBit q&&near ts q i)/\σ=[some (ln N),some (.int n),some (.int (H:Int)),v3,v4]) (by have:=yl N 0;simp only[Nat.sub_zero]at this;simp[KG.Z,this]) ⟨0,0,none,none,by lia,rfl,by simp,rfl⟩ ?_ ?_
 ·rintro x r σ ⟨j,H,v3,v4,hj,er,hH,rfl⟩;by_cases Mx:j=N.length
  ·subst Mx;simp at er
  ·have ej:N.length-j=(N.length-(j+1))+1:=by lia
   have Hr:j<N.length:=by lia
   rw[ej,List.range'_succ,aN]at er;injection er with e1 e2
   subst e1 e2;have eg:N.getD j 0=N[j]:=by simp[Hr]
   rw[eg];refine⟨[some (ln N),some (.int n),some (.int (H:Int)),some (.int (j:Int)),some (.int (N[j]:Nat))],rfl,?_⟩;have e2:qh .eq (.int (cw ((n:Int)/2^j) 1)) (.int 1)=.ok (n.testBit j):=by
    rw[oR n j,eq_int];cases n.testBit j<;>rfl
   refine eO (K:=λσ=>∃H':Nat,(∀i,H'.testBit i=(aS (j+1)).any λq=>n.testBit q&&near ts q i)/\σ=[some (ln N),some (.int n),some (.int (H':Int)),some (.int (j:Int)),some (.int (N[j]:Nat))]) ?_ ?_
   ·refine h_ (v:=n.testBit j) (by simp[KG.Z,op2,e2]) (λq=>?_) λq=>zv ⟨H,λi=>?_,rfl⟩
    ·refine zj (σ:=[some (ln N),some (.int n),some (.int ((H |||N[j]:Nat):Int)),some (.int (j:Int)),some (.int (N[j]:Nat))]) (by simp[KG.Z,op2,lB]) (zv ⟨H |||N[j],λi=>?_,rfl⟩);rw[Nat.testBit_or,hH,hN.bit j Hr i,List.range_succ,List.any_append];simp[q]
    ·rw[hH,List.range_succ,List.any_append];simp[q]
   ·rintro _ ⟨H',Pm,rfl⟩;exact zv ⟨j+1,H',_,_,by lia,rfl,Pm,rfl⟩
 ·rintro σ ⟨j,H,v3,v4,hj,er,hH,rfl⟩;have:j=N.length:=by
   have:=congrArg List.length er;simp at this;lia
  subst this;exact fZ (d:=.int (H:Int)) (by simp[KG.Z]) ⟨H,λi=>by rw[hH,hold,hl],rfl⟩
theorem oC(a b:Int)(t:Int×Int)(ht:t.1<t.2):(t.1==mn a b&&t.2==mx a b)=((t.1==a&&t.2==b)||(t.1==b&&t.2==a)):=by
 rw[Bool.eq_iff_iff];simp only[mn,mx,aL,bQ,beq_iff_eq];split<;>split<;>lia
theorem lL{m:Int}{ts:List (Int×Int)}(h:GW m ts)(q i:Nat):near ts q i=(q==i||el ts q i):=by
 rw[near,el]
 congr 1
 rw[Bool.eq_iff_iff,b9,b9];constructor
 ·rintro⟨t,ht,e⟩;exact⟨t,ht,by rw[oC _ _ t (h.ok t ht).2.1];exact e⟩
 ·rintro⟨t,ht,e⟩;exact⟨t,ht,by rw[oC _ _ t (h.ok t ht).2.1]at e;exact e⟩
theorem lT(ts:List (Int×Int))(a b:Int):el ts a b=el ts b a:=by
 rw[el,el]
 congr 1;funext t
 rw[Bool.eq_iff_iff];simp only[mn,mx,aL,beq_iff_eq];split<;>split<;>lia
theorem jJ{m:Int}{ts:List (Int×Int)}{a b:Int}:b∈hd m ts a↔(0<=b/\b<m)/\(b=a\/el ts a b=true):=by
 rw[hd,bN,dY];simp
theorem l7{m:Int}{ts:List (Int×Int)}(h:GW m ts)(n:Nat)(i:Nat)(hi:(i:Int)<m):(mk m ts (bs m n) (i:Int)=[])↔hold m ts n i=false:=by
 rw[mk,List.filter_eq_nil_iff,hold,List.any_eq_false];constructor
 ·intro hh q hq;have Ki:(q:Int)<m:=by have:=List.mem_range.mp hq;lia
  have:=λhb=>hh (q:Int) (kP.mpr ⟨⟨by lia,Ki⟩,hb⟩)
  simp only[b9,beq_iff_eq,exists_eq_right,jJ]at this;intro hz;simp only[aL]at hz;refine this (by simpa using hz.1) ⟨⟨by lia,Ki⟩,?_⟩;have z:=hz.2;rw[lL h]at z;simp only[bQ,beq_iff_eq]at z;rcases z with z|z
  ·left;lia
  ·right;rw[lT];exact z
 ·intro hh x hx;obtain⟨⟨x0,xm⟩,xb⟩:=kP.mp hx;simp only[b9,beq_iff_eq,exists_eq_right,jJ];rintro⟨_,hz⟩;refine hh x.toNat (List.mem_range.mpr (by lia)) ?_;simp only[aL];refine⟨xb,?_⟩;rw[lL h];simp only[bQ,beq_iff_eq];rcases hz with hz|hz
  ·left;lia
  ·right;rw[lT,show ((x.toNat:Nat):Int)=x by lia];exact hz
theorem yb{m:Int}{ts:List (Int×Int)}(h:GW m ts)(n i:Nat)(hi:m.toNat<=i):hold m ts n i=false:=by
 rw[hold,List.any_eq_false];intro q hq;have Ki:=List.mem_range.mp hq;simp only[aL,not_and];intro _;simp only[near,bQ,beq_iff_eq,b9,aL,not_or,not_exists,not_and];refine⟨by lia,λt ht=>?_⟩;have:=h.ok t ht;constructor<;>intro _<;>lia
theorem iC{m:Int}(h1:1<=m)(h2:m<=8){s:List Int}(hs:s∈zH (subs m.toNat)):∃n,n<2^m.toNat/\s=bs m n:=by
 have:=(jk _).mem_iff.mp hs;rw[l5 m h1 h2,aY]at this;obtain⟨n,hn,rfl⟩:=this;exact⟨n,List.mem_range.mp hn,rfl⟩
theorem mS{m:Int}(h1:1<=m)(h2:m<=8){n:Nat}(hn:n<2^m.toNat):bs m n∈zH (subs m.toNat):=by
 refine(jk _).mem_iff.mpr ?_;rw[l5 m h1 h2,aY];exact⟨n,List.mem_range.mpr hn,rfl⟩
theorem sub_len{m:Int}(h2:m<=8):(zH (subs m.toNat)).length<=256:=by
 rw[(jk _).length_eq,lg];exact ki (by lia)
noncomputable def hz(m:Int)(ts:List (Int×Int))(s:List Int):Bool:=(rng m).all λa=>!(mk m ts s a).isEmpty
noncomputable def hl(m:Int)(ts:List (Int×Int)):List (List Int):=(zH (subs m.toNat)).filter (hz m ts)
theorem ph{p:Pr}(B:Web p)(O:Nbr p)(ha:p.fns "all_some" = some gx)(hf:p.fns "all_holding" = some h8){k:Nat}{m:Int}{ts:List (Int×Int)}(h:GW m ts):qc p (k+6) "all_holding" [wb m ts]=.ok (.lst ((hl m ts).map tu)):=by
 have h1:=h.lo;have h2:=h.hi;rw[qd hf];refine qk (τ:=[some (wb m ts),none]) rfl rfl ?_;have e0:=hoods B O (k:=k) h;have hc:evE ⟨qc p (k+5),p.glb,p.sub,p.cat,p.fld⟩ (.comp (.seq (.call "all_some" (.cons (.var 0) .nil))) [none,none,some 1] (.nm 1) (.cmp .notin (.tup .nil) (.call "marks_of" (.cons (.var 2) (.cons (.var 1) .nil)))) (.var 1)) [some (wb m ts),some (.tup ((rng m).map λa=>tu (hd m ts a)))]=.ok (.lst ((hl m ts).map tu)):=by
  refine fU (f:=tu) (c:=[some (.tup ((rng m).map λa=>tu (hd m ts a)))]) (hz m ts) tu (dQ ?_) ?_ rfl ?_
  ·simp[KG.Z,pA ha (k:=k+4) (t:=.tup (ts.map prD)) h1 h2]
  ·have:=sub_len h2;simp[SZ];lia
  ·intro s hs;obtain⟨n,hn,rfl⟩:=iC h1 h2 hs;have e1:=marks_of O (k:=k+3) (rng m) (hd m ts) (bs m n) (gp h2 n).len (by rw[fq];lia);have e2:=AE (rng m) (λa=>(bs m n).filter λx=>(hd m ts a).any λt=>t==x);refine⟨?_,λ_=>rfl⟩;rw[fH];have a1:evE ⟨qc p (k+5),p.glb,p.sub,p.cat,p.fld⟩ (.call "marks_of" (.cons (.var 2) (.cons (.var 1) .nil))) [none,some (tu (bs m n)),some (.tup ((rng m).map λa=>tu (hd m ts a)))]=.ok (.lst ((rng m).map λa=>tu ((bs m n).filter λx=>(hd m ts a).any λt=>t==x))):=by
    rw[qz];show qc p (k+5) "marks_of" [.tup ((rng m).map λa=>tu (hd m ts a)),tu (bs m n)]=_;exact e1
   have a0:evE ⟨qc p (k+5),p.glb,p.sub,p.cat,p.fld⟩ (.tup .nil) [none,some (tu (bs m n)),some (.tup ((rng m).map λa=>tu (hd m ts a)))]=.ok (.tup []):=by simp[KG.Z]
   rw[a1,a0];simp only[R.bind_ok];rw[e2]
   rfl
 show qe _ (.cons (.set (.nm 1) (.call "hoods" (.cons (.var 0) .nil))) (.cons (.ret _) .nil)) _=_;refine dM (σ:=[some (wb m ts),some (.tup ((rng m).map λa=>tu (hd m ts a)))]) (by simp[KG.Z,e0]) ?_;rw[qe,zm,hc]
 rfl
theorem all_holding{p:Pr}(B:Base p)(O:jo p)(hf:p.fns "all_holding" = some h8){k:Nat}{m:Int}{ts:List (Int×Int)}(h:GW m ts):qc p (k+6) "all_holding" [wb m ts]=.ok (.lst ((hl m ts).map tu)):=ph B.toWeb O.toNbr B.all_some hf h
theorem Dn{m:Int}{ts:List (Int×Int)}(h:GW m ts){n H:Nat}(hH:∀i,H.testBit i=hold m ts n i):decide (((H:Nat):Int)=((2^m.toNat:Nat):Int)-1)=hz m ts (bs m n):=by
 have h1:=h.lo;have hp:0<2^m.toNat:=Nat.two_pow_pos _;have e1:(((H:Nat):Int)=((2^m.toNat:Nat):Int)-1)↔H=2^m.toNat-1:=by lia
 rw[decide_eq_decide.mpr e1,Bool.eq_iff_iff,decide_eq_true_eq,hz,bF];constructor
 ·intro e a ha;obtain⟨a0,am⟩:=dY.mp ha;have:=hH a.toNat;rw[e,Nat.testBit_two_pow_sub_one,decide_eq_true (by lia)]at this;have z:=l7 h n a.toNat (by lia);rw[<-this,show ((a.toNat:Nat):Int)=a by lia]at z;cases q:mk m ts (bs m n) a with
  |nil=>exact absurd (z.mp q) (by simp)
  |cons _ _=>rfl
 ·intro e;refine Nat.eq_of_testBit_eq λi=>?_
  rw[hH,Nat.testBit_two_pow_sub_one];by_cases hi:i<m.toNat
  ·rw[decide_eq_true hi];have:=e (i:Int) (dY.mpr ⟨by lia,by lia⟩);cases q:hold m ts n i with
   |true=>rfl
   |false=>
    rw[(l7 h n i (by lia)).mpr q]at this;cases this
  ·rw[decide_eq_false hi];exact yb h n i (by lia)
theorem vG{p:Pr}(B:Base p)(O:jo p)(hm:p.fns "_law_mask" = some hU)(ha:p.fns "_law_all" = some hZ)(hh:p.fns "_law_held" = some gN)(hf:p.fns "_law_holding" = some iP){k:Nat}{m:Int}{ts:List (Int×Int)}(h:GW m ts):qc p (k+3) "_law_holding" [wb m ts]=.ok (.lst ((hl m ts).map tu)):=by
 have h1:=h.lo;have h2:=h.hi;rw[qd hf];refine qk (τ:=[some (wb m ts),none,none]) rfl rfl ?_;obtain⟨N,hN,e0⟩:=ub O (k:=k+1) h;have ex:ixD (wb m ts) (.int 0)=.ok (.int m):=rfl;have KA:op2 .shl (.int 1) (.int m)=.ok (.int ((2^m.toNat:Nat):Int)):=by
  show opI .shl 1 m=_;rw[iB m (by lia) h2,iO]
 have Pn:∀X:Int,op2 .sub (.int X) (.int 1)=.ok (.int (X-1)):=λ_=>rfl
 have hc:evE ⟨qc p (k+2),p.glb,p.sub,p.cat,p.fld⟩ (.comp (.seq (.call "_law_all" (.cons (.ix (.var 0) (.con (.int 0))) .nil))) [none,none,some 2,some 1] (.nm 1) (.cmp .eq (.call "_law_held" (.cons (.var 3) (.cons (.call "_law_mask" (.cons (.var 1) .nil)) .nil))) (.var 2)) (.var 1)) [some (wb m ts),some (ln N),some (.int (((2^m.toNat:Nat):Int)-1))]=.ok (.lst ((hl m ts).map tu)):=by
  refine fU (f:=tu) (c:=[some (.int (((2^m.toNat:Nat):Int)-1)),some (ln N)]) (hz m ts) tu (dQ ?_) ?_ rfl ?_
  ·simp[KG.Z,ex,mL B ha (k:=k) h1 h2]
  ·have:=sub_len h2;simp[SZ];lia
  ·intro s hs;obtain⟨n,hn,rfl⟩:=iC h1 h2 hs;obtain⟨H,hH,e1⟩:=oZ hh (k:=k+1) hN n;have e2:=rY B hm (k:=k+1) h1 h2 hn;refine⟨?_,λ_=>rfl⟩;have e3:=Dn h hH;generalize ((2^m.toNat:Nat):Int)-1=X at *;simp[KG.Z,e2,e1,eq_int,e3]
 show qe _ (.cons (.set (.nm 1) (.call "_law_masks" (.cons (.var 0) .nil))) (.cons (.set (.nm 2) _) (.cons (.ret _) .nil))) _=_;refine dM (σ:=[some (wb m ts),some (ln N),none]) (by simp[KG.Z,e0]) ?_;refine dM (σ:=[some (wb m ts),some (ln N),some (.int (((2^m.toNat:Nat):Int)-1))]) (by generalize ((2^m.toNat:Nat):Int)=X at *;simp[KG.Z,ex,KA,Pn]) ?_;rw[qe,zm,hc]
 rfl
theorem mY{m:Int}{ts:List (Int×Int)}(h:GW m ts):∃s r,hl m ts=s::r:=by
 have h1:=h.lo;have h2:=h.hi;have hm:bs m (2^m.toNat-1)∈hl m ts:=by
  rw[hl,bN];refine⟨mS h1 h2 (by have:=Nat.two_pow_pos m.toNat;lia),?_⟩;rw[hz,bF];intro a ha;obtain⟨a0,am⟩:=dY.mp ha;have:a∈mk m ts (bs m (2^m.toNat-1)) a:=by
   rw[mk,bN];refine⟨kP.mpr ⟨⟨a0,am⟩,by rw[Nat.testBit_two_pow_sub_one];simp;lia⟩,?_⟩;simp only[b9,beq_iff_eq,exists_eq_right,jJ];exact⟨⟨a0,am⟩,by simp⟩
  cases q:mk m ts (bs m (2^m.toNat-1)) a with
  |nil=>rw[q]at this;cases this
  |cons _ _=>rfl
 cases q:hl m ts with
 |nil=>rw[q]at hm;cases hm
 |cons s r=>exact⟨s,r,rfl⟩
theorem o7{m:Int}{ts:List (Int×Int)}(h:GW m ts):(hl m ts).length<=256:=br (List.length_filter_le _ _) (sub_len h.hi)
structure Fw(p:Pr):Prop where
 all_some:p.fns "all_some" = some gx
 all_holding:p.fns "all_holding" = some h8
 all_fewest:p.fns "all_fewest" = some j6
 first_fewest:p.fns "first_fewest" = some i4
 fewest:p.fns "fewest" = some iN
structure Sp(p:Pr):Prop where
 spare:p.fns "spare" = some Af
 spare_by:p.fns "spare_by" = some BH
noncomputable def ow(m:Int)(ts:List (Int×Int))(s:List Int)(x:Int):List Int:=(rng m).filter λa=>decide (mk m ts s a=[x])
noncomputable def sp(m:Int)(ts:List (Int×Int))(s:List Int):List Int:=s.filter λx=>decide (ow m ts s x=[])
section
variable{p:Pr}(B:Web p)(O:Nbr p)(S:gy p)
include B O S
end
noncomputable def lsm(L:List (List Int)):Int:=match L.map (λs=>(s.length:Int))with
 | []=>0
 |x::r=>cM false x r
noncomputable def few(L:List (List Int)):List (List Int):=L.filter λs=>decide ((s.length:Int)=lsm L)
theorem uN(i:Int)(r:List Int):cM false i r∈i::r:=by
 induction r generalizing i with
 |nil=>simp[cM]
 |cons j r ih=>
  rw[cM];have:=ih (if j<i then j else i);simp only[bL,if_false];rcases aP.mp this with e|e
  ·rw[e];split<;>simp
  ·exact aO _ (aO _ e)
theorem FZ{L:List (List Int)}(h:L≠[]):∃s r,few L=s::r/\(s.length:Int)=lsm L:=by
 obtain⟨a,r,rfl⟩:∃a r,L=a::r:=by cases L with|nil=>exact absurd rfl h|cons a r=>exact⟨a,r,rfl⟩
 have hm:lsm (a::r)∈(a::r).map λs=>(s.length:Int):=by
  rw[lsm,aN];exact uN _ _
 obtain⟨s,hs,e⟩:=aY.mp hm;have:s∈few (a::r):=bN.mpr ⟨hs,by simpa using e⟩;cases q:few (a::r)with
 |nil=>rw[q]at this;cases this
 |cons t u=>
  have ht:t∈few (a::r):=by rw[q];exact aQ
  exact⟨t,u,rfl,by simpa using (bN.mp ht).2⟩
section
variable{w:W}{τ:Env}{L:List (List Int)}
theorem Al(hL:L≠[])(hz:L.length<=256)(h:τ[1]? = some (some (.lst (L.map tu)))):evE w (.bi .min (.cons (.comp (.seq (.var 1)) [none,none] (.nm 1) .yes (.bi .len (.cons (.var 1) .nil))) .nil)) τ=.ok (.int (lsm L)):=by
 have h1:evE w (.comp (.seq (.var 1)) [none,none] (.nm 1) .yes (.bi .len (.cons (.var 1) .nil))) τ=.ok (.lst ((L.map λs=>(s.length:Int)).map D.int)):=by
  rw[cc];refine gH (f:=tu) (c:=[]) (λs=>.int s.length) (dQ (by rw[qo,zD,h])) (by simp[SZ];lia) rfl λs _=>?_
  simp[KG.Z,dz]
 have h2:b1 .min [.lst ((L.map λs=>(s.length:Int)).map D.int)]=.ok (.int (lsm L)):=by
  cases L with
  |nil=>exact absurd rfl hL
  |cons a r=>rw[lsm,aN];exact pU
 rw[ql,qD,h1];simp only[R.bind_ok,qD,h2]
theorem yQ(hz:L.length<=256)(h:τ[1]? = some (some (.lst (L.map tu))))(h2:τ[2]? = some (some (.int (lsm L)))):evE w (.comp (.seq (.var 1)) [none,none,some 2] (.nm 1) (.cmp .eq (.bi .len (.cons (.var 1) .nil)) (.var 2)) (.var 1)) τ=.ok (.lst ((few L).map tu)):=by
 refine fU (f:=tu) (c:=[some (.int (lsm L))]) (λs=>decide ((s.length:Int)=lsm L)) tu (dQ (by rw[qo,zD,h])) (by simp[SZ];lia) (by simp[dP,h2]) λs _=>⟨?_,λ_=>rfl⟩
 simp[KG.Z,dz,eq_int]
end
theorem all_fewest{p:Pr}(B:Web p)(O:Nbr p)(F:Fw p){k:Nat}{m:Int}{ts:List (Int×Int)}(h:GW m ts):qc p (k+7) "all_fewest" [wb m ts]=.ok (.lst ((few (hl m ts)).map tu)):=by
 obtain⟨a,r,hL⟩:=mY h;have hn:hl m ts≠[]:=by rw[hL];simp
 have hz:=o7 h;have e0:=ph B O F.all_some F.all_holding (k:=k) h;have e1:=need_web B (k:=k+2) h;rw[qd F.all_fewest];refine qk (τ:=[some (wb m ts),none,none]) rfl rfl ?_;show qe _ (.cons (.exp _) (.cons (.set (.nm 1) _) (.cons (.set (.nm 2) _) (.cons (.ret _) .nil)))) _=_;refine dM (σ:=[some (wb m ts),none,none]) (by simp[KG.Z,e1]) ?_;refine dM (σ:=[some (wb m ts),some (.lst ((hl m ts).map tu)),none]) (by simp[KG.Z,e0]) ?_;refine dM (σ:=[some (wb m ts),some (.lst ((hl m ts).map tu)),some (.int (lsm (hl m ts)))]) (by rw[zr,Al hn hz rfl];rfl) ?_;rw[qe,zm,yQ hz rfl rfl];rfl
theorem first_fewest{p:Pr}(B:Web p)(O:Nbr p)(F:Fw p){k:Nat}{m:Int}{ts:List (Int×Int)}(h:GW m ts){s:List Int}{r:List (List Int)}(e:few (hl m ts)=s::r):qc p (k+8) "first_fewest" [wb m ts]=.ok (tu s):=by
 have e1:=all_fewest B O F (k:=k) h;rw[e]at e1;have e2:=ix0 tu s r;rw[aN]at e1 e2;rw[qd F.first_fewest];refine qk rfl rfl ?_;simp[KG.Z,i4,e1,e2]
theorem fewest{p:Pr}(B:Web p)(O:Nbr p)(F:Fw p){k:Nat}{m:Int}{ts:List (Int×Int)}(h:GW m ts){s:List Int}{r:List (List Int)}(e:few (hl m ts)=s::r):qc p (k+9) "fewest" [wb m ts]=.ok (.int s.length):=by
 rw[qd F.fewest];refine qk rfl rfl ?_;simp[KG.Z,iN,first_fewest B O F (k:=k) h e,dz]
noncomputable def od:D->Bool
 | .int _=>false
 | .fn _=>false
 | .exn _=>false
 |_=>true
noncomputable def nt:D->Bool
 | .tup _=>false
 | .fn _=>false
 | .exn _=>false
 |_=>true
theorem pick{l:List D}{P:D->Prop}(hL:∀d∈l,P d)(i:Int)(h:0<=i/\i<l.length):∃d,ixD (.lst l) (.int i)=.ok d/\P d:=by
 obtain⟨j,rfl⟩:∃j:Nat,i=j:=⟨i.toNat,by lia⟩
 have hj:j<l.length:=by lia
 refine⟨l[j],?_,hL _ (cZ hj)⟩;simp only[ixD];rw[fO hj]
section
variable{p:Pr}(B:Web p)
include B
theorem wm{k:Nat}{d:D}(h:od d=true):qc p (k+1) "is_whole" [d]=.ok (.bl false):=by
 rw[qd B.is_whole];cases d<;>first|(cases h;done)|rfl
theorem Eu{k:Nat}(i a b:Int):qc p (k+2) "is_between" [.int i,.int a,.int b]=.ok (.bl (decide (a<=i/\i<=b))):=by
 have e1:qh .le (.int a) (.int i)=.ok (decide (a<=i)):=rfl;have e2:qh .le (.int i) (.int b)=.ok (decide (i<=b)):=rfl;by_cases q:a<=i
 ·have e1:qh .le (.int a) (.int i)=.ok true:=by rw[e1,decide_eq_true q]
  by_cases q2:i<=b
  ·have e2:qh .le (.int i) (.int b)=.ok true:=by rw[e2,decide_eq_true q2]
   rw[qd B.is_between];refine qk rfl rfl ?_;simp[KG.Z,zC,is_whole B,e1,e2,q,q2]
  ·have e2:qh .le (.int i) (.int b)=.ok false:=by rw[e2,decide_eq_false q2]
   rw[qd B.is_between];refine qk rfl rfl ?_;simp[KG.Z,zC,is_whole B,e1,e2,q,q2]
 ·have e1:qh .le (.int a) (.int i)=.ok false:=by rw[e1,decide_eq_false q]
  rw[qd B.is_between];refine qk rfl rfl ?_;simp[KG.Z,zC,is_whole B,e1,q]
theorem y9{k:Nat}{d:D}(h:od d=true)(a b:D):qc p (k+2) "is_between" [d,a,b]=.ok (.bl false):=by
 rw[qd B.is_between];refine qk rfl rfl ?_;simp[KG.Z,zC,wm B h]
theorem FR{k:Nat}(xs:List D)(hz:xs.length<=100)(b:Nat->Bool)(h:∀(i:Nat) (q:i+1<xs.length),qh .lt xs[i] xs[i+1]=.ok (b i)):qc p (k+1) "rises" [.tup xs]=.ok (.bl ((aS (xs.length-1)).all b)):=by
 rw[qd B.rises];refine qk (τ:=[some (.tup xs)]) rfl rfl ?_;have hr:qr ((xs.length:Int)-1)=true:=by simp[qr];lia
 have hc:evE ⟨qc p k,p.glb,p.sub,p.cat,p.fld⟩ (.comp (.rng (.op .sub (.bi .len (.cons (.var 0) .nil)) (.con (.int 1)))) [none,none,some 0] (.nm 1) .yes (.cmp .lt (.ix (.var 2) (.var 1)) (.ix (.var 2) (.op .add (.var 1) (.con (.int 1)))))) [some (.tup xs)]=.ok (.lst ((aS (xs.length-1)).map λi=>.bl (b i))):=by
  refine gH (f:=λ(i:Nat)=>D.int (i:Int)) (c:=[some (.tup xs)]) (λi=>.bl (b i)) ?_ ?_ rfl ?_
  ·have e:zk 0 (xs.length-1)=(aS (xs.length-1)).map λ(i:Nat)=>D.int (i:Int):=by
    rw[zk];simp
   simp[KG.Z,b1,seq?,op2,hr,e]
  ·simp[SZ];lia
  ·intro i hi;have hi:=List.mem_range.mp hi;have e1:atI xs (i:Int)=some xs[i]:=fO (by lia);have e2:atI xs ((i:Int)+1)=some xs[i+1]:=fO (i:=i+1) (by lia);have e3:=h i (by lia);simp[KG.Z,ixD,op2,e1,e2,e3]
 have h3:=iY (aS (xs.length-1)) b;show qe _ (.cons (.ret (.bi .all (.cons _ .nil))) .nil) _=_;rw[qe,zm,ql,qD,hc];simp only[R.bind_ok,qD,h3,R.out_ok]
theorem Cd{k:Nat}(S:gD p)(i m:Int)(t:D):qc p (k+3) "is_place" [.tup [.int m,t],.int i]=.ok (.bl (decide (0<=i/\i<=m-1))):=by
 have e:=Eu B (k:=k) i 0 (m-1);rw[qd S.is_place];refine qk rfl rfl ?_;simp[KG.Z,fV,ixD,atI,ixN,op2,e]
theorem DF{k:Nat}(S:gD p){d:D}(h:od d=true)(m:Int)(t:D):qc p (k+3) "is_place" [.tup [.int m,t],d]=.ok (.bl false):=by
 have e:=λa b=>y9 B (k:=k) h a b
 rw[qd S.is_place];refine qk rfl rfl ?_;simp[KG.Z,fV,ixD,atI,ixN,op2,e]
theorem pe{k:Nat}(S:gD p){d:D}(h:nt d=true)(u:D):qc p (k+4) "is_some" [u,d]=.ok (.bl false):=by
 have e:∀w:W,cC w d (.ty "tuple")=.ok (.bl false):=λw=>by cases d<;>first|(cases h;done)|rfl
 rw[qd S.is_some];refine qk rfl rfl ?_;simp[KG.Z,gC,e]
theorem pj{k:Nat}(S:gD p){u:D}{ys:List (D×Bool)}{xs:List D}(hx:xs=ys.map (·.1))(hz:xs.length<=100)(hf:∀y∈ys,qc p (k+3) "is_place" [u,y.1]=.ok (.bl y.2))(hb:ys.all (·.2)=false\/qc p (k+3) "rises" [.tup xs]=.ok (.bl false)):qc p (k+4) "is_some" [u,.tup xs]=.ok (.bl false):=by
 rw[qd S.is_some];refine qk (τ:=[some u,some (.tup xs)]) rfl rfl ?_;have hc:evE ⟨qc p (k+3),p.glb,p.sub,p.cat,p.fld⟩ (.comp (.seq (.var 1)) [none,none,some 0] (.nm 1) .yes (.call "is_place" (.cons (.var 2) (.cons (.var 1) .nil)))) [some u,some (.tup xs)]=.ok (.lst (ys.map λx=>.bl x.2)):=by
  refine gH (f:=λ(x:D×Bool)=>x.1) (c:=[some u]) (λ(x:D×Bool)=>.bl x.2) (by rw[<-hx];exact lU rfl) (by rw[hx]at hz;simp at hz;simp[SZ];lia) rfl λx hx=>?_
  have e:=hf x hx;simp[KG.Z,e]
 have h3:=iY ys (·.2);show qe _ (.cons (.ite _ _ _) (.cons (.ret (.and (.bi .all (.cons _ .nil)) _)) .nil)) _=_;refine dM (σ:=[some u,some (.tup xs)]) (by simp[KG.Z]) ?_;rw[qe,zm,qG,ql,qD,hc];simp only[R.bind_ok,qD,h3];rcases hb with hb|hb
 ·rw[hb];rfl
 ·cases q:ys.all (·.2)with
  |false=>rfl
  |true=>simp[KG.Z,hb]
end
end KG
namespace K22
open PySem PySem.Spec PyProof.Rows L2 EV
noncomputable def top(i:Nat):Stmt:=PySem.Challenge.pw_holdplaces_k22_papers_that_no_fewer_hold.main.body.getD i (.Pass ⟨0,0,0,0⟩)
abbrev kj:Fn:=KG.kj
abbrev zC:Fn:=KG.zC
abbrev iK:Fn:=KG.iK
abbrev jd:Fn:=KG.jd
abbrev iZ:Fn:=KG.iZ
abbrev jl:Fn:=KG.jl
abbrev iQ:Fn:=KG.iQ
abbrev fV:Fn:=KG.fV
abbrev hW:Fn:=KG.hW
abbrev gz:Fn:=KG.gz
abbrev fX:Fn:=KG.fX
abbrev gC:Fn:=KG.gC
abbrev i_:Fn:=KG.i_
noncomputable def jC:Fn:=⟨2,3,false,(.cons (.set (.nm 2) (.call "unheld" (.cons (.var 0) (.cons (.var 1) .nil)))) (.cons (.ite (.val (.var 2)) (.cons (.raisF "NotAll" (.cons (.ix (.var 2) (.con (.int 0))) .nil)) .nil) .nil) .nil))⟩
abbrev je:Fn:=KG.je
abbrev iS:Fn:=KG.iS
abbrev jc:Fn:=KG.jc
abbrev zR:Fn:=KG.zR
abbrev gx:Fn:=KG.gx
abbrev h8:Fn:=KG.h8
abbrev iN:Fn:=KG.iN
abbrev i4:Fn:=KG.i4
abbrev j6:Fn:=KG.j6
noncomputable def kL:Fn:=⟨2,2,false,(.cons (.exp (.call "need_web" (.cons (.var 0) .nil))) (.cons (.exp (.call "need_some" (.cons (.var 0) (.cons (.var 1) .nil)))) (.cons (.ret (.call "is_apart_by" (.cons (.call "marks_of" (.cons (.call "hoods" (.cons (.var 0) .nil)) (.cons (.var 1) .nil))) .nil))) .nil)))⟩
noncomputable def tm:Fn:=⟨1,3,false,(.cons (.exp (.call "need_web" (.cons (.var 0) .nil))) (.cons (.set (.nm 1) (.call "hoods" (.cons (.var 0) .nil))) (.cons (.set (.nm 2) (.comp (.seq (.call "all_some" (.cons (.var 0) .nil))) [none,none,some 1] (.nm 1) (.val (.call "is_apart_by" (.cons (.call "marks_of" (.cons (.var 2) (.cons (.var 1) .nil))) .nil))) (.var 1))) (.cons (.ret (.mxk true (.var 2))) .nil))))⟩
noncomputable def gQ:Fn:=⟨3,3,false,(.cons (.exp (.call "need_web" (.cons (.var 0) .nil))) (.cons (.exp (.call "need_some" (.cons (.var 0) (.cons (.var 1) .nil)))) (.cons (.exp (.call "need_all" (.cons (.var 0) (.cons (.var 1) .nil)))) (.cons (.ret (.and (.call "is_some" (.cons (.var 0) (.cons (.var 2) .nil))) (.and (.cmp .eq (.bi .len (.cons (.var 2) .nil)) (.bi .len (.cons (.var 1) .nil))) (.call "is_apart" (.cons (.var 0) (.cons (.var 2) .nil)))))) .nil))))⟩
noncomputable def jQ:Fn:=⟨1,2,false,(.cons (.set (.nm 1) (.call "first_apart" (.cons (.var 0) .nil))) (.cons (.ret (.ite (.cmp .eq (.bi .len (.cons (.var 1) .nil)) (.call "fewest" (.cons (.var 0) .nil))) (.var 1) (.con .non))) .nil))⟩
noncomputable def pK:Fn:=⟨1,1,false,(.cons (.ret (.bi .all (.cons (.comp (.seq (.var 0)) [none,none] (.nm 1) .yes (.cmp .le (.bi .len (.cons (.var 1) .nil)) (.con (.int 1)))) .nil))) .nil)⟩
abbrev zx:Fn:=KG.zx
abbrev zW:Fn:=KG.zW
abbrev gU:Fn:=KG.gU
abbrev jw:Fn:=KG.jw
abbrev jj:Fn:=KG.jj
abbrev jg:Fn:=KG.jg
abbrev hU:Fn:=KG.hU
abbrev gN:Fn:=KG.gN
abbrev hZ:Fn:=KG.hZ
abbrev iP:Fn:=KG.iP
noncomputable def tN:Fn:=⟨2,4,false,(.cons (.set (.nm 2) (.con (.int 0))) (.cons (.for (.nm 3) (.seq (.var 1)) (.cons (.ite (.cmp .gt (.op .band (.var 2) (.ix (.var 0) (.var 3))) (.con (.int 0))) (.cons (.ret (.con (.bl false))) .nil) .nil) (.cons (.set (.nm 2) (.op .bor (.var 2) (.ix (.var 0) (.var 3)))) .nil))) (.cons (.ret (.con (.bl true))) .nil)))⟩
noncomputable def mK:Fn:=⟨1,2,false,(.cons (.set (.nm 1) (.bi .max (.cons (.comp (.seq (.var 0)) [none,none] (.nm 1) .yes (.bi .len (.cons (.var 1) .nil))) .nil))) (.cons (.ret (.ix (.comp (.seq (.var 0)) [none,none,some 1] (.nm 1) (.cmp .eq (.bi .len (.cons (.var 1) .nil)) (.var 2)) (.var 1)) (.con (.int 0)))) .nil))⟩
noncomputable def t9:Fn:=⟨1,2,false,(.cons (.set (.nm 1) (.bi .min (.cons (.comp (.seq (.var 0)) [none,none] (.nm 1) .yes (.bi .len (.cons (.var 1) .nil))) .nil))) (.cons (.ret (.ix (.comp (.seq (.var 0)) [none,none,some 1] (.nm 1) (.cmp .eq (.bi .len (.cons (.var 1) .nil)) (.var 2)) (.var 1)) (.con (.int 0)))) .nil))⟩
noncomputable def nh:Fn:=⟨2,3,false,(.cons (.set (.nm 2) (.lst (.cons (.con .non) (.cons (.con (.bl true)) (.cons (.con (.int 5)) (.cons (.con (.str "0")) (.cons (.lst (.cons (.con (.int 0)) .nil)) (.cons .dic (.cons (.tup (.cons (.var 0) .nil)) (.cons (.tup (.cons (.neg (.con (.int 1))) .nil)) (.cons (.tup (.cons (.con (.int 0)) (.cons (.con (.int 0)) .nil))) (.cons (.tup (.cons (.con (.bl true)) .nil)) (.cons (.tup (.cons (.tup (.cons (.con (.int 0)) .nil)) .nil)) (.cons (.tup (.cons (.con (.str "0")) .nil)) (.cons (.tup (.cons (.var 0) (.cons (.con (.int 0)) .nil))) (.cons (.lst .nil) (.cons (.tup (.cons (.con .non) .nil)) .nil))))))))))))))))) (.cons (.ret (.ix (.var 2) (.op .mod (.call "_law_stir" (.cons (.var 1) (.cons (.con (.int 61)) .nil))) (.con (.int 15))))) .nil))⟩
noncomputable def lh:Fn:=⟨2,2,false,(.cons (.ite (.or (.not (.val (.isi (.var 1) (.ty "tuple")))) (.not (.val (.bi .all (.cons (.comp (.seq (.var 1)) [none,none,some 0] (.nm 1) .yes (.and (.call "_law_whole" (.cons (.var 1) .nil)) (.cmp2 .le .lt (.con (.int 0)) (.var 1) (.var 2)))) .nil))))) (.cons (.ret (.con (.bl false))) .nil) .nil) (.cons (.ret (.bi .all (.cons (.comp (.zip (.var 1) (.sl (.var 1) (.some (.con (.int 1))) .none)) [none,none,none] (.tp [1,2]) .yes (.cmp .lt (.var 1) (.var 2))) .nil))) .nil))⟩
noncomputable def mw:Fn:=⟨3,4,false,(.cons (.try (.cons (.ret (.call "is_paper" (.cons (.var 0) (.cons (.var 1) (.cons (.var 2) .nil))))) .nil) "NotAll" (some 3) (.cons (.ret (.tup (.cons (.con (.str "all")) (.cons (.fld (.var 3) "place") .nil)))) .nil)) .nil)⟩
noncomputable def oH:Fn:=⟨2,14,false,(.cons (.set (.nm 2) (.ix (.var 0) (.con (.int 0)))) (.cons (.set (.nm 3) (.call "_law_masks" (.cons (.var 0) .nil))) (.cons (.set (.nm 5) (.call "_law_most" (.cons (.comp (.seq (.call "_law_all" (.cons (.var 2) .nil))) [none,none,some 3] (.nm 1) (.val (.call "_law_apart" (.cons (.var 2) (.cons (.var 1) .nil)))) (.var 1)) .nil))) (.cons (.set (.nm 6) (.call "_law_least" (.cons (.call "_law_holding" (.cons (.var 0) .nil)) .nil))) (.cons (.ite (.cmp .ne (.call "paper_for" (.cons (.var 0) .nil)) (.ite (.cmp .eq (.bi .len (.cons (.var 5) .nil)) (.bi .len (.cons (.var 6) .nil))) (.var 5) (.con .non))) (.cons (.ret (.con (.bl false))) .nil) .nil) (.cons (.set (.nm 7) (.lst (.cons (.var 6) (.cons (.rtup (.rng (.var 2))) (.cons (.var 5) (.cons (.tup .nil) .nil)))))) (.cons (.app 7 (.call "_law_some" (.cons (.var 2) (.cons (.op .mod (.call "_law_stir" (.cons (.var 1) (.cons (.con (.int 7)) .nil))) (.op .shl (.con (.int 1)) (.var 2))) .nil)))) (.cons (.set (.nm 8) (.op .add (.own 7) (.lst (.cons (.bi .list (.cons (.var 5) .nil)) (.cons (.rev (.var 5)) (.cons (.sl (.var 5) (.some (.con (.int 1))) .none) (.cons (.call "_law_odd_some" (.cons (.var 2) (.cons (.var 1) .nil))) (.cons (.call "_law_odd_some" (.cons (.var 2) (.cons (.op .add (.var 1) (.con (.int 1))) .nil))) .nil)))))))) (.cons (.set (.nm 9) (.bi .repr (.cons (.var 8) .nil))) (.cons (.for (.nm 4) (.seq (.own 7)) (.cons (.set (.nm 10) (.call "_law_some" (.cons (.var 2) (.cons (.op .band (.op .sub (.op .shl (.con (.int 1)) (.var 2)) (.con (.int 1))) (.inv (.call "_law_held" (.cons (.var 3) (.cons (.call "_law_mask" (.cons (.var 4) .nil)) .nil))))) .nil)))) (.cons (.for (.nm 11) (.seq (.var 8)) (.cons (.set (.nm 12) (.ite (.cmp .ne (.var 10) (.tup .nil)) (.tup (.cons (.con (.str "all")) (.cons (.ix (.var 10) (.con (.int 0))) .nil))) (.con (.bl false)))) (.cons (.ite (.and (.cmp .eq (.var 10) (.tup .nil)) (.and (.val (.call "_law_is_some" (.cons (.var 2) (.cons (.var 11) .nil)))) (.cmp .eq (.bi .len (.cons (.var 11) .nil)) (.bi .len (.cons (.var 4) .nil))))) (.cons (.set (.nm 12) (.call "_law_apart" (.cons (.var 3) (.cons (.var 11) .nil)))) .nil) .nil) (.cons (.set (.nm 13) (.call "_law_told" (.cons (.var 0) (.cons (.var 4) (.cons (.var 11) .nil))))) (.cons (.ite (.or (.cmp .ne (.var 13) (.var 12)) (.and (.val (.isi (.var 12) (.ty "bool"))) (.not (.val (.isi (.var 13) (.ty "bool")))))) (.cons (.ret (.con (.bl false))) .nil) .nil) .nil))))) .nil))) (.cons (.ret (.cmp .eq (.bi .repr (.cons (.var 8) .nil)) (.var 9))) .nil)))))))))))⟩
noncomputable def jn:Fn:=⟨1,2,false,(.cons (.ite (.or (.not (.val (.call "_law_right" (.cons (.tup (.cons (.con (.int 1)) (.cons (.tup .nil) .nil))) (.cons (.con (.int 0)) .nil))))) (.not (.val (.call "_law_right" (.cons (.tup (.cons (.con (.int 4)) (.cons (.tup (.cons (.tup (.cons (.con (.int 0)) (.cons (.con (.int 1)) .nil))) (.cons (.tup (.cons (.con (.int 0)) (.cons (.con (.int 3)) .nil))) (.cons (.tup (.cons (.con (.int 1)) (.cons (.con (.int 2)) .nil))) (.cons (.tup (.cons (.con (.int 2)) (.cons (.con (.int 3)) .nil))) .nil))))) .nil))) (.cons (.con (.int 1)) .nil)))))) (.cons (.ret (.con (.bl false))) .nil) .nil) (.cons (.for (.nm 1) (.seq (.op .add (.lst (.cons (.call "_law_cell_at" (.cons (.var 0) (.cons (.con (.int 0)) .nil))) .nil)) (.sl (.var 0) (.some (.con (.int 1))) (.some (.con (.int 4)))))) (.cons (.ite (.not (.val (.call "_law_right" (.cons (.call "_law_web" (.cons (.var 1) (.cons (.con (.int 8)) .nil))) (.cons (.var 1) .nil))))) (.cons (.ret (.con (.bl false))) .nil) .nil) .nil)) (.cons (.ret (.con (.bl true))) .nil)))⟩
abbrev xD:Ent:=⟨"is_whole",top 6,[],false,kj⟩
abbrev xt:Ent:=⟨"is_between",top 7,[],false,zC⟩
abbrev D7:Ent:=⟨"is_pair",top 8,[],false,iK⟩
abbrev FK:Ent:=⟨"rises",top 9,[],false,jd⟩
abbrev yU:Ent:=⟨"is_web",top 12,[],false,iZ⟩
abbrev ER:Ent:=⟨"is_tie",top 13,[],false,jl⟩
abbrev xy:Ent:=⟨"need_web",top 14,[],false,iQ⟩
abbrev Fj:Ent:=⟨"is_place",top 15,[],false,fV⟩
abbrev vh:Ent:=⟨"hoods",top 16,[],false,hW⟩
abbrev Dp:Ent:=⟨"hood_of",top 17,[],false,gz⟩
abbrev FF:Ent:=⟨"are_tied",top 18,[],false,fX⟩
abbrev Ec:Ent:=⟨"is_some",top 20,[],false,gC⟩
abbrev xM:Ent:=⟨"need_some",top 21,[],false,i_⟩
abbrev DQ:Ent:=⟨"need_all",top 22,[],false,jC⟩
abbrev Dg:Ent:=⟨"unheld",top 23,[],false,je⟩
abbrev xZ:Ent:=⟨"mark_of",top 24,[],false,iS⟩
abbrev Bc:Ent:=⟨"marks_of",top 25,[],false,jc⟩
abbrev Ar:Ent:=⟨"places_marked",top 26,[],false,zR⟩
abbrev AS:Ent:=⟨"all_some",top 27,[],false,gx⟩
abbrev AZ:Ent:=⟨"all_holding",top 28,[],false,h8⟩
abbrev xJ:Ent:=⟨"fewest",top 30,[],false,iN⟩
abbrev EA:Ent:=⟨"first_fewest",top 31,[],false,i4⟩
abbrev AN:Ent:=⟨"all_fewest",top 32,[],true,j6⟩
abbrev vH:Ent:=⟨"is_apart",top 33,[],false,kL⟩
abbrev B9:Ent:=⟨"first_apart",top 34,[],false,tm⟩
abbrev x9:Ent:=⟨"is_paper",top 35,[],false,gQ⟩
abbrev Ab:Ent:=⟨"paper_for",top 36,[],false,jQ⟩
abbrev Ax:Ent:=⟨"is_apart_by",top 37,[],false,pK⟩
abbrev CD:Ent:=⟨"_law_cell_at",top 39,[],false,zx⟩
abbrev F0:Ent:=⟨"_law_stir",top 40,[],false,zW⟩
abbrev Ba:Ent:=⟨"_law_whole",top 41,[],false,gU⟩
abbrev Eb:Ent:=⟨"_law_web",top 42,[aJ "_law_ties"],false,jw⟩
abbrev uD:Ent:=⟨"_law_masks",top 43,[aJ "_law_found"],false,jj⟩
abbrev xq:Ent:=⟨"_law_some",top 44,[],false,jg⟩
abbrev DD:Ent:=⟨"_law_mask",top 45,[],false,hU⟩
abbrev CP:Ent:=⟨"_law_held",top 46,[],false,gN⟩
abbrev xX:Ent:=⟨"_law_all",top 47,[],false,hZ⟩
abbrev EO:Ent:=⟨"_law_holding",top 48,[],false,iP⟩
abbrev CB:Ent:=⟨"_law_apart",top 49,[],false,tN⟩
abbrev E4:Ent:=⟨"_law_most",top 50,[],false,mK⟩
abbrev xh:Ent:=⟨"_law_least",top 51,[],false,t9⟩
abbrev Ah:Ent:=⟨"_law_odd_some",top 52,[],false,nh⟩
abbrev vt:Ent:=⟨"_law_is_some",top 53,[],false,lh⟩
abbrev yk:Ent:=⟨"_law_told",top 54,[],false,mw⟩
abbrev yM:Ent:=⟨"_law_right",top 55,[aJ "_law_rows"],false,oH⟩
abbrev iA:Ent:=⟨"law",top 56,[],false,jn⟩
abbrev tab:List Ent:=[xD,xt,D7,FK,yU,ER,xy,Fj,vh,Dp,FF,Ec,xM,DQ,Dg,xZ,Bc,Ar,AS,AZ,xJ,EA,AN,vH,B9,x9,Ab,Ax,CD,F0,Ba,Eb,uD,xq,DD,CP,xX,EO,CB,E4,xh,Ah,vt,yk,yM,iA]
abbrev oth:List (Str×GK):=[(aJ "NoWeb",GK.exc),(aJ "NoPlaces",GK.exc),(aJ "NotAll",GK.exf),(aJ "MOST",GK.val),(aJ "len",GK.bi .len),(aJ "tuple",GK.ty "tuple" (some .tuple)),(aJ "list",GK.ty "list" (some .list)),(aJ "int",GK.ty "int" (some .int)),(aJ "bool",GK.ty "bool" (some .bool)),(aJ "sorted",GK.bi .sorted),(aJ "all",GK.bi .all),(aJ "min",GK.bi .min),(aJ "max",GK.bi .max),(aJ "sum",GK.bi .sum),(aJ "repr",GK.bi .repr),(aJ "range",GK.rng),(aJ "enumerate",GK.enum),(aJ "zip",GK.zip),(aJ "isinstance",GK.isi)]
abbrev vals:List (Str×D):=[(aJ "MOST",(.int 8))]
abbrev G:List (Str×GK):=tab.map (λe=>(e.x,GK.fn e.fr))++oth
abbrev dh:List (Str×Str):=[(aJ "NotAll",aJ "NotAll")]
abbrev us:List Ent:=[]
abbrev subs:List ((Str×Cl)×Bool):=[((aJ "NotAll",.ty "ValueError"),true)]
abbrev zE:List (Str×List Str):=[(aJ "NotAll",[aJ "place"])]
abbrev p:Pr:=prT tab vals dh subs zE
theorem pR:p.fns "need_all" = some jC:=by kernel_rfl
theorem yB:p.fns "is_apart" = some kL:=by kernel_rfl
theorem xu:p.fns "first_apart" = some tm:=by kernel_rfl
theorem km:p.fns "is_paper" = some gQ:=by kernel_rfl
theorem sW:p.fns "paper_for" = some jQ:=by kernel_rfl
theorem yK:p.fns "is_apart_by" = some pK:=by kernel_rfl
theorem oM:p.fns "_law_whole" = some gU:=by kernel_rfl
theorem tH:p.fns "_law_mask" = some hU:=by kernel_rfl
theorem pH:p.fns "_law_held" = some gN:=by kernel_rfl
theorem si:p.fns "_law_all" = some hZ:=by kernel_rfl
theorem u9:p.fns "_law_holding" = some iP:=by kernel_rfl
theorem yn:p.fns "_law_apart" = some tN:=by kernel_rfl
theorem AJ:p.fns "_law_most" = some mK:=by kernel_rfl
theorem BL:p.fns "_law_least" = some t9:=by kernel_rfl
theorem DX:p.fns "_law_odd_some" = some nh:=by kernel_rfl
theorem k_:p.fns "_law_is_some" = some lh:=by kernel_rfl
theorem nM:p.fns "_law_told" = some mw:=by kernel_rfl
theorem vZ:p.fns "_law_right" = some oH:=by kernel_rfl
theorem Bm:p.fns "law" = some jn:=by kernel_rfl
end K22
namespace KG
open EV
open PySem (Str)
open L2 (atI ixN ltP)
section
variable(m:Int)(ts:List (Int×Int))
noncomputable def grow:Nat->List Int->List Int
 | 0,s=>s
 |n+1,s=>match un m ts s with
  | []=>s
  |a::_=>grow n (sortI (s++[a]))
noncomputable def fr(h:List Int)(a:Int):Bool:=decide (((hd m ts a).filter λx=>h.any λt=>t==x)=[])
end
section
variable{m:Int}{ts:List (Int×Int)}
end
noncomputable def both(s:List Int)(t:Int×Int):Bool:=(s.any λx=>x==t.1)&&(s.any λx=>x==t.2)
noncomputable def unt(ts:List (Int×Int))(s:List Int):Bool:=!(ts.any (both s))
theorem CA{w:W}{it:It}{cap:List (Option Nat)}{t:T}{elt:E}{τ c:Env}{l:List (Int×Int)}(q:Int×Int->Bool)(g:Int×Int->D)(h:evI w it τ=.ok (l.map prD))(hz:l.length<=SZ)(hc:dP cap τ=none::none::none::c)
  (hb:∀x∈l,evT w t (none::some (.int x.1)::some (.int x.2)::c)=.ok (q x)/\evE w elt (none::some (.int x.1)::some (.int x.2)::c)=.ok (g x)):evE w (.comp it cap (.tp [1,2]) t elt) τ=.ok (.lst ((l.filter q).map g)):=by
 have e:=nI (g:=λd=>match d with | .tup [.int a,.int b]=>(if q (a,b)then [g (a,b)]else [])|_=>[]) h (by simpa using hz) hc (t:=t) (elt:=elt) λx hx=>by
  obtain⟨y,hy,rfl⟩:=aY.mp hx;refine⟨.int y.1,.int y.2,rfl,?_⟩;rw[(hb y hy).1];simp only[R.bind_ok];cases z:q y with
  |true=>rw[if_pos rfl,(hb y hy).2];simp[prD,pairD,z]
  |false=>simp[prD,pairD,z]
 rw[e]
 congr 2
 clear e h hz hb
 induction l with
 |nil=>rfl
 |cons x r ih=>
  rw[aN,cy,ih,dF];cases z:q x<;>simp[prD,pairD,z]
noncomputable def ls(L:List (List Int)):Int:=match L.map (λs=>(s.length:Int))with
 | []=>0
 |x::r=>cM true x r
noncomputable def gr(L:List (List Int)):List (List Int):=L.filter λs=>decide ((s.length:Int)=ls L)
theorem wD(i:Int)(r:List Int):cM true i r∈i::r:=by
 induction r generalizing i with
 |nil=>simp[cM]
 |cons j r ih=>
  rw[cM];have:=ih (if i<j then j else i);simp only[if_true];rcases aP.mp this with e|e
  ·rw[e];split<;>simp
  ·exact aO _ (aO _ e)
theorem uz{L:List (List Int)}(h:L≠[]):∃s r,gr L=s::r/\s∈L:=by
 obtain⟨a,r,rfl⟩:∃a r,L=a::r:=by cases L with|nil=>exact absurd rfl h|cons a r=>exact⟨a,r,rfl⟩
 have hm:ls (a::r)∈(a::r).map λs=>(s.length:Int):=by
  rw[ls,aN];exact wD _ _
 obtain⟨s,hs,e⟩:=aY.mp hm;have:s∈gr (a::r):=bN.mpr ⟨hs,by simpa using e⟩;cases q:gr (a::r)with
 |nil=>rw[q]at this;cases this
 |cons t u=>
  have ht:t∈gr (a::r):=by rw[q];exact aQ
  exact⟨t,u,rfl,(bN.mp ht).1⟩
theorem nA:∀L:List (List Int),lens? (L.map tu)=some (L.map λs=>(s.length:Int))
 | []=>rfl
 |s::r=>by
  show (seq? (tu s)).bind (λxs=>(lens? (r.map tu)).map ((xs.length:Int) :: ·))=_;rw[nA r];show some (((s.map D.int).length:Int)::_)=_;rw[bG];rfl
theorem rW(n:Int):∀(L:List (List Int)) {s:List Int}{r:List (List Int)},(L.filter λs=>decide ((s.length:Int)=n))=s::r->pickK n (L.map tu) (L.map λs=>(s.length:Int))=.ok (tu s)
 | [],_,_,h=>by cases h
 |t::L,s,r,h=>by
  rw[aN,aN,pickK];rw[dF]at h;by_cases e:(t.length:Int)=n
  ·rw[if_pos e];rw[if_pos (by simpa using e)]at h;cases h;rfl
  ·rw[if_neg e];rw[if_neg (by simpa using e)]at h;exact rW n L h
theorem Bd{L:List (List Int)}{s:List Int}{r:List (List Int)}(h:gr L=s::r):fB true (.lst (L.map tu))=.ok (tu s):=by
 simp only[fB,dt];rw[nA];simp only[b7];cases L with
 |nil=>cases h
 |cons a L=>
  have:=rW (ls (a::L)) (a::L) h;rw[<-this];rfl
noncomputable def ul(m:Int)(ts:List (Int×Int)):List (List Int):=(zH (subs m.toNat)).filter (unt ts)
end KG
namespace K22
open EV KG
open PySem (Str)
open L2 (atI ixN ltP)
theorem B:Base p:=⟨⟨by kernel_rfl,by kernel_rfl,by kernel_rfl,by kernel_rfl,by kernel_rfl,by kernel_rfl,by kernel_rfl,by kernel_rfl⟩,by kernel_rfl,by kernel_rfl,by kernel_rfl,by kernel_rfl,by kernel_rfl⟩
theorem O:jo p:=⟨⟨by kernel_rfl,by kernel_rfl,by kernel_rfl,by kernel_rfl,by kernel_rfl⟩,by kernel_rfl⟩
theorem S:gy p:=⟨by kernel_rfl,by kernel_rfl,by kernel_rfl⟩
theorem U:Un p:=⟨by kernel_rfl,by kernel_rfl⟩
theorem Fb:Fw p:=⟨by kernel_rfl,by kernel_rfl,by kernel_rfl,by kernel_rfl,by kernel_rfl⟩
noncomputable def ap(m:Int)(ts:List (Int×Int))(s:List Int):Bool:=(rng m).all λa=>decide ((mk m ts s a).length<=1)
theorem le_int(a b:Int):qh .le (.int a) (.int b)=.ok (decide (a<=b)):=rfl
theorem tZ{k:Nat}(l:List Int)(hl:l.length<=8)(f:Int->List Int):qc p (k+1) "is_apart_by" [.lst (l.map λa=>tu (f a))]=.ok (.bl (l.all λa=>decide ((f a).length<=1))):=by
 rw[qd yK];refine qk (τ:=[some (.lst (l.map λa=>tu (f a)))]) rfl rfl ?_;have hc:evE ⟨qc p k,p.glb,p.sub,p.cat,p.fld⟩ (.comp (.seq (.var 0)) [none,none] (.nm 1) .yes (.cmp .le (.bi .len (.cons (.var 1) .nil)) (.con (.int 1)))) [some (.lst (l.map λa=>tu (f a)))]=.ok (.lst (l.map λa=>.bl (decide ((f a).length<=1)))):=by
  refine gH (f:=λa=>tu (f a)) (c:=[]) (λa=>.bl (decide ((f a).length<=1))) (dQ (by rw[qo];rfl)) (by simp[SZ];lia) rfl λa _=>?_
  have e1:=dz (f a);have e2:qh .le (.int ((f a).length:Int)) (.int 1)=.ok (decide ((f a).length<=1)):=by
   rw[le_int];congr 1;exact decide_eq_decide.mpr (by lia)
  generalize ((f a).length:Int)=Z at *;generalize tu (f a)=U at *;simp[KG.Z,e1,e2]
 have e3:=iY l (λa=>decide ((f a).length<=1));show qe _ (.cons (.ret (.bi .all (.cons _ .nil))) .nil) _=_;rw[qe,zm,ql,qD,hc];simp only[R.bind_ok,qD,e3,R.out_ok]
theorem vR{k:Nat}{m:Int}{ts:List (Int×Int)}(h:GW m ts){s:List Int}(g:GS m s):qc p (k+6) "is_apart" [wb m ts,tu s]=.ok (.bl (ap m ts s)):=by
 have h2:=h.hi;have e0:=hoods B.toWeb O.toNbr (k:=k) h;have e1:=need_web B.toWeb (k:=k+1) h;have e2:=need_some B.toWeb S (k:=k) (t:=.tup (ts.map prD)) g;have e3:=marks_of O.toNbr (k:=k+3) (rng m) (hd m ts) s g.len (by rw[fq];lia);have e4:=tZ (k:=k+4) (rng m) (by rw[fq];lia) (λa=>s.filter λx=>(hd m ts a).any λt=>t==x);have e5:((rng m).all λa=>decide ((s.filter λx=>(hd m ts a).any λt=>t==x).length<=1))=ap m ts s:=rfl;rw[e5]at e4;generalize (D.tup ((rng m).map λa=>tu (hd m ts a)))=U at *;generalize (D.lst ((rng m).map λa=>tu (s.filter λx=>(hd m ts a).any λt=>t==x)))=W at *;rw[qd yB];refine qk rfl rfl ?_;simp[KG.Z,kL,e0,e1,e2,e3,e4]
def Dj(m:Int)(ts:List (Int×Int))(x y:Int):Prop:=∀i:Nat,i<m.toNat->¬ (near ts x.toNat i=true/\near ts y.toNat i=true)
theorem mX(M:Nat)(P:Int->Nat->Bool):∀s:List Int,(∀i,i<M->(s.filter λx=>P x i).length<=1)↔s.Pairwise (λx y=>∀i,i<M->¬ (P x i=true/\P y i=true))
 | []=>by simp
 |x::s=>by
  rw[List.pairwise_cons,<-mX M P s];constructor
  ·intro hh;refine⟨λy hy i hi ⟨h1,h2⟩=>?_,λi hi=>?_⟩
   ·have:=hh i hi;rw[dF,if_pos h1,bM]at this;have hm:y∈s.filter λx=>P x i:=bN.mpr ⟨hy,h2⟩
    have:=List.length_pos_of_mem hm;lia
   ·have:=hh i hi;rw[dF]at this;split at this
    ·rw[bM]at this;lia
    ·exact this
  ·rintro⟨h1,h2⟩ i hi;rw[dF];split
   ·rename_i hx
    have:(s.filter λx=>P x i)=[]:=List.filter_eq_nil_iff.mpr λy hy hz=>h1 y hy i hi ⟨hx,hz⟩
    rw[this];simp
   ·exact h2 i hi
theorem lS{m:Int}{ts:List (Int×Int)}(h:GW m ts){s:List Int}(g:GS m s):ap m ts s=true↔s.Pairwise (Dj m ts):=by
 have h1:=h.lo;unfold Dj;rw[<-mX m.toNat (λx i=>near ts x.toNat i) s,ap,bF];have key:∀a:Int,0<=a->a<m->mk m ts s a=s.filter λx=>near ts x.toNat a.toNat:=λa a0 am=>by
  rw[mk];refine List.filter_congr λx hx=>?_
  obtain⟨x0,xm⟩:=g.ok x hx;rw[lL h,Bool.eq_iff_iff];simp only[b9,beq_iff_eq,exists_eq_right,jJ,bQ];rw[show ((x.toNat:Nat):Int)=x by lia,show ((a.toNat:Nat):Int)=a by lia,lT ts a x];constructor
  ·rintro⟨_,z|z⟩
   ·left;lia
   ·right;exact z
  ·rintro(z|z)
   ·exact⟨⟨x0,xm⟩,.inl (by lia)⟩
   ·exact⟨⟨x0,xm⟩,.inr z⟩
 constructor
 ·intro hh i hi;have:=hh (i:Int) (dY.mpr ⟨by lia,by lia⟩);rw[decide_eq_true_eq,key i (by lia) (by lia)]at this
  simpa using this
 ·intro hh a ha;obtain⟨a0,am⟩:=dY.mp ha;rw[decide_eq_true_eq,key a a0 am];exact hh a.toNat (by lia)
theorem Am{m:Int}{ts:List (Int×Int)}(h:GW m ts){q i:Nat}(hq:q<m.toNat)(hn:near ts q i=true):i<m.toNat:=by
 simp only[near,bQ,beq_iff_eq,b9,aL]at hn;rcases hn with rfl|⟨t,ht,z⟩
 ·exact hq
 ·have:=h.ok t ht;rcases z with z|z<;>lia
theorem oO{k:Nat}{m:Int}{ts:List (Int×Int)}(h:GW m ts){N:List Nat}(hN:fk m ts N){s:List Int}(g:GS m s):qc p (k+1) "_law_apart" [ln N,tu s]=.ok (.bl (ap m ts s)):=by
 have h1:=h.lo;obtain⟨d,e,rfl⟩:∃d,qc p (k+1) "_law_apart" [ln N,tu s]=.ok d/\d=.bl (ap m ts s):=by
  refine gZ (k:=k) (τ:=[some (ln N),some (tu s),none,none]) yn rfl rfl ?_;refine zj (σ:=[some (ln N),some (tu s),some (.int ((0:Nat):Int)),none]) (by simp[KG.Z]) ?_;refine fv (ds:=s.map D.int) (λr σ=>∃(us vs:List Int) (F:Nat) (v3:Option D),us++vs=s/\r=vs.map D.int/\us.Pairwise (Dj m ts)/\(∀i,F.testBit i=us.any λq=>near ts q.toNat i)/\σ=[some (ln N),some (tu s),some (.int (F:Int)),v3]) (lU rfl) ⟨[],s,0,none,rfl,rfl,.nil,by simp,rfl⟩ ?_ ?_
  ·rintro x r σ ⟨us,vs,F,v3,es,er,hp,hF,rfl⟩;obtain⟨q,vs,rfl,rfl,rfl⟩:=fx er;have Po:q∈s:=by rw[<-es];simp
   obtain⟨q0,qm⟩:=g.ok q Po;obtain⟨a,rfl⟩:∃a:Nat,q=a:=⟨q.toNat,by lia⟩
   have la:a<N.length:=by rw[hN.len];lia
   refine⟨[some (ln N),some (tu s),some (.int (F:Int)),some (.int a)],rfl,?_⟩;have ba:∀x y:Nat,op2 .band (.int x) (.int y)=.ok (.int ((x &&& y:Nat):Int)):=λx y=>by
    show R.ok (D.int (cw (x:Int) (y:Int)))=_;rw[sG]
   have bo:∀x y:Nat,op2 .bor (.int x) (.int y)=.ok (.int ((x |||y:Nat):Int)):=λx y=>by
    show R.ok (D.int (PySem.Builtin.bitOr (x:Int) (y:Int)))=_;rw[lB]
   have gt:∀z:Nat,qh .gt (.int (z:Int)) (.int 0)=.ok (decide (0<z)):=λz=>by
    show R.ok (decide ((0:Int)<z))=_
    congr 1;exact decide_eq_decide.mpr (by lia)
   have KC:=lO (N:=N) la;have ov:0<F &&& N[a]↔∃i,(us.any λq=>near ts q.toNat i)=true/\near ts a i=true:=by
    constructor
    ·intro hz;obtain⟨i,hi⟩:=Nat.exists_testBit_of_ne_zero (show F &&& N[a]≠0 by lia);rw[Nat.testBit_and,aL,hF,hN.bit a la]at hi;exact⟨i,hi⟩
    ·rintro⟨i,h1,h2⟩;refine Nat.pos_of_ne_zero λz=>?_
     have:(F &&& N[a]).testBit i=true:=by rw[Nat.testBit_and,aL,hF,hN.bit a la];exact⟨h1,h2⟩
     rw[z,Nat.zero_testBit]at this;cases this
   refine eO (K:=λσ=>(∀u∈us,Dj m ts u (a:Int))/\σ=[some (ln N),some (tu s),some (.int (F:Int)),some (.int a)]) ?_ ?_
   ·refine h_ (v:=decide (0<F &&& N[a])) ?_ (λz=>?_) λz=>zv ⟨λu hu i hi ⟨z1,z2⟩=>?_,rfl⟩
    ·have e2:=ba F N[a];have e3:=gt (F &&& N[a]);generalize F &&& N[a]=Z at *;generalize N[a]=Y at *;dsimp only[ln];dsimp only[ln]at KC;generalize (List.map (λ(x:Nat)=>D.int (x:Int)) N)=LN at *;simp[KG.Z,KC,e2,e3]
    ·refine fZ (d:=.bl false) (by simp[KG.Z]) ?_;obtain⟨i,z1,z2⟩:=ov.mp (by simpa using z);obtain⟨u,hu,z1⟩:=b9.mp z1;have:ap m ts s≠true:=λJ6=>by
      have pw:=(lS h g).mp J6;rw[<-es,List.pairwise_append]at pw;have:=pw.2.2 u hu (a:Int) aQ;exact this i (Am h (by lia) z2) ⟨z1,by simpa using z2⟩
     simp at this;rw[this]
    ·have nz:¬ (0<F &&& N[a]):=by simpa using z
     exact nz (ov.mpr ⟨i,b9.mpr ⟨u,hu,z1⟩,by simpa using z2⟩)
   ·rintro _ ⟨HU,rfl⟩;refine zj (σ:=[some (ln N),some (tu s),some (.int ((F |||N[a]:Nat):Int)),some (.int a)]) ?_ (zv ⟨us++[(a:Int)],vs,F |||N[a],_,by simpa using es,rfl,?_,λi=>?_,rfl⟩)
    ·have e2:=bo F N[a];generalize F |||N[a]=Z at *;generalize N[a]=Y at *;dsimp only[ln];dsimp only[ln]at KC;generalize (List.map (λ(x:Nat)=>D.int (x:Int)) N)=LN at *;simp[KG.Z,KC,e2]
    ·rw[List.pairwise_append];exact⟨hp,by simp,λu hu v hv=>by rw[List.mem_singleton]at hv;rw[hv];exact HU u hu⟩
    ·rw[Nat.testBit_or,hF,hN.bit a la,List.any_append];simp
  ·rintro σ ⟨us,vs,F,v3,es,er,hp,hF,rfl⟩;have:vs=[]:=by cases vs with|nil=>rfl|cons _ _=>cases er
   subst this;rw[c_]at es;subst es;exact fZ (d:=.bl true) (by simp[KG.Z]) (by rw[(lS h g).mpr hp])
 exact e
noncomputable def ul(m:Int)(ts:List (Int×Int)):List (List Int):=(zH (KG.subs m.toNat)).filter (ap m ts)
theorem sX{m:Int}{ts:List (Int×Int)}(h:GW m ts):ul m ts≠[]:=by
 have hm:bs m 0∈ul m ts:=by
  rw[ul,bN];refine⟨mS h.lo h.hi (Nat.two_pow_pos _),(lS h (gp h.hi 0)).mpr ?_⟩;have:bs m 0=[]:=by rw[bs,List.filter_eq_nil_iff];simp
  rw[this];exact .nil
 intro z;rw[z]at hm;cases hm
theorem uA{m:Int}{ts:List (Int×Int)}(h:GW m ts):(ul m ts).length<=256:=br (List.length_filter_le _ _) (sub_len h.hi)
theorem yH{k:Nat}{m:Int}{ts:List (Int×Int)}(h:GW m ts){s:List Int}{r:List (List Int)}(e:gr (ul m ts)=s::r):qc p (k+6) "first_apart" [wb m ts]=.ok (tu s):=by
 have h1:=h.lo;have h2:=h.hi;have e0:=hoods B.toWeb O.toNbr (k:=k) h;have e1:=need_web B.toWeb (k:=k+1) h;rw[qd xu];refine qk (τ:=[some (wb m ts),none,none]) rfl rfl ?_;have hc:evE ⟨qc p (k+5),p.glb,p.sub,p.cat,p.fld⟩ (.comp (.seq (.call "all_some" (.cons (.var 0) .nil))) [none,none,some 1] (.nm 1) (.val (.call "is_apart_by" (.cons (.call "marks_of" (.cons (.var 2) (.cons (.var 1) .nil))) .nil))) (.var 1)) [some (wb m ts),some (.tup ((rng m).map λa=>tu (hd m ts a))),none]=.ok (.lst ((ul m ts).map tu)):=by
  refine fU (f:=tu) (c:=[some (.tup ((rng m).map λa=>tu (hd m ts a)))]) (ap m ts) tu (dQ ?_) ?_ rfl ?_
  ·simp[KG.Z,all_some B (k:=k+4) (t:=.tup (ts.map prD)) h1 h2]
  ·have:=sub_len h2;simp[SZ];lia
  ·intro s hs;obtain⟨n,hn,rfl⟩:=iC h1 h2 hs;refine⟨?_,λ_=>rfl⟩;have e3:=marks_of O.toNbr (k:=k+3) (rng m) (hd m ts) (bs m n) (gp h2 n).len (by rw[fq];lia);have e4:=tZ (k:=k+4) (rng m) (by rw[fq];lia) (λa=>(bs m n).filter λx=>(hd m ts a).any λt=>t==x);have e5:((rng m).all λa=>decide (((bs m n).filter λx=>(hd m ts a).any λt=>t==x).length<=1))=ap m ts (bs m n):=rfl;rw[e5]at e4;have a1:evE ⟨qc p (k+5),p.glb,p.sub,p.cat,p.fld⟩ (.call "marks_of" (.cons (.var 2) (.cons (.var 1) .nil))) [none,some (tu (bs m n)),some (.tup ((rng m).map λa=>tu (hd m ts a)))]=.ok (.lst ((rng m).map λa=>tu ((bs m n).filter λx=>(hd m ts a).any λt=>t==x))):=by
    rw[qz];show qc p (k+5) "marks_of" [.tup ((rng m).map λa=>tu (hd m ts a)),tu (bs m n)]=_;exact e3
   rw[eA,qz,qD,a1];simp only[R.bind_ok,qD];show ((qc p (k+5) "is_apart_by" [.lst ((rng m).map λa=>tu ((bs m n).filter λx=>(hd m ts a).any λt=>t==x))]).bind _)=_;rw[e4];rfl
 show qe _ (.cons (.exp _) (.cons (.set (.nm 1) _) (.cons (.set (.nm 2) _) (.cons (.ret (.mxk true (.var 2))) .nil)))) _=_;refine dM (σ:=[some (wb m ts),none,none]) (by simp[KG.Z,e1]) ?_;refine dM (σ:=[some (wb m ts),some (.tup ((rng m).map λa=>tu (hd m ts a))),none]) (by simp[KG.Z,e0]) ?_;refine dM (σ:=[some (wb m ts),some (.tup ((rng m).map λa=>tu (hd m ts a))),some (.lst ((ul m ts).map tu))]) (by rw[zr,hc];rfl) ?_;have e2:=Bd e;rw[qe,zm,qR,qo];simp only[zD,List.getElem?_cons_succ,List.getElem?_cons_zero,R.bind_ok];rw[e2];rfl
theorem Aq{k:Nat}{L:List (List Int)}(hL:L≠[])(hz:L.length<=256){s:List Int}{r:List (List Int)}(e:gr L=s::r):qc p (k+1) "_law_most" [.lst (L.map tu)]=.ok (tu s):=by
 rw[qd AJ];refine qk (τ:=[some (.lst (L.map tu)),none]) rfl rfl ?_;have h1:evE ⟨qc p k,p.glb,p.sub,p.cat,p.fld⟩ (.comp (.seq (.var 0)) [none,none] (.nm 1) .yes (.bi .len (.cons (.var 1) .nil))) [some (.lst (L.map tu)),none]=.ok (.lst ((L.map λs=>(s.length:Int)).map D.int)):=by
  rw[cc];refine gH (f:=tu) (c:=[]) (λs=>.int s.length) (dQ (by rw[qo];rfl)) (by simp[SZ];lia) rfl λs _=>?_
  simp[KG.Z,dz]
 have h2:b1 .max [.lst ((L.map λs=>(s.length:Int)).map D.int)]=.ok (.int (ls L)):=by
  cases L with
  |nil=>exact absurd rfl hL
  |cons a r=>rw[ls,aN];exact CC
 have h3:evE ⟨qc p k,p.glb,p.sub,p.cat,p.fld⟩ (.comp (.seq (.var 0)) [none,none,some 1] (.nm 1) (.cmp .eq (.bi .len (.cons (.var 1) .nil)) (.var 2)) (.var 1)) [some (.lst (L.map tu)),some (.int (ls L))]=.ok (.lst ((gr L).map tu)):=by
  refine fU (f:=tu) (c:=[some (.int (ls L))]) (λs=>decide ((s.length:Int)=ls L)) tu (dQ (by rw[qo];rfl)) (by simp[SZ];lia) rfl λs _=>⟨?_,λ_=>rfl⟩
  simp[KG.Z,dz,eq_int]
 have h4:=ix0 tu s r;rw[<-e]at h4;show qe _ (.cons (.set (.nm 1) (.bi .max (.cons _ .nil))) (.cons (.ret (.ix _ (.con (.int 0)))) .nil)) _=_;refine dM (σ:=[some (.lst (L.map tu)),some (.int (ls L))]) (by rw[zr,ql,qD,h1];simp only[R.bind_ok,qD,h2];rfl) ?_;rw[qe,zm,qx,h3,qX];simp only[R.bind_ok];rw[h4];rfl
theorem yR{k:Nat}{L:List (List Int)}(hL:L≠[])(hz:L.length<=256){s:List Int}{r:List (List Int)}(e:few L=s::r):qc p (k+1) "_law_least" [.lst (L.map tu)]=.ok (tu s):=by
 rw[qd BL];refine qk (τ:=[some (.lst (L.map tu)),none]) rfl rfl ?_;have h1:evE ⟨qc p k,p.glb,p.sub,p.cat,p.fld⟩ (.comp (.seq (.var 0)) [none,none] (.nm 1) .yes (.bi .len (.cons (.var 1) .nil))) [some (.lst (L.map tu)),none]=.ok (.lst ((L.map λs=>(s.length:Int)).map D.int)):=by
  rw[cc];refine gH (f:=tu) (c:=[]) (λs=>.int s.length) (dQ (by rw[qo];rfl)) (by simp[SZ];lia) rfl λs _=>?_
  simp[KG.Z,dz]
 have h2:b1 .min [.lst ((L.map λs=>(s.length:Int)).map D.int)]=.ok (.int (lsm L)):=by
  cases L with
  |nil=>exact absurd rfl hL
  |cons a r=>rw[lsm,aN];exact pU
 have h3:evE ⟨qc p k,p.glb,p.sub,p.cat,p.fld⟩ (.comp (.seq (.var 0)) [none,none,some 1] (.nm 1) (.cmp .eq (.bi .len (.cons (.var 1) .nil)) (.var 2)) (.var 1)) [some (.lst (L.map tu)),some (.int (lsm L))]=.ok (.lst ((few L).map tu)):=by
  refine fU (f:=tu) (c:=[some (.int (lsm L))]) (λs=>decide ((s.length:Int)=lsm L)) tu (dQ (by rw[qo];rfl)) (by simp[SZ];lia) rfl λs _=>⟨?_,λ_=>rfl⟩
  simp[KG.Z,dz,eq_int]
 have h4:=ix0 tu s r;rw[<-e]at h4;show qe _ (.cons (.set (.nm 1) (.bi .min (.cons _ .nil))) (.cons (.ret (.ix _ (.con (.int 0)))) .nil)) _=_;refine dM (σ:=[some (.lst (L.map tu)),some (.int (lsm L))]) (by rw[zr,ql,qD,h1];simp only[R.bind_ok,qD,h2];rfl) ?_;rw[qe,zm,qx,h3,qX];simp only[R.bind_ok];rw[h4];rfl
theorem vK{k:Nat}{m:Int}{ts:List (Int×Int)}{s:List Int}{n:Int}(e1:qc p k "first_apart" [wb m ts]=.ok (tu s))(e2:qc p k "fewest" [wb m ts]=.ok (.int n)):qc p (k+1) "paper_for" [wb m ts]=.ok (if (s.length:Int)=n then tu s else .non):=by
 have e3:=dz s;have e4:=eq_int (s.length:Int) n;by_cases q:(s.length:Int)=n
 ·rw[if_pos q];rw[decide_eq_true q]at e4;generalize (s.length:Int)=N at *;generalize wb m ts=WB at *;generalize tu s=TS at *;rw[qd sW];refine qk rfl rfl ?_;simp[KG.Z,jQ,qy,e1,e2,e3,e4]
 ·rw[if_neg q];rw[decide_eq_false q]at e4;generalize (s.length:Int)=N at *;generalize wb m ts=WB at *;generalize tu s=TS at *;rw[qd sW];refine qk rfl rfl ?_;simp[KG.Z,jQ,qy,e1,e2,e3,e4]
theorem pP(a:Int)(r:List Int):ixD (tu (a::r)) (.int 0)=.ok (.int a):=by
 show (match atI ((a::r).map D.int) 0 with|some d=>R.ok d|none=>R.no)=_;have:atI ((a::r).map D.int) 0=some (.int a):=by
  unfold atI ixN;simp
 rw[this]
theorem uZ{w:W}{f:Fn}{ds:List D}{c:Xc}{τ:Env}(hl:ds.length=f.ps)(hτ:ds.map some++bR (f.N-f.ps) none=τ)(h:qe w f.body τ=.ex c):cW w f ds=.ex c:=by
 rw[cW,if_pos hl,hτ,h]
def GI(m:Int)(s:List Int):Prop:=s.Pairwise (· < ·)/\∀i∈s,0<=i/\i<m
noncomputable instance (m:Int) (s:List Int):Decidable (GI m s):=inferInstanceAs (Decidable (_/\_))
theorem sO:∀(s:List Int),(∀i (h:i+1<s.length),s[i]<s[i+1])->s.Pairwise (· < ·)
 | [],_=>.nil
 | [a],_=>by simp
 |a::b::r,h=>by
  have h2:=sO (b::r) λi hi=>by have:=h (i+1) (by simp at hi ⊢;lia);simpa using this
  have h1:=h 0 (by simp);refine List.pairwise_cons.mpr ⟨λx hx=>?_,h2⟩;rcases aP.mp hx with rfl|hx
  ·simpa using h1
  ·have:=(List.pairwise_cons.mp h2).1 x hx;have:a<b:=by simpa using h1
   lia
theorem o_:∀(s:List Int),((s.zip (s.drop 1)).all λx=>decide (x.1<x.2))=decide (s.Pairwise (· < ·))
 | []=>rfl
 | [a]=>by simp
 |a::b::r=>by
  have h:=o_ (b::r);simp only[List.drop_succ_cons,List.drop_zero,List.zip_cons_cons,List.all_cons]at h ⊢;rw[h,<-Bool.decide_and];refine decide_eq_decide.mpr ⟨λ⟨h1,h2⟩=>List.pairwise_cons.mpr ⟨λx hx=>?_,h2⟩,λh2=>⟨(List.pairwise_cons.mp h2).1 b (by simp),(List.pairwise_cons.mp h2).2⟩⟩;rcases aP.mp hx with rfl|hx
  ·exact h1
  ·have:=(List.pairwise_cons.mp h2).1 x hx;lia
theorem Eo{k:Nat}{m:Int}{t:D}{s:List Int}(hl:s.length<=8):qc p (k+4) "is_some" [.tup [.int m,t],tu s]=.ok (.bl (decide (GI m s))):=by
 by_cases q:GI m s
 ·rw[decide_eq_true q];exact KG.is_some B.toWeb S ⟨q.1,q.2,hl⟩
 ·rw[decide_eq_false q];refine pj B.toWeb S.a (ys:=s.map λi=>(.int i,decide (0<=i/\i<=m-1))) (by simp) (by simp;lia) (λy hy=>by obtain⟨j,_,rfl⟩:=aY.mp hy;exact Cd B.toWeb S.a j m t) ?_;by_cases q2:∀i∈s,0<=i/\i<m
  ·refine .inr ?_;have:=FR B.toWeb (k:=k+2) (s.map D.int) (by simp;lia) (λi=>decide (s[i]! < s[i+1]!)) λi z=>by
    have z1:i+1<s.length:=by simpa using z
    rw[dE,dE,lt_int,getElem!_pos _ i (by lia),getElem!_pos _ (i+1) z1]
   rw[this]
   congr 2
   cases z:(aS ((s.map D.int).length-1)).all λi=>decide (s[i]! < s[i+1]!)with
   |false=>rfl
   |true=>
    refine absurd ⟨sO s λi hi=>?_,q2⟩ q;have:=bF.mp z i (by simp;lia);rw[getElem!_pos _ i (by lia),getElem!_pos _ (i+1) hi]at this
    simpa using this
  ·refine .inl ?_;rw[List.all_map,List.all_eq_false];obtain⟨i,q2⟩:=Classical.not_forall.mp q2;obtain⟨hi,q2⟩:=Classical.not_imp.mp q2;exact⟨i,hi,by simp only[Function.comp,decide_eq_true_eq];lia⟩
def LB(m:Int)(y:D×Bool):Prop:=(od y.1=true/\y.2=false)\/∃i,y.1=.int i/\y.2=decide (0<=i/\i<m)
theorem xv{k:Nat}{d:D}(h:od d=true):qc p (k+1) "_law_whole" [d]=.ok (.bl false):=by
 rw[qd oM];cases d<;>first|(cases h;done)|rfl
theorem nH{k:Nat}{m:Int}{ys:List (D×Bool)}(hz:ys.length<=100)(hf:∀y∈ys,LB m y):evE (wAt p (k+1)) (.bi .all (.cons (.comp (.seq (.var 1)) [none,none,some 0] (.nm 1) .yes (.and (.call "_law_whole" (.cons (.var 1) .nil)) (.cmp2 .le .lt (.con (.int 0)) (.var 1) (.var 2)))) .nil)) [some (.int m),some (.tup (ys.map (·.1)))]=.ok (.bl (ys.all (·.2))):=by
 have hc:evE (wAt p (k+1)) (.comp (.seq (.var 1)) [none,none,some 0] (.nm 1) .yes (.and (.call "_law_whole" (.cons (.var 1) .nil)) (.cmp2 .le .lt (.con (.int 0)) (.var 1) (.var 2)))) [some (.int m),some (.tup (ys.map (·.1)))]=.ok (.lst (ys.map λx=>.bl x.2)):=by
  refine gH (f:=λ(x:D×Bool)=>x.1) (c:=[some (.int m)]) (λ(x:D×Bool)=>.bl x.2) (lU rfl) (by simp[SZ];lia) rfl λx hx=>?_
  rcases hf x hx with ⟨h1,h2⟩|⟨i,h1,h2⟩
  ·have e:=xv (k:=k) h1;rw[h2];simp[KG.Z,e]
  ·have e:=yt oM (k:=k) i;have e1:qh .le (.int 0) (.int i)=.ok (decide (0<=i)):=rfl;have e2:qh .lt (.int i) (.int m)=.ok (decide (i<m)):=rfl;rw[h1,h2];by_cases q:0<=i
   ·simp[KG.Z,e,e1,e2,q]
   ·simp[KG.Z,e,e1,q]
 have h3:=iY ys (·.2);rw[ql,qD,hc];simp only[R.bind_ok,qD,h3]
theorem pT{k:Nat}{m:Int}{ys:List (D×Bool)}(hz:ys.length<=100)(hf:∀y∈ys,LB m y)(hb:ys.all (·.2)=false):qc p (k+2) "_law_is_some" [.int m,.tup (ys.map (·.1))]=.ok (.bl false):=by
 have e:=nH (k:=k) hz hf;rw[hb]at e;rw[qd k_];refine qk (τ:=[some (.int m),some (.tup (ys.map (·.1)))]) rfl rfl ?_;generalize ys.map (·.1)=Y at *;show qe _ (.cons (.ite (.or _ (.not (.val (.bi .all _)))) _ _) _) _=_;have e2:∀w:W,cC w (.tup Y) (.ty "tuple")=.ok (.bl true):=λ_=>rfl
 rw[qe,zO,eU,fg,eA,qC,qo];simp[KG.Z,e,e2]
theorem r_{k:Nat}{d:D}(h:nt d=true)(u:D):qc p (k+2) "_law_is_some" [u,d]=.ok (.bl false):=by
 have e:∀w:W,cC w d (.ty "tuple")=.ok (.bl false):=λw=>by cases d<;>first|(cases h;done)|rfl
 rw[qd k_];refine qk rfl rfl ?_;simp[KG.Z,lh,e]
theorem pL{k:Nat}{m:Int}{s:List Int}(hl:s.length<=8):qc p (k+2) "_law_is_some" [.int m,tu s]=.ok (.bl (decide (GI m s))):=by
 have hy:(s.map λi=>((D.int i,decide (0<=i/\i<m)):D×Bool)).map (·.1)=s.map D.int:=by simp
 by_cases q:∀i∈s,0<=i/\i<m
 ·have e:=nH (k:=k) (m:=m) (ys:=s.map λi=>(D.int i,decide (0<=i/\i<m))) (by simp;lia) λy hy=>by obtain⟨j,_,rfl⟩:=aY.mp hy;exact .inr ⟨j,rfl,rfl⟩
  rw[hy]at e;have e0:((s.map λi=>((D.int i,decide (0<=i/\i<m)):D×Bool)).all (·.2))=true:=by
   rw[List.all_map,bF];exact λi hi=>decide_eq_true (q i hi)
  rw[e0]at e;have Il:slD (tu s) (some 1) none=.ok (tu (s.drop 1)):=by
   show R.ok (D.tup (cutD (s.map D.int) (some 1) none))=_
   congr 2
   rw[cutD,bG,<-List.map_drop,<-List.map_take]
   congr 1
   cases s with
   |nil=>rfl
   |cons a r=>
    have h1:HT.sIx (a::r).length 0 (some 1)=1:=by simp[HT.sIx]
    have h2:HT.sIx (a::r).length (a::r).length none=(a::r).length:=rfl;rw[h1,h2];exact List.take_of_length_le (by simp)
  have hc:evE (wAt p (k+1)) (.comp (.zip (.var 1) (.sl (.var 1) (.some (.con (.int 1))) .none)) [none,none,none] (.tp [1,2]) .yes (.cmp .lt (.var 1) (.var 2))) [some (.int m),some (tu s)]=.ok (.lst ((s.zip (s.drop 1)).map λx=>.bl (decide (x.1<x.2)))):=by
   have:=CA (w:=wAt p (k+1)) (it:=.zip (.var 1) (.sl (.var 1) (.some (.con (.int 1))) .none)) (cap:=[none,none,none]) (t:=.yes) (elt:=.cmp .lt (.var 1) (.var 2)) (τ:=[some (.int m),some (tu s)]) (c:=[]) (l:=s.zip (s.drop 1)) (λ_=>true) (λx=>.bl (decide (x.1<x.2))) ?_ (by simp[SZ];lia) rfl λx _=>⟨rfl,?_⟩
   ·rwa[List.filter_eq_self.mpr (λ_ _=>rfl)]at this
   ·have zl:∀a b:List Int,dO (a.map D.int) (b.map D.int)=(a.zip b).map prD:=λa=>by
     induction a with
     |nil=>intro b;rfl
     |cons x a ih=>intro b;cases b with
      |nil=>rfl
      |cons y b=>rw[aN,aN,dO,ih b];rfl
    have h1:evE (wAt p (k+1)) (.var 1) [some (.int m),some (tu s)]=.ok (tu s):=rfl;have h2:evE (wAt p (k+1)) (.sl (.var 1) (.some (.con (.int 1))) .none) [some (.int m),some (tu s)]=.ok (tu (s.drop 1)):=by
     rw[qH,h1];simp only[R.bind_ok,evO,qX];exact Il
    simp only[evI,h1,h2,R.bind_ok];rw[if_pos (by simp)];rw[zl]
   ·have e2:qh .lt (.int x.1) (.int x.2)=.ok (decide (x.1<x.2)):=rfl;simp[KG.Z,e2]
  have h3:=iY (s.zip (s.drop 1)) (λx=>decide (x.1<x.2));rw[o_]at h3;have e2:∀w:W,cC w (tu s) (.ty "tuple")=.ok (.bl true):=λ_=>rfl
  rw[qd k_];refine qk (τ:=[some (.int m),some (tu s)]) rfl rfl ?_;show qe _ (.cons (.ite (.or _ (.not (.val (.bi .all _)))) _ _) (.cons (.ret (.bi .all (.cons _ .nil))) .nil)) _=_;refine dM (σ:=[some (.int m),some (tu s)]) ?_ ?_
  ·rw[show D.tup (s.map D.int)=tu s from rfl]at e;clear Il hc;generalize tu s=TS at *;rw[zO,eU,fg,eA,qC,qo];simp[KG.Z,e,e2]
  ·rw[qe,zm,ql,qD,hc];simp only[R.bind_ok,qD,h3];have:decide (s.Pairwise (· < ·))=decide (GI m s):=decide_eq_decide.mpr ⟨λz=>⟨z,q⟩,λz=>z.1⟩;rw[this];rfl
 ·have:=pT (k:=k) (m:=m) (ys:=s.map λi=>(D.int i,decide (0<=i/\i<m))) (by simp;lia) (λy hy=>by obtain⟨j,_,rfl⟩:=aY.mp hy;exact .inr ⟨j,rfl,rfl⟩) (by
   rw[List.all_map,List.all_eq_false];obtain⟨i,q⟩:=Classical.not_forall.mp q;obtain⟨hi,q⟩:=Classical.not_imp.mp q;exact⟨i,hi,by simpa using q⟩)
  rw[hy]at this;rw[this,decide_eq_false λz=>q z.2]
def Odd(m:Int)(d:D):Prop:=(∀t k,qc p (k+4) "is_some" [.tup [.int m,t],d]=.ok (.bl false))/\∀k,qc p (k+2) "_law_is_some" [.int m,d]=.ok (.bl false)
noncomputable def fit(d:D):Bool:=d.rpOk&&decide (d.rp.length<=60)&&PySem.PyData.strOk d.rp
def Th(m:Int)(d:D):Prop:=(Odd m d\/∃s,d=tu s/\GS m s)/\fit d=true
theorem gG{m:Int}{s:List Int}(hl:s.length<=8)(hf:fit (tu s)=true):Th m (tu s):=by
 refine⟨?_,hf⟩;by_cases q:GI m s
 ·exact .inr ⟨s,rfl,q.1,q.2,hl⟩
 ·exact .inl ⟨λt k=>by rw[Eo hl,decide_eq_false q],λk=>by rw[pL hl,decide_eq_false q]⟩
noncomputable def eK(j n:Nat):Bool:=fit (tu (bs ((j:Int)+1) n))&&fit (.lst ((bs ((j:Int)+1) n).map D.int))&&fit (tu (bs ((j:Int)+1) n).reverse)&&fit (tu ((bs ((j:Int)+1) n).drop 1))
theorem yr:((aS 6).all λj=>(aS (2^(j+1))).all (eK j))=true:=by decide +kernel
theorem Ei:((aS 64).all λn=>eK 6 (0+n))=true:=by decide +kernel
theorem Fc:((aS 64).all λn=>eK 6 (64+n))=true:=by decide +kernel
theorem vo:((aS 64).all λn=>eK 7 (0+n))=true:=by decide +kernel
theorem FN:((aS 64).all λn=>eK 7 (64+n))=true:=by decide +kernel
theorem Cm:((aS 64).all λn=>eK 7 (128+n))=true:=by decide +kernel
theorem uQ:((aS 64).all λn=>eK 7 (192+n))=true:=by decide +kernel
theorem h9{j a n:Nat}(h:((aS 64).all λn=>eK j (a+n))=true)(h1:a<=n)(h2:n<a+64):eK j n=true:=by
 have:=bF.mp h (n-a) (List.mem_range.mpr (by lia))
 rwa[Nat.add_sub_cancel' h1]at this
theorem fits{j n:Nat}(hj:j<8)(hn:n<2^(j+1)):eK j n=true:=by
 by_cases h:j<6
 ·exact bF.mp (bF.mp yr j (List.mem_range.mpr h)) n (List.mem_range.mpr hn)
 by_cases h7:j<7
 ·obtain rfl:j=6:=by lia
  by_cases q:n<64
  ·exact h9 Ei (bU _) q
  ·exact h9 Fc (by lia) (by lia)
 ·obtain rfl:j=7:=by lia
  by_cases q:n<64
  ·exact h9 vo (bU _) q
  by_cases q2:n<128
  ·exact h9 FN (by lia) (by lia)
  by_cases q3:n<192
  ·exact h9 Cm (by lia) (by lia)
  ·exact h9 uQ (by lia) (by lia)
theorem mJ{m:Int}(h1:1<=m)(h2:m<=8){n:Nat}(hn:n<2^m.toNat):fit (tu (bs m n))=true/\fit (.lst ((bs m n).map D.int))=true/\fit (tu (bs m n).reverse)=true/\fit (tu ((bs m n).drop 1))=true:=by
 obtain⟨j,rfl⟩:∃j:Nat,m=(j:Int)+1:=⟨(m-1).toNat,by lia⟩
 have e:((j:Int)+1).toNat=j+1:=by lia
 rw[e]at hn;have:=fits (by lia:j<8) hn;simp only[eK,aL]at this;exact⟨this.1.1.1,this.1.1.2,this.1.2,this.2⟩
noncomputable def gn(m:Int):List D:=[.non,.bl true,.int 5,.str "0",.lst [.int 0],.dic,.tup [.int m],.tup [.int (-1)],.tup [.int 0,.int 0],.tup [.bl true],.tup [.tup [.int 0]],.tup [.str "0"],.tup [.int m,.int 0],.lst [],.tup [.non]]
theorem v9:((aS 8).all λj=>(gn ((j:Int)+1)).all fit)=true:=by decide +kernel
theorem C8{m:Int}(h1:1<=m)(h2:m<=8):∀d∈gn m,Th m d:=by
 have hf:∀d∈gn m,fit d=true:=by
  obtain⟨j,rfl⟩:∃j:Nat,m=(j:Int)+1:=⟨(m-1).toNat,by lia⟩
  exact bF.mp (bF.mp v9 j (List.mem_range.mpr (by lia)))
 have one:∀x:D,od x=true->Odd m (.tup [x]):=λx hx=>⟨λt k=>pj B.toWeb S.a (ys:=[(x,false)]) rfl (by simp) (λy hy=>by rw[List.mem_singleton.mp hy];exact DF B.toWeb S.a hx m t) (.inl rfl),λk=>pT (ys:=[(x,false)]) (by simp) (λy hy=>by rw[List.mem_singleton.mp hy];exact .inl ⟨hx,rfl⟩) rfl⟩
 have Jj:∀x:D,nt x=true->Odd m x:=λx hx=>⟨λt k=>pe B.toWeb S.a hx _,λk=>r_ hx _⟩
 have hO:∀d∈gn m,fit d=true->Th m d:=by
  simp only[gn,List.forall_mem_cons];refine⟨λf=>⟨.inl (Jj _ rfl),f⟩,λf=>⟨.inl (Jj _ rfl),f⟩,λf=>⟨.inl (Jj _ rfl),f⟩,λf=>⟨.inl (Jj _ rfl),f⟩,λf=>⟨.inl (Jj _ rfl),f⟩,λf=>⟨.inl (Jj _ rfl),f⟩,λf=>gG (s:=[m]) (by simp) f,λf=>gG (s:=[-1]) (by simp) f,λf=>gG (s:=[0,0]) (by simp) f,λf=>⟨.inl (one _ rfl),f⟩,λf=>⟨.inl (one _ rfl),f⟩,λf=>⟨.inl (one _ rfl),f⟩,λf=>gG (s:=[m,0]) (by simp) f,λf=>⟨.inl (Jj _ rfl),f⟩,λf=>⟨.inl (one _ rfl),f⟩,by simp⟩
 exact λd hd=>hO d hd (hf d hd)
theorem oV{k:Nat}{m:Int}(h1:1<=m)(h2:m<=8)(c:Int):∃d,qc p (k+2) "_law_odd_some" [.int m,.int c]=.ok d/\Th m d:=by
 have e0:=stir B (k:=k) c 61;obtain⟨d,e,hd⟩:=pick (C8 h1 h2) (st c 61%15) ⟨by lia,by show st c 61%15<15;lia⟩;refine⟨d,?_,hd⟩;have a3:op2 .mod (.int (st c 61)) (.int 15)=.ok (.int (st c 61%15)):=rfl;rw[qd DX];refine qk (τ:=[some (.int m),some (.int c),none]) rfl rfl ?_;show qe _ (.cons _ (.cons _ .nil)) _=_;refine dM (σ:=[some (.int m),some (.int c),some (.lst (gn m))]) (by simp[KG.Z,gn,zh,qQ]) ?_;generalize gn m=Z at *;generalize st c 61=Q at *;rw[qe,zm,qx];have f1:evE (wAt p (k+1)) (.var 2) [some (.int m),some (.int c),some (.lst Z)]=.ok (.lst Z):=rfl;have f2:evE (wAt p (k+1)) (.op .mod (.call "_law_stir" (.cons (.var 1) (.cons (.con (.int 61)) .nil))) (.con (.int 15))) [some (.int m),some (.int c),some (.lst Z)]=.ok (.int (Q%15)):=by simp[KG.Z,e0,a3]
 rw[f1,f2];simp only[R.bind_ok];rw[e];rfl
theorem lH(a b:Str):(a++b).length=a.length+b.length:=by
 show (a.cps++b.cps).size=_;rw[Array.size_append];rfl
theorem l_{a b:Str}(h:PySem.PyData.strOk a=true)(h':PySem.PyData.strOk b=true):PySem.PyData.strOk (a++b)=true:=by
 show (a.cps++b.cps).all _=true;rw[Array.all_append];simp only[aL];exact⟨h,h'⟩
theorem p_:∀(ts:List Str) (i:Nat) (a:Str),(∀t∈ts,t.length<=60/\PySem.PyData.strOk t=true)->PySem.PyData.strOk a=true->(PySem.textFrom i a ts).length<=a.length+62 * ts.length/\PySem.PyData.strOk (PySem.textFrom i a ts)=true
 | [],i,a,_,h=>⟨by simp[PySem.textFrom],by simpa[PySem.textFrom]using h⟩
 |t::ts,i,a,hh,h=>by
  obtain⟨t1,t2⟩:=hh t aQ;have hs:(aJ (if i>0 then ", " else "")).length<=2/\PySem.PyData.strOk (aJ (if i>0 then ", " else ""))=true:=by split<;>decide +kernel
  obtain⟨q1,q2⟩:=p_ ts (i+1) (a++aJ (if i>0 then ", " else "")++t) (λx hx=>hh x (aO _ hx)) (l_ (l_ h hs.2) t2);rw[PySem.textFrom];refine⟨?_,q2⟩;rw[lH,lH]at q1;rw[bM];lia
theorem D1{m:Int}{x:D}{ds:List D}(hl:(x::ds).length<=20)(h:∀d∈x::ds,Th m d):∃T,b1 .repr [.lst (x::ds)]=.ok (.str T)/\qh .eq (.str T) (.str T)=.ok true:=by
 have hf:∀d∈x::ds,d.rpOk=true/\d.rp.length<=60/\PySem.PyData.strOk d.rp=true:=λd hd=>by
  have:=(h d hd).2;simp only[fit,aL,decide_eq_true_eq]at this;exact⟨this.1.1,this.1.2,this.2⟩
 obtain⟨q1,q2⟩:=p_ ((x::ds).map D.rp) 0 (aJ "[") (λt ht=>by obtain⟨d,hd,rfl⟩:=aY.mp ht;exact(hf d hd).2) (by decide +kernel);have q3:PySem.PyData.strOk (PySem.listText ((x::ds).map D.rp))=true:=l_ q2 (by decide +kernel);have q4:(PySem.listText ((x::ds).map D.rp)).length<=PySem.sizeLine:=by
  show (_++_:Str).length<=_;rw[lH];have z1:(aJ "[").length=1:=by decide +kernel
  have z2:(aJ "]").length=1:=by decide +kernel
  rw[z1,bG]at q1;rw[z2];have:(1:Nat)+62 * 20+1<=PySem.sizeLine:=by decide +kernel
  lia
 refine⟨PySem.listText ((x::ds).map D.rp),?_,?_⟩
 ·show gJ (.lst (x::ds))=.ok (.str _);rw[gJ,if_pos ⟨bF.mpr λd hd=>(hf d hd).1,q4⟩]
 ·generalize PySem.listText ((x::ds).map D.rp)=T at *;have a:(D.str T).asks=true:=by simp[D.asks,D.plain,D.deep,q3]
  rw[qh,a];simp[D.eqv]
section
variable{k:Nat}{m:Int}{ts:List (Int×Int)}(h:GW m ts){s:List Int}(g:GS m s)
include h g
theorem pC(hu:un m ts s=[]):qc p (k+7) "need_all" [wb m ts,tu s]=.ok .non:=by
 have e:=unheld B.toWeb S O.toNbr U (k:=k) h g;rw[hu]at e;have e6:tu []=.tup []:=rfl;rw[e6]at e;rw[qd pR];simp only[cW];generalize wb m ts=WB at *;generalize tu s=TS at *;simp[KG.Z,jC,e]
theorem BP{a:Int}{r:List Int}(hu:un m ts s=a::r):qc p (k+7) "need_all" [wb m ts,tu s]=.ex ⟨"NotAll",[("place",a)]⟩:=by
 have e:=unheld B.toWeb S O.toNbr U (k:=k) h g;rw[hu]at e;have e2:truth (tu (a::r))=.ok true:=rfl;have e3:=pP a r;have e4:p.fld "NotAll" = some [aJ "place"]:=by kernel_rfl
 have e5:jM [aJ "place"] "NotAll" [.int a]=.ex ⟨"NotAll",[("place",a)]⟩:=rfl;have e6:tu (a::r)=.tup (.int a::r.map D.int):=rfl;rw[e6]at e e3;rw[qd pR];simp only[cW];generalize wb m ts=WB at *;generalize tu s=TS at *;generalize r.map D.int=RD at *;simp[KG.Z,jC,zN,e,e3,e4,e5]
theorem BM{a:Int}{r:List Int}(hu:un m ts s=a::r)(d:D):qc p (k+8) "is_paper" [wb m ts,tu s,d]=.ex ⟨"NotAll",[("place",a)]⟩:=by
 have z1:=need_web B.toWeb (k:=k+3) h;have z2:qc p (k+7) "need_some" [wb m ts,tu s]=.ok .non:=need_some B.toWeb S (k:=k+2) (t:=.tup (ts.map prD)) g;have z3:=BP (k:=k) h g hu;rw[qd km];refine uZ (τ:=[some (wb m ts),some (tu s),some d]) rfl rfl ?_;generalize wb m ts=WB at *;generalize tu s=TS at *;simp[KG.Z,gQ,z1,z2,z3]
theorem xU(hu:un m ts s=[]){d:D}(ho:Odd m d):qc p (k+8) "is_paper" [wb m ts,tu s,d]=.ok (.bl false):=by
 have z1:=need_web B.toWeb (k:=k+3) h;have z2:qc p (k+7) "need_some" [wb m ts,tu s]=.ok .non:=need_some B.toWeb S (k:=k+2) (t:=.tup (ts.map prD)) g;have z3:=pC (k:=k) h g hu;have z4:qc p (k+7) "is_some" [wb m ts,d]=.ok (.bl false):=ho.1 _ (k+3);generalize wb m ts=WB at *;generalize tu s=TS at *;rw[qd km];refine qk rfl rfl ?_;simp[KG.Z,gQ,z1,z2,z3,z4]
theorem vx(hu:un m ts s=[]){t:List Int}(g':GS m t):qc p (k+8) "is_paper" [wb m ts,tu s,tu t]=.ok (.bl (decide ((t.length:Int)=s.length)&&ap m ts t)):=by
 have z1:=need_web B.toWeb (k:=k+3) h;have z2:qc p (k+7) "need_some" [wb m ts,tu s]=.ok .non:=need_some B.toWeb S (k:=k+2) (t:=.tup (ts.map prD)) g;have z3:=pC (k:=k) h g hu;have z4:qc p (k+7) "is_some" [wb m ts,tu t]=.ok (.bl true):=KG.is_some B.toWeb S (k:=k+3) (t:=.tup (ts.map prD)) g';have z5:=vR (k:=k+1) h g';have z6:=dz s;have z7:=dz t;have z8:=eq_int (t.length:Int) (s.length:Int);generalize wb m ts=WB at *;generalize ap m ts t=AP at *;generalize tu s=TS at *;generalize tu t=TT at *;by_cases q:(t.length:Int)=s.length
 ·rw[decide_eq_true q]at z8 ⊢;generalize (s.length:Int)=N at *;generalize (t.length:Int)=M at *;rw[qd km];refine qk rfl rfl ?_;simp[KG.Z,gQ,z1,z2,z3,z4,z5,z6,z7,z8]
 ·rw[decide_eq_false q]at z8 ⊢;generalize (s.length:Int)=N at *;generalize (t.length:Int)=M at *;rw[qd km];refine qk rfl rfl ?_;simp[KG.Z,gQ,z1,z2,z3,z4,z6,z7,z8]
end
abbrev miss(a:Int):D:=.tup [.str "all",.int a]
theorem pW{k:Nat}{a b d r:D}(e:qc p k "is_paper" [a,b,d]=.ok r):qc p (k+1) "_law_told" [a,b,d]=.ok r:=by
 rw[qd nM];refine qk (τ:=[some a,some b,some d,none]) rfl rfl ?_;simp[KG.Z,mw,zI,e]
theorem DS{k:Nat}{a b d:D}{x:Int}(e:qc p k "is_paper" [a,b,d]=.ex ⟨"NotAll",[("place",x)]⟩):qc p (k+1) "_law_told" [a,b,d]=.ok (miss x):=by
 have hc:p.cat "NotAll" "NotAll" = true:=by kernel_rfl
 have he:evE ⟨qc p k,p.glb,p.sub,p.cat,p.fld⟩ (.fld (.var 3) "place") [none,none,none,some (.exn ⟨"NotAll",[("place",x)]⟩)]=.ok (.int x):=by
  have:jK ⟨qc p k,p.glb,p.sub,p.cat,p.fld⟩ "place" (.exn ⟨"NotAll",[("place",x)]⟩)=.ok (.int x):=by kernel_rfl
  exact this
 rw[qd nM];refine qk (τ:=[some a,some b,some d,none]) rfl rfl ?_;have b':qe ⟨qc p k,p.glb,p.sub,p.cat,p.fld⟩ (.cons (.ret (.call "is_paper" (.cons (.var 0) (.cons (.var 1) (.cons (.var 2) .nil))))) .nil) [some a,some b,some d,none]=.ex ⟨"NotAll",[("place",x)]⟩:=by
  simp[KG.Z,e]
 show qe _ (.cons (.try (.cons (.ret (.call "is_paper" _)) .nil) "NotAll" (some 3) _) .nil) _=_;rw[qe,zI,b'];simp only[hc,if_true,dR];simp[KG.Z,he,O.rtOnly,miss]
theorem xN{m:Int}{ts:List (Int×Int)}(h:GW m ts){n H:Nat}(hH:∀i,H.testBit i=hold m ts n i):∃R:Nat,cw (((2^m.toNat:Nat):Int)-1) (bE (H:Int))=(R:Int)/\bs m R=un m ts (bs m n):=by
 have h1:=h.lo;have hp:=Nat.two_pow_pos m.toNat;have Gg:H%2^m.toNat<2^m.toNat:=Nat.mod_lt _ hp;refine⟨2^m.toNat-(H%2^m.toNat+1),?_,?_⟩
 ·have a1:(0:Int)<=((2^m.toNat:Nat):Int)-1:=by lia
  have a2:¬ (0:Int)<=bE (H:Int):=by simp[bE];lia
  have a3:bE (bE (H:Int))=(H:Int):=by simp[bE];lia
  have a4:(((2^m.toNat:Nat):Int)-1).toNat=2^m.toNat-1:=by lia
  have a5:(2^m.toNat-1) &&& H=H%2^m.toNat:=by rw[Nat.and_comm,Nat.and_two_pow_sub_one_eq_mod]
  unfold cw;rw[decide_eq_true a1,decide_eq_false a2];simp only;rw[a3,a4,Int.toNat_natCast,a5];lia
 ·rw[bs,un];refine List.filter_congr λi hi=>?_
  obtain⟨i0,im⟩:=dY.mp hi;obtain⟨j,rfl⟩:∃j:Nat,i=j:=⟨i.toNat,by lia⟩
  have hj:j<m.toNat:=by lia
  rw[Int.toNat_natCast,Nat.testBit_two_pow_sub_succ Gg,Nat.testBit_mod_two_pow,hH];have e:=l7 h n j im;cases z:hold m ts n j with
  |true=>
   rw[z]at e;have:¬ (mk m ts (bs m n) (j:Int)=[]):=λq=>by have:=e.mp q;cases this
   simp[hj,this]
  |false=>
   rw[z]at e;simp[hj,e.mpr rfl]
def Row(m:Int)(d:D):Prop:=∃n,n<2^m.toNat/\d=tu (bs m n)
theorem D_(m:Int):bs m (2^m.toNat-1)=rng m:=by
 rw[bs,List.filter_eq_self];intro i hi;have:=dY.mp hi;rw[Nat.testBit_two_pow_sub_one];simp;lia
theorem BZ(m:Int):bs m 0=[]:=by rw[bs,List.filter_eq_nil_iff];simp
theorem xx(a:Int):qh .ne (miss a) (miss a)=.ok false:=by
 have e:(miss a).asks=true:=by simp[miss,D.asks,D.plain,plainAll,D.deep,fR];decide +kernel
 have q:(miss a).eqv (miss a)=true:=by simp[miss,D.eqv,eqvAll]
 show (if (miss a).asks&&(miss a).asks then R.ok (!(miss a).eqv (miss a))else .no)=_;rw[e,q];rfl
abbrev RS(m:Int)(ts:List (Int×Int))(c:Int)(N:List Nat)(w f:List Int)(rows things:List D)(T:Str)(v4 v10 v11 G0 GC:Option D):Env:=[some (wb m ts),some (.int c),some (.int m),some (ln N),v4,some (tu w),some (tu f),some (.lst rows),some (.lst things),some (.str T),v10,v11,G0,GC]
theorem Fu{k:Nat}{m:Int}{ts:List (Int×Int)}(h:GW m ts){N:List Nat}(hN:fk m ts N){c:Int}{w f:List Int}{rows things:List D}{T:Str}{s:List Int}(g:GS m s){d:D}(hd:Th m d)(G0 GC:Option D){J:Env->Prop}{Q:D->Prop}
  (hJ:∀G0 GC,J (RS m ts c N w f rows things T (some (tu s)) (some (tu (un m ts s))) (some d) G0 GC)) :
  Ends J Q (qe (wAt p (k+9)) (.cons (.set (.nm 12) (.ite (.cmp .ne (.var 10) (.tup .nil)) (.tup (.cons (.con (.str "all")) (.cons (.ix (.var 10) (.con (.int 0))) .nil))) (.con (.bl false)))) (.cons (.ite (.and (.cmp .eq (.var 10) (.tup .nil)) (.and (.val (.call "_law_is_some" (.cons (.var 2) (.cons (.var 11) .nil)))) (.cmp .eq (.bi .len (.cons (.var 11) .nil)) (.bi .len (.cons (.var 4) .nil))))) (.cons (.set (.nm 12) (.call "_law_apart" (.cons (.var 3) (.cons (.var 11) .nil)))) .nil) .nil) (.cons (.set (.nm 13) (.call "_law_told" (.cons (.var 0) (.cons (.var 4) (.cons (.var 11) .nil))))) (.cons (.ite (.or (.cmp .ne (.var 13) (.var 12)) (.and (.val (.isi (.var 12) (.ty "bool"))) (.not (.val (.isi (.var 13) (.ty "bool")))))) (.cons (.ret (.con (.bl false))) .nil) .nil) .nil)))) (RS m ts c N w f rows things T (some (tu s)) (some (tu (un m ts s))) (some d) G0 GC)):=by
 have ib:∀(w:W) (b:Bool),cC w (.bl b) (.ty "bool")=.ok (.bl true):=λ_ _=>rfl
 have im:∀(w:W) (a:Int),cC w (miss a) (.ty "bool")=.ok (.bl false):=λ_ _=>rfl
 cases hu:un m ts s with
 |cons a r=>
  rw[hu]at hJ;have e1:=DS (BM (k:=k) h g hu d);have e2:qh .ne (tu (a::r)) (.tup [])=.ok true:=kM (a::r) [];have e3:qh .eq (tu (a::r)) (.tup [])=.ok false:=rj (a::r) [];have e4:=pP a r;have e5:=xx a;have e6:=im (wAt p (k+9)) a;refine zj (σ:=RS m ts c N w f rows things T (some (tu s)) (some (tu (a::r))) (some d) (some (miss a)) GC) ?_ ?_
  ·dsimp only[RS,ln];generalize (List.map (λ(x:Nat)=>D.int (x:Int)) N)=LN at *;generalize tu (a::r)=U at *;simp[KG.Z,qy,e2,e4,miss]
  refine zj (σ:=RS m ts c N w f rows things T (some (tu s)) (some (tu (a::r))) (some d) (some (miss a)) GC) ?_ ?_
  ·dsimp only[RS,ln];generalize (List.map (λ(x:Nat)=>D.int (x:Int)) N)=LN at *;generalize miss a=MI at *;generalize tu (a::r)=U at *;simp[KG.Z,e3]
  refine zj (σ:=RS m ts c N w f rows things T (some (tu s)) (some (tu (a::r))) (some d) (some (miss a)) (some (miss a))) ?_ ?_
  ·dsimp only[RS,ln];generalize (List.map (λ(x:Nat)=>D.int (x:Int)) N)=LN at *;generalize miss a=MI at *;generalize wb m ts=WB at *;generalize tu s=TS at *;simp[KG.Z,e1]
  refine zj (σ:=RS m ts c N w f rows things T (some (tu s)) (some (tu (a::r))) (some d) (some (miss a)) (some (miss a))) ?_ (zv (hJ _ _))
  ·dsimp only[RS,ln];generalize (List.map (λ(x:Nat)=>D.int (x:Int)) N)=LN at *;generalize miss a=MI at *;simp[KG.Z,e5,e6]
 |nil=>
  rw[hu]at hJ;have e2:qh .ne (tu []) (.tup [])=.ok false:=kM [] [];have e3:qh .eq (tu []) (.tup [])=.ok true:=rj [] [];refine zj (σ:=RS m ts c N w f rows things T (some (tu s)) (some (tu [])) (some d) (some (.bl false)) GC) ?_ ?_
  ·dsimp only[RS,ln];generalize (List.map (λ(x:Nat)=>D.int (x:Int)) N)=LN at *;generalize tu []=U at *;simp[KG.Z,qy,e2]
  obtain⟨b,Pp,Ng⟩:∃b:Bool,evS (wAt p (k+9)) (.ite (.and (.cmp .eq (.var 10) (.tup .nil)) (.and (.val (.call "_law_is_some" (.cons (.var 2) (.cons (.var 11) .nil)))) (.cmp .eq (.bi .len (.cons (.var 11) .nil)) (.bi .len (.cons (.var 4) .nil))))) (.cons (.set (.nm 12) (.call "_law_apart" (.cons (.var 3) (.cons (.var 11) .nil)))) .nil) .nil) (RS m ts c N w f rows things T (some (tu s)) (some (tu [])) (some d) (some (.bl false)) GC)=.nx (RS m ts c N w f rows things T (some (tu s)) (some (tu [])) (some d) (some (.bl b)) GC)/\qc p (k+9) "_law_told" [wb m ts,tu s,d]=.ok (.bl b):=by
   rcases hd.1 with ho|⟨t,rfl,gt⟩
   ·refine⟨false,?_,pW (xU (k:=k) h g hu ho)⟩;have e4:=ho.2 (k+7);dsimp only[RS,ln];generalize (List.map (λ(x:Nat)=>D.int (x:Int)) N)=LN at *;generalize tu []=U at *;simp[KG.Z,e3,e4]
   ·have e4:=pL (k:=k+7) (m:=m) gt.len;rw[decide_eq_true (show GI m t from ⟨gt.lt,gt.ok⟩)]at e4;have e5:=oO (k:=k+8) h hN gt;have e6:=dz s;have e7:=dz t;have e8:=eq_int (t.length:Int) (s.length:Int);refine⟨_,?_,pW (vx (k:=k) h g hu gt)⟩;dsimp only[RS,ln];dsimp only[ln]at e5;generalize (List.map (λ(x:Nat)=>D.int (x:Int)) N)=LN at *;generalize ap m ts t=AP at *;generalize tu []=U at *;generalize tu s=TS at *;generalize tu t=TT at *;by_cases q:(t.length:Int)=s.length
    ·rw[decide_eq_true q]at e8 ⊢;generalize (s.length:Int)=N1 at *;generalize (t.length:Int)=M1 at *;simp[KG.Z,e3,e4,e5,e6,e7,e8]
    ·rw[decide_eq_false q]at e8 ⊢;generalize (s.length:Int)=N1 at *;generalize (t.length:Int)=M1 at *;simp[KG.Z,e3,e4,e6,e7,e8]
  have e5:=ya b b;refine zj Pp ?_;refine zj (σ:=RS m ts c N w f rows things T (some (tu s)) (some (tu [])) (some d) (some (.bl b)) (some (.bl b))) ?_ ?_
  ·dsimp only[RS,ln];generalize (List.map (λ(x:Nat)=>D.int (x:Int)) N)=LN at *;generalize wb m ts=WB at *;generalize tu s=TS at *;simp[KG.Z,Ng]
  refine zj (σ:=RS m ts c N w f rows things T (some (tu s)) (some (tu [])) (some d) (some (.bl b)) (some (.bl b))) ?_ (zv (hJ _ _))
  ·dsimp only[RS,ln];generalize (List.map (λ(x:Nat)=>D.int (x:Int)) N)=LN at *;simp[KG.Z,e5,ib]
theorem uk(s:List Int):slD (tu s) (some 1) none=.ok (tu (s.drop 1)):=by
 show R.ok (D.tup (cutD (s.map D.int) (some 1) none))=_
 congr 2
 rw[cutD,bG,<-List.map_drop,<-List.map_take]
 congr 1
 cases s with
 |nil=>rfl
 |cons a r=>
  have h1:HT.sIx (a::r).length 0 (some 1)=1:=by simp[HT.sIx]
  have h2:HT.sIx (a::r).length (a::r).length none=(a::r).length:=rfl;rw[h1,h2];exact List.take_of_length_le (by simp)
theorem xE{k:Nat}{m:Int}{ts:List (Int×Int)}(h:GW m ts)(c:Int):qc p (k+11) "_law_right" [wb m ts,.int c]=.ok (.bl true):=by
 have h1:=h.lo;have h2:=h.hi;have hp:=ki (m:=m.toNat) (by lia);have Nv:=Nat.two_pow_pos m.toNat;have KA:op2 .shl (.int 1) (.int m)=.ok (.int ((2^m.toNat:Nat):Int)):=by
  show opI .shl 1 m=_;rw[iB m (by lia) (by lia),iO]
 have ex:ixD (wb m ts) (.int 0)=.ok (.int m):=rfl;obtain⟨w,r,hw,Pq⟩:=uz (sX h);obtain⟨nw,NG,ew⟩:∃n,n<2^m.toNat/\w=bs m n:=iC h1 h2 (bN.mp Pq).1;obtain⟨a0,r0,Pt⟩:=mY h;have NH:hl m ts≠[]:=by rw[Pt];simp
 obtain⟨f,r1,hf,NC⟩:=FZ NH;have Pu:f∈hl m ts:=by
  have:f∈few (hl m ts):=by rw[hf];exact aQ
  exact(bN.mp this).1
 obtain⟨nf,Pw,ef⟩:∃n,n<2^m.toNat/\f=bs m n:=iC h1 h2 (bN.mp Pu).1;obtain⟨N,hN,e0⟩:=ub O (k:=k+9) h;have f1:=yH (k:=k+3) h hw;have f2:=fewest B.toWeb O.toNbr Fb (k:=k) h hf;have f3:=vK (k:=k+9) f1 f2;obtain⟨d,e,rfl⟩:∃d,qc p (k+11) "_law_right" [wb m ts,.int c]=.ok d/\d=.bl true:=by
  refine gZ (k:=k+10) (τ:=[some (wb m ts),some (.int c),none,none,none,none,none,none,none,none,none,none,none,none]) vZ rfl rfl ?_;refine zj (σ:=[some (wb m ts),some (.int c),some (.int m),none,none,none,none,none,none,none,none,none,none,none]) (by simp[KG.Z,ex]) ?_;refine zj (σ:=[some (wb m ts),some (.int c),some (.int m),some (ln N),none,none,none,none,none,none,none,none,none,none]) (by simp[KG.Z,e0]) ?_;have hc:evE (wAt p (k+10)) (.comp (.seq (.call "_law_all" (.cons (.var 2) .nil))) [none,none,some 3] (.nm 1) (.val (.call "_law_apart" (.cons (.var 2) (.cons (.var 1) .nil)))) (.var 1)) [some (wb m ts),some (.int c),some (.int m),some (ln N),none,none,none,none,none,none,none,none,none,none]=.ok (.lst ((ul m ts).map tu)):=by
   refine fU (f:=tu) (c:=[some (ln N)]) (ap m ts) tu (dQ ?_) ?_ rfl ?_
   ·simp[KG.Z,mL B si (k:=k+8) h1 h2]
   ·have:=sub_len h2;simp[SZ];lia
   ·intro s hs;obtain⟨n,hn,rfl⟩:=iC h1 h2 hs;refine⟨?_,λ_=>rfl⟩;rw[eA,qz];show ((qc p (k+10) "_law_apart" [ln N,tu (bs m n)]).bind _)=_;rw[oO (k:=k+9) h hN (gp h2 n)];rfl
  have e3:=Aq (k:=k+9) (sX h) (uA h) hw;have e4:=vG B O tH si pH u9 (k:=k+7) h;have e5:=yR (k:=k+9) NH (o7 h) hf;refine zj (σ:=[some (wb m ts),some (.int c),some (.int m),some (ln N),none,some (tu w),none,none,none,none,none,none,none,none]) ?_ ?_
  ·rw[zr,qz,qD,hc];simp only[R.bind_ok,qD];show (qc p (k+10) "_law_most" [.lst ((ul m ts).map tu)]).out _=_;rw[e3];rfl
  refine zj (σ:=[some (wb m ts),some (.int c),some (.int m),some (ln N),none,some (tu w),some (tu f),none,none,none,none,none,none,none]) ?_ ?_
  ·have e4:qc p (k+10) "_law_holding" [wb m ts]=_:=e4;have e5:qc p (k+10) "_law_least" [.lst ((hl m ts).map tu)]=_:=e5;dsimp only[ln];generalize (List.map (λ(x:Nat)=>D.int (x:Int)) N)=LN at *;generalize D.lst ((hl m ts).map tu)=HL at *;generalize wb m ts=WB at *;generalize tu w=TW at *;simp[KG.Z,e4,e5]
  refine zj (σ:=[some (wb m ts),some (.int c),some (.int m),some (ln N),none,some (tu w),some (tu f),none,none,none,none,none,none,none]) ?_ ?_
  ·have g1:=dz w;have g2:=dz f;have g3:=eq_int (w.length:Int) (f.length:Int);have fp:qc p (k+10) "paper_for" [wb m ts]=_:=f3;clear f3;have g4:qh .ne (if (w.length:Int)=f.length then tu w else .non) (if (w.length:Int)=f.length then tu w else .non)=.ok false:=by
    by_cases q:(w.length:Int)=f.length
    ·rw[if_pos q,kM];simp
    ·rw[if_neg q];rfl
   dsimp only[ln];generalize (List.map (λ(x:Nat)=>D.int (x:Int)) N)=LN at *;generalize wb m ts=WB at *;by_cases q:(w.length:Int)=f.length
   ·rw[decide_eq_true q]at g3;rw[if_pos q]at fp g4;generalize (w.length:Int)=N1 at *;generalize (f.length:Int)=N2 at *;generalize tu w=TW at *;generalize tu f=TF at *;simp[KG.Z,qy,fp,g1,g2,g3,g4]
   ·rw[decide_eq_false q]at g3;rw[if_neg q]at fp g4;generalize (w.length:Int)=N1 at *;generalize (f.length:Int)=N2 at *;generalize tu w=TW at *;generalize tu f=TF at *;simp[KG.Z,qy,fp,g1,g2,g3,g4]
  have hm:qr m=true:=by simp[qr];lia
  refine zj (σ:=[some (wb m ts),some (.int c),some (.int m),some (ln N),none,some (tu w),some (tu f),some (.lst [tu f,tu (rng m),tu w,.tup []]),none,none,none,none,none,none]) ?_ ?_
  ·have er:evE (wAt p (k+10)) (.rtup (.rng (.var 2))) [some (wb m ts),some (.int c),some (.int m),some (ln N),none,some (tu w),some (tu f),none,none,none,none,none,none,none]=.ok (tu (rng m)):=by
    rw[qI,evI,qo];simp only[zD,List.getElem?_cons_succ,List.getElem?_cons_zero,R.bind_ok,hm,if_true,zK]
   rw[zr,qB,qD,qD,er];generalize tu (rng m)=TR at *;generalize tu w=TW at *;generalize tu f=TF at *;simp[KG.Z]
  have a0:=Int.emod_nonneg (st c 7) (show ((2^m.toNat:Nat):Int)≠0 by lia);have a1:=Int.emod_lt_of_pos (st c 7) (show (0:Int)<((2^m.toNat:Nat):Int)by lia);obtain⟨nd,HF⟩:∃n:Nat,st c 7%((2^m.toNat:Nat):Int)=n:=⟨_,(Int.toNat_of_nonneg a0).symm⟩
  have Mz:nd<2^m.toNat:=by lia
  refine zj (σ:=[some (wb m ts),some (.int c),some (.int m),some (ln N),none,some (tu w),some (tu f),some (.lst [tu f,tu (rng m),tu w,.tup [],tu (bs m nd)]),none,none,none,none,none,none]) ?_ ?_
  ·have z1:op2 .mod (.int (st c 7)) (.int ((2^m.toNat:Nat):Int))=.ok (.int (nd:Int)):=by
    show opI .mod _ _=_;rw[opI,if_pos (by lia),HF]
   have z2:=stir B (k:=k+9) c 7;have z3:=l8 B (k:=k+9) (m:=m) (by lia) h2 nd;have z4:([tu f,tu (rng m),tu w,.tup []]:List D).length<SZ:=by simp[SZ]
   dsimp only[ln];generalize (List.map (λ(x:Nat)=>D.int (x:Int)) N)=LN at *;generalize ((2^m.toNat:Nat):Int)=Y at *;generalize st c 7=Q at *;generalize tu (bs m nd)=TD at *;generalize tu (rng m)=TR at *;generalize tu w=TW at *;generalize tu f=TF at *;simp[KG.Z,z1,z2,z3,z4,KA,SZ]
  obtain⟨o1,q1,t1⟩:=oV (k:=k+8) h1 h2 c;obtain⟨o2,q2,t2⟩:=oV (k:=k+8) h1 h2 (c+1);have gw:GS m w:=by rw[ew];exact gp h2 nw
  have Il:slD (tu w) (some 1) none=.ok (tu (w.drop 1)):=uk w;generalize Jw:([tu f,tu (rng m),tu w,.tup [],tu (bs m nd)]:List D)=rows;obtain⟨things,Jx⟩:∃t:List D,t=rows++[.lst (w.map D.int),tu w.reverse,tu (w.drop 1),o1,o2]:=⟨_,rfl⟩
  have KD:rows.length=5:=by rw[<-Jw];rfl
  have Hu:∀d∈rows,Row m d:=by
   rw[<-Jw];simp only[List.forall_mem_cons];exact⟨⟨nf,Pw,by rw[ef]⟩,⟨2^m.toNat-1,by lia,by rw[D_]⟩,⟨nw,NG,by rw[ew]⟩,⟨0,Nv,by rw[BZ];rfl⟩,⟨nd,Mz,rfl⟩,by simp⟩
  have fw:=mJ h1 h2 NG;rw[<-ew]at fw;have Kj:∀d∈things,Th m d:=by
   have row:∀d,Row m d->Th m d:=λd ⟨n,hn,e⟩=>by rw[e];exact gG (gp h2 n).len (mJ h1 h2 hn).1
   have Px:=gw.len;rw[Jx];intro d hd;rcases List.mem_append.mp hd with hd|hd
   ·exact row d (Hu d hd)
   ·have hx:∀d∈([.lst (w.map D.int),tu w.reverse,tu (w.drop 1),o1,o2]:List D),Th m d:=by
     simp only[List.forall_mem_cons];exact⟨⟨.inl ⟨λt k=>pe B.toWeb S.a rfl _,λk=>r_ rfl _⟩,fw.2.1⟩,gG (by simpa using Px) fw.2.2.1,gG (by simp;lia) fw.2.2.2,t1,t2,by simp⟩
    exact hx d hd
  obtain⟨T,MA,Py⟩:∃T,b1 .repr [.lst things]=.ok (.str T)/\qh .eq (.str T) (.str T)=.ok true:=by
   have e:things=tu f::[tu (rng m),tu w,.tup [],tu (bs m nd),.lst (w.map D.int),tu w.reverse,tu (w.drop 1),o1,o2]:=by rw[Jx,<-Jw];rfl
   rw[e]at Kj ⊢;exact D1 (m:=m) (by simp) Kj
  refine zj (σ:=[some (wb m ts),some (.int c),some (.int m),some (ln N),none,some (tu w),some (tu f),some (.lst rows),some (.lst things),none,none,none,none,none]) ?_ ?_
  ·have z1:b1 .list [tu w]=.ok (.lst (w.map D.int)):=rfl;have z2:(w.map D.int).reverse=w.reverse.map D.int:=by rw[List.map_reverse]
   have z3:op2 .add (.int c) (.int 1)=.ok (.int (c+1)):=rfl;have z4:∀xs ys:List D,xs.length+ys.length<=100->op2 .add (.lst xs) (.lst ys)=.ok (.lst (xs++ys)):=λxs ys q=>by rw[op2,if_pos ⟨rfl,by simp[SZ];lia⟩]
   have z5:=z4 rows [.lst (w.map D.int),tu w.reverse,tu (w.drop 1),o1,o2] (by simp[KD]);have er:evE (wAt p (k+10)) (.rev (.var 5)) [some (wb m ts),some (.int c),some (.int m),some (ln N),none,some (tu w),some (tu f),some (.lst rows),none,none,none,none,none,none]=.ok (tu w.reverse):=by
    rw[qM,qo];simp only[zD,List.getElem?_cons_succ,List.getElem?_cons_zero,R.bind_ok];show R.ok (D.tup _)=_;rw[z2]
   have q1:qc p (k+10) "_law_odd_some" [.int m,.int c]=.ok o1:=q1;have q2:qc p (k+10) "_law_odd_some" [.int m,.int (c+1)]=.ok o2:=q2;rw[Jx];clear Kj Hu MA Jx Jw KD;generalize rows=RW at *;generalize D.lst (w.map D.int)=LW at *;generalize tu w.reverse=RV at *;generalize tu (w.drop 1)=DR at *;have Pz:evE (wAt p (k+10)) (.lst (.cons (.bi .list (.cons (.var 5) .nil)) (.cons (.rev (.var 5)) (.cons (.sl (.var 5) (.some (.con (.int 1))) .none) (.cons (.call "_law_odd_some" (.cons (.var 2) (.cons (.var 1) .nil))) (.cons (.call "_law_odd_some" (.cons (.var 2) (.cons (.op .add (.var 1) (.con (.int 1))) .nil))) .nil)))))) [some (wb m ts),some (.int c),some (.int m),some (ln N),none,some (tu w),some (tu f),some (.lst RW),none,none,none,none,none,none]=.ok (.lst [LW,RV,DR,o1,o2]):=by
    rw[qB,qD,qD,er];dsimp only[ln];generalize (List.map (λ(x:Nat)=>D.int (x:Int)) N)=LN at *;generalize tu w=TW at *;simp[KG.Z,z1,z3,Il,q1,q2]
   rw[zr,qT,Pz,zb];simp only[zD,List.getElem?_cons_succ,List.getElem?_cons_zero,R.bind_ok,z5]
   rfl
  refine zj (σ:=RS m ts c N w f rows things T none none none none none) ?_ ?_
  ·dsimp only[RS,ln];clear Kj Hu Jx Jw KD;generalize rows=RW at *;generalize things=TH at *;generalize (List.map (λ(x:Nat)=>D.int (x:Int)) N)=LN at *;generalize tu w=TW at *;generalize tu f=TF at *;simp[KG.Z,MA]
  clear Jx Jw KD;generalize things=TH at *;generalize rows=RW at *;refine fv (ds:=RW) (λr σ=>∃v4 v10 v11 G0 GC,(∀d∈r,Row m d)/\σ=RS m ts c N w f RW TH T v4 v10 v11 G0 GC) (dQ rfl) ⟨none,none,none,none,none,Hu,rfl⟩ ?_ ?_
  ·rintro x t σ ⟨v4,v10,v11,G0,GC,hx,rfl⟩;obtain⟨n,hn,rfl⟩:=hx x aQ;refine⟨RS m ts c N w f RW TH T (some (tu (bs m n))) v10 v11 G0 GC,rfl,?_⟩;obtain⟨H,hH,i1⟩:=oZ pH (k:=k+9) hN n;obtain⟨Rm,hR,eR⟩:=xN h hH;have i0:=rY B tH (k:=k+9) h1 h2 hn;have i2:=l8 B (k:=k+9) (m:=m) (by lia) h2 Rm;rw[eR]at i2;have z2:op2 .sub (.int ((2^m.toNat:Nat):Int)) (.int 1)=.ok (.int (((2^m.toNat:Nat):Int)-1)):=rfl;have z3:op2 .band (.int (((2^m.toNat:Nat):Int)-1)) (.int (bE (H:Int)))=.ok (.int (Rm:Int)):=by
    show R.ok (D.int (cw _ _))=_;rw[hR]
   refine zj (σ:=RS m ts c N w f RW TH T (some (tu (bs m n))) (some (tu (un m ts (bs m n)))) v11 G0 GC) ?_ ?_
   ·dsimp only[RS,ln];dsimp only[ln]at i1;generalize (List.map (λ(x:Nat)=>D.int (x:Int)) N)=LN at *;generalize tu (un m ts (bs m n))=UN at *;generalize tu (bs m n)=BN at *;generalize (((2^m.toNat:Nat):Int)-1)=Y1 at *;generalize ((2^m.toNat:Nat):Int)=Y at *;simp[KG.Z,zg,i0,i1,i2,z2,z3,KA]
   refine fv (ds:=TH) (λr σ=>∃v11 G0 GC,(∀d∈r,Th m d)/\σ=RS m ts c N w f RW TH T (some (tu (bs m n))) (some (tu (un m ts (bs m n)))) v11 G0 GC) (dQ rfl) ⟨v11,G0,GC,Kj,rfl⟩ ?_ ?_
   ·rintro d t' σ ⟨v11,G0,GC,hd,rfl⟩;refine⟨RS m ts c N w f RW TH T (some (tu (bs m n))) (some (tu (un m ts (bs m n)))) (some d) G0 GC,rfl,?_⟩;exact Fu (k:=k+1) h hN (gp h2 n) (hd d aQ) G0 GC λG0 GC=>⟨_,_,_,λy hy=>hd y (aO _ hy),rfl⟩
   ·rintro σ ⟨v11,G0,GC,_,rfl⟩;exact zv ⟨_,_,_,_,_,λy hy=>hx y (aO _ hy),rfl⟩
  ·rintro σ ⟨v4,v10,v11,G0,GC,_,rfl⟩;refine fZ (d:=.bl true) ?_ rfl;dsimp only[RS,ln];generalize (List.map (λ(x:Nat)=>D.int (x:Int)) N)=LN at *;generalize tu w=TW at *;generalize tu f=TF at *;simp[KG.Z,MA,Py]
 exact e
noncomputable def depth:Nat:=12
theorem u_{w:W}(ns:List Int)(hn:ns.length<=63)(hc:∃x:Int,w.call "_law_cell_at" [.lst (ns.map D.int),.int 0]=.ok (.int x))
  (hw:∀c:Int,∃ts,GW (1+c%8) ts/\w.call "_law_web" [.int c,.int 8]=.ok (wb (1+c%8) ts))
  (hr:∀(m:Int) (ts:List (Int×Int)) (c:Int),GW m ts->w.call "_law_right" [wb m ts,.int c]=.ok (.bl true)):Ends (λ_=>False) (λd=>d=.bl true) (qe w jn.body [some (.lst (ns.map D.int)),none]):=by
 have r0:w.call "_law_right" [.tup [.int 1,.tup []],.int 0]=.ok (.bl true):=hr 1 [] 0 (by decide +kernel);have r1:w.call "_law_right" [.tup [.int 4,.tup [.tup [.int 0,.int 1],.tup [.int 0,.int 3],.tup [.int 1,.int 2],.tup [.int 2,.int 3]]],.int 1]=.ok (.bl true):=hr 4 [(0,1),(0,3),(1,2),(2,3)] 1 (by decide +kernel);refine zj (σ:=[some (.lst (ns.map D.int)),none]) (by simp[KG.Z,r0,r1]) ?_;obtain⟨cs,HA,HB⟩:=CZ ns (some 1) (some 4);obtain⟨x,hx⟩:=hc;refine fv (ds:=(x::cs).map D.int) (λr σ=>∃(ms:List Int) (v1:Option D),r=ms.map D.int/\σ=[some (.lst (ns.map D.int)),v1]) ?_ ⟨_,none,rfl,rfl⟩ ?_ ?_
 ·have e:op2 .add (.lst [.int x]) (.lst (cs.map D.int))=.ok (.lst ((x::cs).map D.int)):=by
   rw[op2,if_pos (by simp[SZ];lia)];simp
  simp[KG.Z,slD,HA,hx,e,seq?]
 ·rintro y t σ ⟨ms,v1,e,rfl⟩;obtain⟨c,ms,rfl,rfl,rfl⟩:=fx e;refine⟨[some (.lst (ns.map D.int)),some (.int c)],rfl,?_⟩;obtain⟨ts,g,NI⟩:=hw c;have r2:=hr (1+c%8) ts c g;refine zj (σ:=[some (.lst (ns.map D.int)),some (.int c)]) ?_ (zv ⟨ms,_,rfl,rfl⟩);generalize wb (1+c%8) ts=WB at r2 NI ⊢;simp[KG.Z,NI,r2]
 ·rintro σ ⟨ms,v1,e,rfl⟩;exact fZ (d:=.bl true) (by simp[KG.Z]) rfl
theorem BY{w:W}{f:Fn}{ds:List D}{τ:Env}{Q:D->Prop}(hl:ds.length=f.ps)(hτ:ds.map some++bR (f.N-f.ps) none=τ)(h:Ends (λ_=>False) Q (qe w f.body τ)):∃d,cW w f ds=.ok d/\Q d:=by
 rw[cW,if_pos hl,hτ];cases z:qe w f.body τ with
 |rt d=>rw[z]at h;exact⟨d,rfl,h⟩
 |nx _=>rw[z]at h;exact h.elim
 |_=>rw[z]at h;exact h.elim
theorem Bk{F:Str->List D->R D}(ns:List Int)(hn:ns.length<=63)(hc:∃x:Int,F "_law_cell_at" [.lst (ns.map D.int),.int 0]=.ok (.int x))
  (hw:∀c:Int,∃ts,GW (1+c%8) ts/\F "_law_web" [.int c,.int 8]=.ok (wb (1+c%8) ts))
  (hr:∀(m:Int) (ts:List (Int×Int)) (c:Int),GW m ts->F "_law_right" [wb m ts,.int c]=.ok (.bl true)):cW ⟨F,p.glb,p.sub,p.cat,p.fld⟩ jn [.lst (ns.map D.int)]=.ok (.bl true):=by
 obtain⟨d,e,rfl⟩:=BY (w:=⟨F,p.glb,p.sub,p.cat,p.fld⟩) (f:=jn) (ds:=[.lst (ns.map D.int)]) rfl rfl (u_ (w:=⟨F,p.glb,p.sub,p.cat,p.fld⟩) ns hn hc hw hr);exact e
theorem AA:∀ns:List Int,ns.length<=63->qc p depth "law" [.lst (ns.map D.int)]=.ok (.bl true):=by
 intro ns hn;rw[show depth=11+1 from rfl,qd Bm];exact Bk ns hn (wY B (k:=10) ns) (λc=>BO B.draw (k:=9) 8 c (by decide)) λm ts c g=>xE (k:=0) g c
end K22
namespace K22
open PySem PySem.Spec PyProof.Rows L2 EV
theorem sP:∀e∈tab,cFn G (gE us oth) e.own e.fr e.st=some e.fn:=by
 intro e he;simp only[tab,aP,cY,or_false]at he;rcases he with rfl|rfl|rfl|rfl|rfl|rfl|rfl|rfl|rfl|rfl|rfl|rfl|rfl|rfl|rfl|rfl|rfl|rfl|rfl|rfl|rfl|rfl|rfl|rfl|rfl|rfl|rfl|rfl|rfl|rfl|rfl|rfl|rfl|rfl|rfl|rfl|rfl|rfl|rfl|rfl|rfl|rfl|rfl|rfl|rfl|rfl<;>kernel_rfl
theorem Aw:∀e∈us,e∈tab:=by
 intro e he;cases he
theorem w6:∀e∈us,rQ (fD oth) e.own e.fr e.st=some e.fn:=by
 intro e he;cases he
theorem nd:(tab.map (·.x)).Nodup:=by decide +kernel
section
variable{K:az}{h:Heap}{mg:Str->Option ae}{f0:Addr}(d0:WB.Dd K "is_whole" (top 6) f0){f1:Addr}(d1:WB.Dd K "is_between" (top 7) f1){f2:Addr}(d2:WB.Dd K "is_pair" (top 8) f2){f3:Addr}(d3:WB.Dd K "rises" (top 9) f3){f4:Addr}(d4:WB.Dd K "is_web" (top 12) f4){f5:Addr}(d5:WB.Dd K "is_tie" (top 13) f5){f6:Addr}(d6:WB.Dd K "need_web" (top 14) f6){f7:Addr}(d7:WB.Dd K "is_place" (top 15) f7){f8:Addr}(d8:WB.Dd K "hoods" (top 16) f8){f9:Addr}(d9:WB.Dd K "hood_of" (top 17) f9){Iy:Addr}(KH:WB.Dd K "are_tied" (top 18) Iy){PC:Addr}(KI:WB.Dd K "is_some" (top 20) PC){PD:Addr}(KJ:WB.Dd K "need_some" (top 21) PD){PF:Addr}(KL:WB.Dd K "need_all" (top 22) PF){PH:Addr}(KN:WB.Dd K "unheld" (top 23) PH){PJ:Addr}(KO:WB.Dd K "mark_of" (top 24) PJ){PK:Addr}(KP:WB.Dd K "marks_of" (top 25) PK){PL:Addr}(KQ:WB.Dd K "places_marked" (top 26) PL){PM:Addr}(KR:WB.Dd K "all_some" (top 27) PM){PN:Addr}(KS:WB.Dd K "all_holding" (top 28) PN){PQ:Addr}(KU:WB.Dd K "fewest" (top 30) PQ){PR:Addr}(KW:WB.Dd K "first_fewest" (top 31) PR){PU:Addr}(KY:WB.Dd K "all_fewest" (top 32) PU){PV:Addr}(KZ:WB.Dd K "is_apart" (top 33) PV){PX:Addr}(K0:WB.Dd K "first_apart" (top 34) PX){PY:Addr}(K1:WB.Dd K "is_paper" (top 35) PY){PZ:Addr}(K2:WB.Dd K "paper_for" (top 36) PZ){P0:Addr}(K3:WB.Dd K "is_apart_by" (top 37) P0){P4:Addr}(K4:WB.Dd K "_law_cell_at" (top 39) P4){P5:Addr}(K5:WB.Dd K "_law_stir" (top 40) P5){P6:Addr}(K6:WB.Dd K "_law_whole" (top 41) P6){P7:Addr}(K7:WB.Dd K "_law_web" (top 42) P7){P8:Addr}(K8:WB.Dd K "_law_masks" (top 43) P8){P9:Addr}(K9:WB.Dd K "_law_some" (top 44) P9){P_:Addr}(K_:WB.Dd K "_law_mask" (top 45) P_){P':Addr}(K':WB.Dd K "_law_held" (top 46) P'){Qa:Addr}(La:WB.Dd K "_law_all" (top 47) Qa){Qb:Addr}(Lb:WB.Dd K "_law_holding" (top 48) Qb){Qc:Addr}(Lc:WB.Dd K "_law_apart" (top 49) Qc){Qd:Addr}(Ld:WB.Dd K "_law_most" (top 50) Qd){Qe:Addr}(Le:WB.Dd K "_law_least" (top 51) Qe){Qf:Addr}(Lf:WB.Dd K "_law_odd_some" (top 52) Qf){Qg:Addr}(Lg:WB.Dd K "_law_is_some" (top 53) Qg){Qh:Addr}(Lh:WB.Dd K "_law_told" (top 54) Qh){Qi:Addr}(Li:WB.Dd K "_law_right" (top 55) Qi){Qj:Addr}(Lj:WB.Dd K "law" (top 56) Qj)
include d0 d1 d2 d3 d4 d5 d6 d7 d8 d9 KH KI KJ KL KN KO KP KQ KR KS KU KW KY KZ K0 K1 K2 K3 K4 K5 K6 K7 K8 K9 K_ K' La Lb Lc Ld Le Lf Lg Lh Li Lj
theorem B6:∀e∈tab,jf K G e:=by
 intro e he;simp only[tab,aP,cY,or_false]at he;rcases he with rfl|rfl|rfl|rfl|rfl|rfl|rfl|rfl|rfl|rfl|rfl|rfl|rfl|rfl|rfl|rfl|rfl|rfl|rfl|rfl|rfl|rfl|rfl|rfl|rfl|rfl|rfl|rfl|rfl|rfl|rfl|rfl|rfl|rfl|rfl|rfl|rfl|rfl|rfl|rfl|rfl|rfl|rfl|rfl|rfl|rfl<;>refine⟨⟨_,by assumption⟩,λ_ _ _ _ _ _ us hl=>?_⟩<;>first|(obtain⟨_,rfl⟩:=WB.t_ hl;rfl)|(obtain⟨_,_,rfl⟩:=WB.mv hl;rfl)|(obtain⟨_,_,_,rfl⟩:=WB.xa hl;rfl)
omit d0 d1 d2 d3 d4 d5 d6 d7 d8 d9 KH KI KJ KL KN KO KP KQ KR KS KU KW KY KZ K0 K1 K2 K3 K4 K5 K6 K7 K8 K9 K_ K' La Lb Lc Ld Le Lf Lg Lh Li Lj
theorem ma{x:Str}{k:GK}(h:oth.lookup x=some k):∃y∈oth,x=y.1/\k=y.2:=by
 generalize oth=l at h ⊢
 induction l with
 |nil=>cases h
 |cons a r ih=>
  rw[bw]at h;split at h
  ·rename_i q;cases h;exact⟨a,aQ,eq_of_beq q,rfl⟩
  ·obtain⟨y,h1,h2⟩:=ih h;exact⟨y,aO _ h1,h2⟩
theorem yI{K:az}{C0:Addr}(k0:aI K aC "NoWeb" = some (some (.ref C0)))(x0:PySem.W.excIn K C0 dk "ValueError.__new__" = true){C1:Addr}(k1:aI K aC "NoPlaces" = some (some (.ref C1)))(x1:PySem.W.excIn K C1 dk "ValueError.__new__" = true){C2:Addr}(k2:aI K aC "NotAll" = some (some (.ref C2))){MC:Tok}(u0:aI K aC "MOST" = some (some (.int 8 MC)))(z0:aI K aC "len" = some none)(z1:aI K aC "tuple" = some none)(z2:aI K aC "list" = some none)(z3:aI K aC "int" = some none)(z4:aI K aC "bool" = some none)(z5:aI K aC "sorted" = some none)(z6:aI K aC "all" = some none)(z7:aI K aC "min" = some none)(z8:aI K aC "max" = some none)(z9:aI K aC "sum" = some none)(MD:aI K aC "repr" = some none)(ME:aI K aC "range" = some none)(MF:aI K aC "enumerate" = some none)(MG:aI K aC "zip" = some none)(MJ:aI K aC "isinstance" = some none):∀x k,oth.lookup x=some k->mW K vals x k:=by
 intro x k h;obtain⟨y,h1,rfl,rfl⟩:=ma h;simp only[oth,aP,cY,or_false]at h1;rcases h1 with rfl|rfl|rfl|rfl|rfl|rfl|rfl|rfl|rfl|rfl|rfl|rfl|rfl|rfl|rfl|rfl|rfl|rfl|rfl
 ·exact⟨_,k0,x0⟩
 ·exact⟨_,k1,x1⟩
 ·exact⟨_,k2⟩
 ·exact⟨_,.int 8,.int 8,u0,⟨_,rfl⟩,rfl,λg H _=>.int _⟩
 ·exact⟨z0,rfl,_,rfl⟩
 ·exact⟨z1,by decide +kernel,by simp,by simp[b1N,b1V]⟩
 ·exact⟨z2,by decide +kernel,by simp,by simp[b1N,b1V]⟩
 ·exact⟨z3,by decide +kernel,by simp,by simp[b1N,b1V]⟩
 ·exact⟨z4,by decide +kernel,by simp,by simp[b1N,b1V]⟩
 ·exact⟨z5,rfl,_,rfl⟩
 ·exact⟨z6,rfl,_,rfl⟩
 ·exact⟨z7,rfl,_,rfl⟩
 ·exact⟨z8,rfl,_,rfl⟩
 ·exact⟨z9,rfl,_,rfl⟩
 ·exact⟨MD,rfl,_,rfl⟩
 ·exact⟨ME,rfl⟩
 ·exact⟨MF,rfl⟩
 ·exact⟨MG,rfl⟩
 ·exact⟨MJ,rfl⟩
theorem Fq:∀x fr,oth.lookup x≠some (.fn fr):=by
 intro x fr h;obtain⟨y,h1,rfl,h2⟩:=ma h;simp only[oth,aP,cY,or_false]at h1;rcases h1 with rfl|rfl|rfl|rfl|rfl|rfl|rfl|rfl|rfl|rfl|rfl|rfl|rfl|rfl|rfl|rfl|rfl|rfl|rfl<;>cases h2
theorem BX:∀x,(oth.lookup x=some .exc\/oth.lookup x=some .exk\/oth.lookup x=some .exf)->([aJ "NoWeb",aJ "NoPlaces",aJ "NotAll"]:List Str).contains x=true:=by
 intro x h;rcases h with h|h|h<;>obtain⟨y,h1,rfl,h2⟩:=ma h<;>simp only[oth,aP,cY,or_false]at h1<;>rcases h1 with rfl|rfl|rfl|rfl|rfl|rfl|rfl|rfl|rfl|rfl|rfl|rfl|rfl|rfl|rfl|rfl|rfl|rfl|rfl<;>first|(cases h2;done)|decide +kernel
theorem uE{K:az}{C0:Addr}(k0:aI K aC "NoWeb" = some (some (.ref C0))){C1:Addr}(k1:aI K aC "NoPlaces" = some (some (.ref C1))){C2:Addr}(k2:aI K aC "NotAll" = some (some (.ref C2)))(w0:cz K (.ref C2) (.ref C2)=some true):∀y∈dh,∃C D,aI K aC y.1=some (some (.ref C))/\aI K aC y.2=some (some (.ref D))/\cz K (.ref C) (.ref D)=some true:=by
 intro y h1;simp only[dh,aP,cY,or_false]at h1;rcases h1 with rfl
 ·exact⟨_,_,k2,k2,w0⟩
theorem xA{K:az}{C0:Addr}(k0:aI K aC "NoWeb" = some (some (.ref C0))){C1:Addr}(k1:aI K aC "NoPlaces" = some (some (.ref C1))){C2:Addr}(k2:aI K aC "NotAll" = some (some (.ref C2)))(y0:fh K C2)(v0:PySem.W.subIn K (.ref C2) (.type "ValueError")=some true):∀y∈subs,ny K [aJ "NoWeb",aJ "NoPlaces",aJ "NotAll"] y:=by
 intro y h1;simp only[subs,aP,cY,or_false]at h1;rcases h1 with rfl
 ·exact⟨_,_,by decide +kernel,k2,y0,WB.Fe v0,rfl,rfl⟩
theorem AY{K:az}{C2:Addr}(k2:aI K aC "NotAll" = some (some (.ref C2))){I0:Addr}(e0:dn K C2 I0 [aJ "place"])(g0:fT K I0 [aJ "place"]):∀y∈zE,nL K y:=by
 intro y h1;simp only[zE,aP,cY,or_false]at h1;rcases h1 with rfl
 ·exact⟨_,_,k2,e0,g0,by decide,by simp⟩
include d0 d1 d2 d3 d4 d5 d6 d7 d8 d9 KH KI KJ KL KN KO KP KQ KR KS KU KW KY KZ K0 K1 K2 K3 K4 K5 K6 K7 K8 K9 K_ K' La Lb Lc Ld Le Lf Lg Lh Li Lj
theorem all_mk(X:K.In h)(N:h.Ns aC mg){C0:Addr}(k0:aI K aC "NoWeb" = some (some (.ref C0)))(x0:PySem.W.excIn K C0 dk "ValueError.__new__" = true){C1:Addr}(k1:aI K aC "NoPlaces" = some (some (.ref C1)))(x1:PySem.W.excIn K C1 dk "ValueError.__new__" = true){C2:Addr}(k2:aI K aC "NotAll" = some (some (.ref C2))){MC:Tok}(u0:aI K aC "MOST" = some (some (.int 8 MC)))(z0:aI K aC "len" = some none)(z1:aI K aC "tuple" = some none)(z2:aI K aC "list" = some none)(z3:aI K aC "int" = some none)(z4:aI K aC "bool" = some none)(z5:aI K aC "sorted" = some none)(z6:aI K aC "all" = some none)(z7:aI K aC "min" = some none)(z8:aI K aC "max" = some none)(z9:aI K aC "sum" = some none)(MD:aI K aC "repr" = some none)(ME:aI K aC "range" = some none)(MF:aI K aC "enumerate" = some none)(MG:aI K aC "zip" = some none)(MJ:aI K aC "isinstance" = some none)(w0:cz K (.ref C2) (.ref C2)=some true)(y0:fh K C2)(v0:PySem.W.subIn K (.ref C2) (.type "ValueError")=some true){I0:Addr}(e0:dn K C2 I0 [aJ "place"])(g0:fT K I0 [aJ "place"]):Ground p (gOf K (tab.map (·.x)) [aJ "NoWeb",aJ "NoPlaces",aJ "NotAll"]) G (gE us oth) (fD oth) mg/\jf K G iA:=
 have A:=B6 d0 d1 d2 d3 d4 d5 d6 d7 d8 d9 KH KI KJ KL KN KO KP KQ KR KS KU KW KY KZ K0 K1 K2 K3 K4 K5 K6 K7 K8 K9 K_ K' La Lb Lc Ld Le Lf Lg Lh Li Lj
 ⟨Br X N rfl nd (yI k0 x0 k1 x1 k2 u0 z0 z1 z2 z3 z4 z5 z6 z7 z8 z9 MD ME MF MG MJ) Fq Aw w6 sP A _ (uE k0 k1 k2 w0) BX (xA k0 k1 k2 y0 v0) (AY k2 e0 g0),A iA (by simp[tab])⟩
end
theorem walk{l:PySem.W.OpenLaw}{q:aF}{loose:List Str}{XP:(Str->Option ae)->Heap->Prop}{YP:aB->Heap->Prop}{d:DefRec}{K:Params->az}(hn:l.most=some 63)(IM:d.params.defaults=[])(hd:d.name = "law")(hY:∀(w:aB) (h:Heap),YP w h->(K w.params).In h)
  (hG:∀(w:aB) (mg:Str->Option ae) (h:Heap),(K w.params).In h->h.Ns aC mg->Ground p (gOf (K w.params) (tab.map (·.x)) [aJ "NoWeb",aJ "NoPlaces",aJ "NotAll"]) G (gE us oth) (fD oth) mg/\jf (K w.params) G iA):PySem.W.WalkO q loose XP YP l.row.toRowW d [] (λf vs=>PySem.call f vs):=
 BD (e:=iA) (k:=depth) hn IM hd ⟨rfl,by decide,by decide,rfl⟩ hY (by simp[tab]) nd rfl rfl (by kernel_rfl) hG (sP iA (by simp[tab])) AA
end K22
end
open PySem PySem.W PyProof.Rows
namespace PySem.W.Fast
def t0:Nat:=0
theorem te8152566772138495687:t0=0:=rfl
theorem te16717868849121604888:t0=0:=rfl
theorem te8346560550278255207:t0=0:=rfl
theorem te1284954784550292865:t0=0:=rfl
theorem te18094590602992198228:t0=0:=rfl
theorem te3624998155934253526:t0=0:=rfl
theorem te8450657154595706651:t0=0:=rfl
theorem te5614895961307421640:t0=0:=rfl
theorem te16220938848305601709:t0=0:=rfl
theorem te678008480058065898:t0=0:=rfl
theorem te15731803076633192259:t0=0:=rfl
theorem te11433201532472804909:t0=0:=rfl
theorem te3043146755867201653:t0=0:=rfl
theorem te4800855433515504023:t0=0:=rfl
theorem te16629931288500741106:t0=0:=rfl
theorem te6911582521893399345:t0=0:=rfl
theorem te4111692999415122267:t0=0:=rfl
theorem te16493602560070185022:t0=0:=rfl
theorem te10508315297335132021:t0=0:=rfl
theorem te5424179443649444445:t0=0:=rfl
theorem te15301654612702372127:t0=0:=rfl
theorem te4725468608093751040:t0=0:=rfl
theorem te16817173770365172571:t0=0:=rfl
theorem te1540864530149592068:t0=0:=rfl
theorem te1177008636312493937:t0=0:=rfl
theorem te4243821563804293057:t0=0:=rfl
theorem te7592306718326676765:t0=0:=rfl
theorem te5199771253090783683:t0=0:=rfl
theorem te11129760799634922802:t0=0:=rfl
theorem te4190528405511142061:t0=0:=rfl
theorem te6063777482347588510:t0=0:=rfl
theorem te10372522892807705288:t0=0:=rfl
theorem te8567961194479336135:t0=0:=rfl
theorem te6891354728260355073:t0=0:=rfl
theorem te13924259574308527862:t0=0:=rfl
theorem te14468917654457210790:t0=0:=rfl
theorem te2970861900179917674:t0=0:=rfl
theorem te9537483112377614830:t0=0:=rfl
theorem te4584471512971691624:t0=0:=rfl
theorem te4854345670250774145:t0=0:=rfl
theorem te11431954024545122725:t0=0:=rfl
theorem te249573787892200999:t0=0:=rfl
theorem te11388093876819684013:t0=0:=rfl
theorem te12129827268001923750:t0=0:=rfl
theorem te17721643682395018561:t0=0:=rfl
theorem te11328550162369478872:t0=0:=rfl
theorem te1945466821887409503:t0=0:=rfl
theorem te9095135498911755141:t0=0:=rfl
theorem te17174638630792830337:t0=0:=rfl
theorem te12752611739621281599:t0=0:=rfl
theorem te9320333236669971535:t0=0:=rfl
theorem te11743990219508235936:t0=0:=rfl
theorem te14016903424901647985:t0=0:=rfl
theorem te1703443845485687002:t0=0:=rfl
theorem te1778515116701658278:t0=0:=rfl
theorem te9771410175841786559:t0=0:=rfl
theorem te2715096778693053691:t0=0:=rfl
theorem te12723290878735825057:t0=0:=rfl
theorem te25057704713432475:t0=0:=rfl
theorem te6828704281856713467:t0=0:=rfl
theorem te8157065740482866398:t0=0:=rfl
theorem te9863162432572024366:t0=0:=rfl
theorem te14821405071434269163:t0=0:=rfl
theorem te16474536069930601097:t0=0:=rfl
theorem te1565677223465110743:t0=0:=rfl
theorem te4116990600086218820:t0=0:=rfl
theorem te10865988562396188127:t0=0:=rfl
theorem te695873862227763064:t0=0:=rfl
theorem te7241968148791742830:t0=0:=rfl
theorem te13561205416216051734:t0=0:=rfl
theorem te10380595979492338425:t0=0:=rfl
theorem te6444464693550095842:t0=0:=rfl
theorem te13311977353317050118:t0=0:=rfl
theorem te15249768816254306657:t0=0:=rfl
theorem te6866759740511031956:t0=0:=rfl
theorem te12081367740309088985:t0=0:=rfl
theorem te18439620079309409537:t0=0:=rfl
theorem te11495691370303025170:t0=0:=rfl
theorem te9378152297922782269:t0=0:=rfl
theorem te5660766194468172554:t0=0:=rfl
theorem te16330966789817070623:t0=0:=rfl
theorem te14498681184608728645:t0=0:=rfl
theorem te5499441459252172163:t0=0:=rfl
theorem te7823803658229399007:t0=0:=rfl
theorem te6412691486686064465:t0=0:=rfl
theorem te17520078552030387538:t0=0:=rfl
theorem te5593089580088526390:t0=0:=rfl
theorem te252404708901800198:t0=0:=rfl
theorem te2499282426736748656:t0=0:=rfl
theorem te15679700543063077374:t0=0:=rfl
theorem te12829300064782611822:t0=0:=rfl
theorem te15823466869071870931:t0=0:=rfl
theorem te12882147207659621510:t0=0:=rfl
theorem te7889373856946818102:t0=0:=rfl
theorem te18310746550491515463:t0=0:=rfl
theorem te13605654317219737231:t0=0:=rfl
theorem te6630598890841621953:t0=0:=rfl
theorem te12579593828166443939:t0=0:=rfl
theorem te11892320085518955420:t0=0:=rfl
theorem te3031024340474047723:t0=0:=rfl
theorem te13722982773869873894:t0=0:=rfl
theorem te7718507798163957080:t0=0:=rfl
theorem te18118438206799416585:t0=0:=rfl
theorem te17740168332058651982:t0=0:=rfl
theorem te5890294800787422271:t0=0:=rfl
theorem te9297712536865143685:t0=0:=rfl
theorem te12091334397237049155:t0=0:=rfl
theorem te10007723153484593873:t0=0:=rfl
theorem te7925268055049048348:t0=0:=rfl
theorem te2774989604779939943:t0=0:=rfl
theorem te17446550984157765942:t0=0:=rfl
theorem te5793167088154453468:t0=0:=rfl
theorem te9421262965312602210:t0=0:=rfl
theorem te8894430517346378381:t0=0:=rfl
theorem te4984131872908223523:t0=0:=rfl
theorem te5594752640786945733:t0=0:=rfl
theorem te4583213639862963470:t0=0:=rfl
theorem te10629642699209595824:t0=0:=rfl
theorem te1035359231171640607:t0=0:=rfl
theorem te8924061445616745034:t0=0:=rfl
theorem te2497522962829653495:t0=0:=rfl
theorem te5840196833837291079:t0=0:=rfl
theorem te18275761988426750941:t0=0:=rfl
theorem te12493657110789620217:t0=0:=rfl
theorem te12673791751579514627:t0=0:=rfl
theorem te6344809280511550885:t0=0:=rfl
theorem te8661044370049206489:t0=0:=rfl
theorem te11218195647070488015:t0=0:=rfl
theorem te1575312817639056896:t0=0:=rfl
theorem te16759692939774397351:t0=0:=rfl
theorem te17851016149269561430:t0=0:=rfl
theorem te18151289331468831945:t0=0:=rfl
theorem te7180634627890262456:t0=0:=rfl
theorem te12185501860915569942:t0=0:=rfl
theorem te5829116050923877401:t0=0:=rfl
theorem te11088224218632393922:t0=0:=rfl
theorem te12414576234356444839:t0=0:=rfl
theorem te10422280500859130894:t0=0:=rfl
theorem te190461495183146866:t0=0:=rfl
theorem te17258735887989715958:t0=0:=rfl
theorem te6337726483942437766:t0=0:=rfl
theorem te17634107735275760534:t0=0:=rfl
theorem te9597241131648870268:t0=0:=rfl
theorem te15185438869115118008:t0=0:=rfl
theorem te4276316820479338135:t0=0:=rfl
theorem te6581359768515842925:t0=0:=rfl
theorem te4802487614009530206:t0=0:=rfl
theorem te17245908205801298338:t0=0:=rfl
theorem te12226280625358443797:t0=0:=rfl
theorem te8577024666750159733:t0=0:=rfl
theorem te3570527867310635550:t0=0:=rfl
theorem te11491198168195380382:t0=0:=rfl
theorem te17723699574325016926:t0=0:=rfl
theorem te603223349659551118:t0=0:=rfl
theorem te506414355212772054:t0=0:=rfl
theorem te862619266094835214:t0=0:=rfl
theorem te13513055249344934302:t0=0:=rfl
theorem te7718286962639988356:t0=0:=rfl
theorem te9990947472844694306:t0=0:=rfl
theorem te2714065821326350294:t0=0:=rfl
theorem te8788823173948467514:t0=0:=rfl
theorem te1299086505720856823:t0=0:=rfl
theorem te13953609818724159324:t0=0:=rfl
theorem te6176891513735533213:t0=0:=rfl
theorem te12610730268481514834:t0=0:=rfl
theorem te5776457550086244182:t0=0:=rfl
theorem te4405155211279492594:t0=0:=rfl
theorem te3377158032990673011:t0=0:=rfl
theorem te15661287356750899608:t0=0:=rfl
theorem te3416940600824637716:t0=0:=rfl
theorem te848283834292166428:t0=0:=rfl
theorem te13743424329412317735:t0=0:=rfl
theorem te16596041556506271963:t0=0:=rfl
theorem te15994161738972208856:t0=0:=rfl
theorem te4430582278609358908:t0=0:=rfl
theorem te3744371728514203388:t0=0:=rfl
theorem te13058617719200121847:t0=0:=rfl
theorem te11241881774354435902:t0=0:=rfl
theorem te11922381163310399154:t0=0:=rfl
theorem te15783464994633412501:t0=0:=rfl
theorem te10963845873737508251:t0=0:=rfl
theorem te15930387966769542609:t0=0:=rfl
theorem te13620727439957022725:t0=0:=rfl
theorem te9200987347036317614:t0=0:=rfl
theorem te17222423637619650192:t0=0:=rfl
theorem te3898274811706035819:t0=0:=rfl
theorem te4696519891672234343:t0=0:=rfl
theorem te3185951286483264537:t0=0:=rfl
theorem te15736566006371628262:t0=0:=rfl
theorem te2415570223278920540:t0=0:=rfl
theorem te14938053222192151604:t0=0:=rfl
theorem te2935694245766290979:t0=0:=rfl
theorem te11392034633556496319:t0=0:=rfl
theorem te1082186637159647642:t0=0:=rfl
theorem te15420332217604666604:t0=0:=rfl
theorem te8763755120019864791:t0=0:=rfl
theorem te13210309179399427728:t0=0:=rfl
theorem te8334592129358507964:t0=0:=rfl
end PySem.W.Fast
set_option maxRecDepth 100000 in
set_option maxHeartbeats 0 in
theorem PySem.Challenge.cw_holdplaces_k22_papers_that_no_fewer_hold_holds : PySem.Challenge.rw_holdplaces_k22_papers_that_no_fewer_hold.Holds := by
 w_on;o_law;k_head;(case hw=>w_witness2)
 k_fill
 refine K22.walk (l:=PySem.Challenge.rw_holdplaces_k22_papers_that_no_fewer_hold) rfl rfl rfl (λw h Y=>PySem.W.kIn_of Y) ?F
 case F=>
  intro w mg h KX N
  refine' K22.all_mk (WB.qA ?_ ?_ ?_ ?_) (WB.qA ?_ ?_ ?_ ?_) (WB.qA ?_ ?_ ?_ ?_) (WB.qA ?_ ?_ ?_ ?_) (WB.qA ?_ ?_ ?_ ?_) (WB.qA ?_ ?_ ?_ ?_) (WB.qA ?_ ?_ ?_ ?_) (WB.qA ?_ ?_ ?_ ?_) (WB.qA ?_ ?_ ?_ ?_) (WB.qA ?_ ?_ ?_ ?_) (WB.qA ?_ ?_ ?_ ?_) (WB.qA ?_ ?_ ?_ ?_) (WB.qA ?_ ?_ ?_ ?_) (WB.qA ?_ ?_ ?_ ?_) (WB.qA ?_ ?_ ?_ ?_) (WB.qA ?_ ?_ ?_ ?_) (WB.qA ?_ ?_ ?_ ?_) (WB.qA ?_ ?_ ?_ ?_) (WB.qA ?_ ?_ ?_ ?_) (WB.qA ?_ ?_ ?_ ?_) (WB.qA ?_ ?_ ?_ ?_) (WB.qA ?_ ?_ ?_ ?_) (WB.qA ?_ ?_ ?_ ?_) (WB.qA ?_ ?_ ?_ ?_) (WB.qA ?_ ?_ ?_ ?_) (WB.qA ?_ ?_ ?_ ?_) (WB.qA ?_ ?_ ?_ ?_) (WB.qA ?_ ?_ ?_ ?_) (WB.qA ?_ ?_ ?_ ?_) (WB.qA ?_ ?_ ?_ ?_) (WB.qA ?_ ?_ ?_ ?_) (WB.qA ?_ ?_ ?_ ?_) (WB.qA ?_ ?_ ?_ ?_) (WB.qA ?_ ?_ ?_ ?_) (WB.qA ?_ ?_ ?_ ?_) (WB.qA ?_ ?_ ?_ ?_) (WB.qA ?_ ?_ ?_ ?_) (WB.qA ?_ ?_ ?_ ?_) (WB.qA ?_ ?_ ?_ ?_) (WB.qA ?_ ?_ ?_ ?_) (WB.qA ?_ ?_ ?_ ?_) (WB.qA ?_ ?_ ?_ ?_) (WB.qA ?_ ?_ ?_ ?_) (WB.qA ?_ ?_ ?_ ?_) (WB.qA ?_ ?_ ?_ ?_) (WB.qA ?_ ?_ ?_ ?_) KX N ?_ ?_ ?_ ?_ ?_ ?_ ?_ ?_ ?_ ?_ ?_ ?_ ?_ ?_ ?_ ?_ ?_ ?_ ?_ ?_ ?_ (WB.vS ?w0_1 ?w0_2 ?w0_3 ?w0_4) (WB.m5 ?s0_1 ?s0_2 ?s0_3 ?s0_4 ?s0_5 ?s0_6) ?v0 (L2.BG (WB.m5 ?_ ?_ ?_ ?_ ?_ ?_) ?_ ?_ ?_ ?_ (L2.uC ?_)) (L2.yE (st:=L2.Ea (K22.top 4) 0) (self:="self") ?_ ?_ (by kernel_rfl) (λus hl=>by obtain⟨_,_,rfl⟩:=WB.mv hl;rfl))
  any_goals k_is
  any_goals k_exc
#print axioms PySem.Challenge.cw_holdplaces_k22_papers_that_no_fewer_hold_holds
