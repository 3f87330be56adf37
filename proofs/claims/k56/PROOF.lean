import PyProof.Rows.All
import Wide.All
import OpenK.AllK
import Wide.FinOn
import Lean
import PyProof.EqAt
import PyProof.EqKinds
import PyProof.TupleCall
import PyProof.Rows.Range3
import PyProof.Rows.FStr
import PyProof.Rows.ListMulArg
import KE.KSortTup
import KE.LcSums
import PyProof.SeqI3
import KE.KMinBuiltin
import PyProof.ListRange
import PyProof.TupleOfSeq
import PySem.Challenge.RW_holdplaces_k56_whole_lines_and_webs_alik
set_option Elab.async false
set_option bootstrap.genMatcherCode false
set_option maxHeartbeats 8000000
set_option maxRecDepth 100000
set_option linter.all false
noncomputable section
set_option Elab.async false
namespace L2
open PySem PySem.Spec PyProof.Rows
abbrev Key:=Sum Int Str
noncomputable def qmV:Key→Value→Bool
 | .inl k,v=>Value.isInt k v
 | .inr x,v=>Value.isStrOf x v
noncomputable def qsj(w:World):Key→Int
 | .inl k=>hashInt k
 | .inr x=>hashStr w x
theorem zE:∀{k:Key}{v:Value},qmV k v=true→(∃i t,k=Sum.inl i∧v=Value.int i t)∨(∃x t,k=Sum.inr x∧v=Value.str x t)
 | .inl i,v,h=>by
  obtain⟨t,e⟩:=Value.isInt_shape (k:=i) (v:=v) h;exact .inl ⟨i,t,rfl,e⟩
 | .inr x,v,h=>by
  obtain⟨t,e⟩:=Value.isStrOf_shape (x:=x) (v:=v) h;exact .inr ⟨x,t,rfl,e⟩
theorem qoB(a b:Int):decide ((Sum.inl a:Key)=Sum.inl b)=(a==b):=by
 by_cases e:a=b
 ·subst e;simp
 ·have h:¬ (Sum.inl a:Key)=Sum.inl b:=fun q=>e (Sum.inl.inj q)
  rw [decide_eq_false h];exact(beq_eq_false_iff_ne.mpr e).symm
theorem qqN(a b:Str):decide ((Sum.inr a:Key)=Sum.inr b)=decide (a=b):=by
 by_cases e:a=b
 ·subst e;simp
 ·have h:¬ (Sum.inr a:Key)=Sum.inr b:=fun q=>e (Sum.inr.inj q)
  rw [decide_eq_false h,decide_eq_false e]
theorem qpw(a:Int)(b:Str):decide ((Sum.inl a:Key)=Sum.inr b)=false:=decide_eq_false (fun q=>nomatch q)
theorem qpK(a:Str)(b:Int):decide ((Sum.inr a:Key)=Sum.inl b)=false:=decide_eq_false (fun q=>nomatch q)
noncomputable def qfk(prog:Program)(w:World):PySem.KeyKind prog w Key where
 is:=qmV
 hash:=qsj w
 inj:=fun v a b ha hb=>by
  rcases zE ha with ⟨i,t,rfl,rfl⟩|⟨x,t,rfl,rfl⟩
  ·rcases zE hb with ⟨j,u,rfl,e⟩|⟨y,u,rfl,e⟩
   ·injection e with e1 _;rw [e1]
   ·exact nomatch e
  ·rcases zE hb with ⟨j,u,rfl,e⟩|⟨y,u,rfl,e⟩
   ·exact nomatch e
   ·injection e with e1 _;rw [e1]
 byValue:=fun k v h=>by
  rcases zE h with ⟨i,t,rfl,rfl⟩|⟨x,t,rfl,rfl⟩<;>rfl
 pyHash:=fun hv h=>by
  rcases zE hv with ⟨i,t,rfl,rfl⟩|⟨x,t,rfl,rfl⟩
  ·exact wpAny_pyHash_int h
  ·exact wpAny_pyHash_str h
 eqBool:=fun hu hv h=>by
  rcases zE hu with ⟨i,t,rfl,rfl⟩|⟨x,t,rfl,rfl⟩
  ·rcases zE hv with ⟨j,u,rfl,rfl⟩|⟨y,u,rfl,rfl⟩
   ·rw [qoB]at h;exact wpAny_eqBool_int h
   ·rw [qpw]at h;exact SeqAt.EqAt.int_str i t y u _ _ _ _ h
  ·rcases zE hv with ⟨j,u,rfl,rfl⟩|⟨y,u,rfl,rfl⟩
   ·rw [qpK]at h;exact SeqAt.EqAt.str_int x t j u _ _ _ _ h
   ·rw [qqN]at h;exact wpAny_eqBool_str h
 «strs»:=fun k x t v h=>by
  rcases zE h with ⟨i,u,rfl,e⟩|⟨y,u,rfl,e⟩
  ·exact nomatch e
  ·injection e with e1 _
   subst e1;cases v<;>rfl
inductive V where
 |non|bl (b:Bool)|int (i:Int)|str (x:Str)|byt (b:Array UInt8)|flt (b:UInt64)|ref (a:Addr)|ty (n:String)
 deriving DecidableEq
noncomputable def RelV:V→Value→Prop
 | .non,u=>u=Value.none
 | .bl b,u=>u=Value.bool b
 | .int i,u=>∃t,u=Value.int i t
 | .str x,u=>∃t,u=Value.str x t
 | .byt b,u=>∃t,u=Value.bytes b t
 | .flt b,u=>∃t,u=Value.float b t
 | .ref a,u=>u=Value.ref a
 | .ty n,u=>u=Value.type n
abbrev Vals:List V→List Value→Prop:=Paired RelV
theorem Vals.length{xs:List V}{us:List Value}(r:Vals xs us):xs.length=us.length:=Paired.length r
theorem Vals.get:∀{xs:List V}{us:List Value}{i:Nat}{x:V},Vals xs us→xs[i]? = some x→∃u,us[i]? = some u∧RelV x u
 |_,_,_,_,.nil,e=>by simp at e
 |_,_,0,_,.cons r _,e=>by simp at e;subst e;exact⟨_,rfl,r⟩
 |_,_,i+1,x,.cons _ t,e=>by
  obtain⟨u,h1,h2⟩:=Vals.get (i:=i) (x:=x) t (by simpa using e);exact⟨u,by simpa using h1,h2⟩
theorem Vals.set{x:V}{u:Value}(r:RelV x u):∀{xs:List V}{us:List Value} (i:Nat),Vals xs us→Vals (xs.set i x) (us.set i u)
 |_,_,_,.nil=>.nil
 |_,_,0,.cons _ t=>.cons r t
 |_,_,i+1,.cons q t=>.cons q (Vals.set r i t)
theorem Vals.append:∀{xs ys:List V}{us ws:List Value},Vals xs us→Vals ys ws→Vals (xs++ys) (us++ws)
 |_,_,_,_,.nil,s=>s
 |_,_,_,_,.cons r t,s=>.cons r (Vals.append t s)
theorem Vals.take:∀{xs:List V}{us:List Value} (n:Nat),Vals xs us→Vals (xs.take n) (us.take n)
 |_,_,0,_=>.nil
 |_,_,_+1,.nil=>.nil
 |_,_,n+1,.cons r t=>.cons r (Vals.take n t)
theorem Vals.drop:∀{xs:List V}{us:List Value} (n:Nat),Vals xs us→Vals (xs.drop n) (us.drop n)
 |_,_,0,r=>r
 |_,_,_+1,.nil=>.nil
 |_,_,n+1,.cons _ t=>Vals.drop n t
noncomputable def qlJ:Option V→Option Value→Prop
 |some v,some u=>RelV v u
 |none,none=>True
 |_,_=>False
noncomputable def KV{κ:Type}:List (κ×V)→List (κ×Value)→Prop:=Paired fun(p:κ×V) (q:κ×Value)=>p.1=q.1∧RelV p.2 q.2
noncomputable def kV:Key→V
 | .inl i=>.int i
 | .inr x=>.str x
inductive HO where
 |lst (xs:List V)
 |tup (xs:List V)
 |dK (kvs:List (Key×V))|dT (kvs:List (List Key×V))
 |set (S:Int→Bool) (n:Nat)
 |ins (C dx:Addr) (fs:List (Str×V))
 |own (x:Addr)
 |xd (fs:List (Str×V))
 |met (f x:Addr)
 |rng (lo hi:Int)
 |frz (o:Obj) (u:HO)
 |tbl (ps:Array Value)
 |ext (φ:Heap→Prop)
abbrev Hp:=Addr→Option HO
noncomputable def upd(H:Hp)(a:Addr)(o:HO):Hp:=fun b=>if b=a then some o else H b
theorem zm{H:Hp}{a:Addr}{o:HO}:upd H a o a=some o:=by unfold upd;rw [if_pos rfl]
theorem qm{H:Hp}{a b:Addr}{o:HO}(h:b≠a):upd H a o b=H b:=by unfold upd;rw [if_neg h]
theorem qaV{H:Hp}{a b:Addr}{o:HO}(h:H a=some o)(h':H b=none):a≠b:=by
 intro e;subst e;rw [h]at h';cases h'
section
variable(P:Program)(w:World)
noncomputable def zH(H:Hp)(h:Heap)(a:Addr):HO→Prop
 | .lst xs=>xs.length≤sizeLine∧∃(its:List Value) (n:Nat),Vals xs its∧h.get? a=some {cls:=.type "list",data:=.seq its.toArray n}
 | .tup xs=>xs.length≤sizeLine∧∃its:List Value,Vals xs its∧IsTup h a its.toArray
 | .dK kvs=>kvs.length≤sizeLine∧(a==sysModules)=false∧∃vs,KV kvs vs∧h.DictOf (qfk P w) a vs
 | .dT kvs=>kvs.length≤sizeLine∧(a==sysModules)=false∧∃xs:List (List Key×Addr×Value),
   Paired (fun(p:List Key×V) (q:List Key×Addr×Value)=>p.1=q.1∧H q.2.1=some (.tup (p.1.map kV))∧RelV p.2 q.2.2) kvs xs ∧
   ∃o es ep,h.get? a=some o∧o.ExactDict∧o.data=.dict es ep∧es.toList=xs.map (entryOfKey (tupleKind (qfk P w)))∧(xs.map (·.1)).Nodup
 | .set S n=>h.SetOf (intKind P w) a S n
 | .ins C dx fs=>H dx=some (.own a)∧fs.length≤1000∧dx≠a∧h.get? a=some (PySem.W.instObj C dx) ∧
   ∃mA,h.Ns1 dx mA∧(∀f,qlJ (fs.lookup f) (mA f))∧PySem.Within mA (fs.map (·.1))
 | .own _=>∃o,h.get? a=some o
 | .xd fs=>∃mA,h.Ns1 a mA∧∀f,qlJ (fs.lookup f) (mA f)
 | .rng lo hi=>∃t u v,h.get? a=some {cls:=.type "range",data:=.fields #[.int lo t,.int hi u,.int 1 v]}
 | .frz o u=>h.get? a=some o∧zH H h a u
 | .tbl ps=>h.get? a=some {cls:=.none,data:=.fields ps}
 | .met f x=>h.get? a=some (PySem.W.methodObj (.ref f) (.ref x))
 | .ext φ=>φ h∧(∃o,h.get? a=some o)∧∀h1 h2:Heap,φ h1→(∀o,h1.get? a=some o→h2.get? a=some o)→φ h2
noncomputable def HOk(H:Hp)(h:Heap):Prop:=∀a o,H a=some o→zH P w H h a o
end
section
variable{P:Program}{w:World}{H H':Hp}{h h':Heap}{a:Addr}{o:HO}
theorem zH.lt(x:zH P w H h a o):a<h.objs.size:=by
 cases o with
 |lst xs=>obtain⟨_,_,_,_,e⟩:=x;exact Heap.lt_size e
 |tup xs=>obtain⟨_,_,_,p⟩:=x;exact p.lt
 |dK kvs=>obtain⟨_,_,_,_,o,_,_,e,_⟩:=x;exact Heap.lt_size e
 |dT kvs=>obtain⟨_,_,_,_,o,_,_,e,_⟩:=x;exact Heap.lt_size e
 |set S n=>obtain⟨o,_,_,_,e,_⟩:=x;exact Heap.lt_size e
 |ins C dx fs=>obtain⟨_,_,_,e,_⟩:=x;exact Heap.lt_size e
 |own y=>obtain⟨_,e⟩:=x;exact Heap.lt_size e
 |xd fs=>obtain⟨_,⟨_,_,_,e,_⟩,_⟩:=x;exact Heap.lt_size e
 |rng lo hi=>obtain⟨_,_,_,e⟩:=x;exact Heap.lt_size e
 |frz ob u=>obtain⟨e,_⟩:=x;exact Heap.lt_size e
 |tbl ps=>exact Heap.lt_size (show h.get? a=some _ from x)
 |met f y=>exact Heap.lt_size (show h.get? a=some _ from x)
 |ext φ=>obtain⟨_,⟨_,e⟩,_⟩:=x;exact Heap.lt_size e
theorem Paired.mapP{α β:Type}{F G:α→β→Prop}:∀{l₁:List α}{l₂:List β},Paired F l₁ l₂→(∀a b,F a b→G a b)→Paired G l₁ l₂
 |_,_,.nil,_=>.nil
 |_,_,.cons r t,f=>.cons (f _ _ r) (Paired.mapP t f)
theorem zH.stay(x:zH P w H h a o)(k:∀b u,(b=a∨H b=some (.own a))→h.get? b=some u→h'.get? b=some u)
  (ho:∀b,H b=some (.own a)→H' b=some (.own a)) (ht:∀b xs,H b=some (.tup xs)→H' b=some (.tup xs)):zH P w H' h' a o:=by
 induction o with
 |lst xs=>obtain⟨z,its,n,r,e⟩:=x;exact⟨z,its,n,r,k _ _ (.inl rfl) e⟩
 |tup xs=>obtain⟨z,its,r,ob,e,c⟩:=x;exact⟨z,its,r,ob,k _ _ (.inl rfl) e,c⟩
 |dK kvs=>obtain⟨z,y,vs,r,ob,es,ep,e,c⟩:=x;exact⟨z,y,vs,r,ob,es,ep,k _ _ (.inl rfl) e,c⟩
 |dT kvs=>
  obtain⟨z,y,xs,r,ob,es,ep,e,c⟩:=x;exact⟨z,y,xs,Paired.mapP r fun p q z=>⟨z.1,ht _ _ z.2.1,z.2.2⟩,ob,es,ep,k _ _ (.inl rfl) e,c⟩
 |set S n=>obtain⟨ob,es,ep,t,e,c⟩:=x;exact⟨ob,es,ep,t,k _ _ (.inl rfl) e,c⟩
 |ins C dx fs=>
  obtain⟨d,z,ne,e,mA,⟨od,es,ep,e2,c⟩,r⟩:=x;exact⟨ho _ d,z,ne,k _ _ (.inl rfl) e,mA,⟨od,es,ep,k _ _ (.inr d) e2,c⟩,r⟩
 |own y=>obtain⟨ob,e⟩:=x;exact⟨ob,k _ _ (.inl rfl) e⟩
 |xd fs=>obtain⟨mA,⟨od,es,ep,e,c⟩,r⟩:=x;exact⟨mA,⟨od,es,ep,k _ _ (.inl rfl) e,c⟩,r⟩
 |rng lo hi=>obtain⟨t,u,v,e⟩:=x;exact⟨t,u,v,k _ _ (.inl rfl) e⟩
 |frz ob u ih=>obtain⟨e,q⟩:=x;exact⟨k _ _ (.inl rfl) e,ih q⟩
 |tbl ps=>
  have e:h.get? a=some {cls:=.none,data:=.fields ps}:=x;show h'.get? a=some {cls:=.none,data:=.fields ps};exact k a _ (.inl rfl) e
 |met f y=>
  have e:h.get? a=some (PySem.W.methodObj (.ref f) (.ref y)):=x;show h'.get? a=some (PySem.W.methodObj (.ref f) (.ref y));exact k a _ (.inl rfl) e
 |ext φ=>obtain⟨p,⟨o,e⟩,st⟩:=x;exact⟨st _ _ p fun o q=>k _ _ (.inl rfl) q,⟨o,k _ _ (.inl rfl) e⟩,st⟩
theorem HOk.lt(x:HOk P w H h)(e:H a=some o):a<h.objs.size:=(x a o e).lt
theorem HOk.fresh(x:HOk P w H h)(e:h.objs.size≤a):H a=none:=by
 cases q:H a with
 |none=>rfl
 |some u=>exact absurd (Nat.lt_of_lt_of_le (x.lt q) e) (Nat.lt_irrefl _)
theorem HOk.kept(x:HOk P w H h)(k:∀b u,h.get? b=some u→h'.get? b=some u):HOk P w H h':=fun a o e=>
 (x a o e).stay (fun b u _ q=>k b u q) (fun _ q=>q) fun _ _ q=>q
theorem HOk.laid(x:HOk P w H h)(k:∀b u,h.get? b=some u→h'.get? b=some u)(hp:h.objs.size≤a)(new:zH P w (upd H a o) h' a o):HOk P w (upd H a o) h':=fun b u e=>by
 have hn:=x.fresh hp;by_cases hb:b=a
 ·subst hb;rw [zm]at e;cases e;exact new
 ·rw [qm hb]at e;exact(x b u e).stay (fun c v _ q=>k c v q) (fun c q=>by rw [qm (qaV q hn)];exact q) fun c xs q=>by rw [qm (qaV q hn)];exact q
end
noncomputable def Rd(H:Hp)(a:Addr)(u:HO):Prop:=H a=some u∨∃o,H a=some (.frz o u)
theorem Rd.of{H:Hp}{a:Addr}{u:HO}(h:H a=some u):Rd H a u:=.inl h
theorem Rd.ok{P:Program}{w:World}{H:Hp}{h:Heap}{a:Addr}{u:HO}(r:Rd H a u)(x:HOk P w H h):zH P w H h a u:=by
 rcases r with r|⟨o,r⟩
 ·exact x a u r
 ·obtain⟨_,q⟩:=x a _ r;exact q
noncomputable def Mut:Option HO→Prop
 |some (.lst _)=>True
 |some (.dK _)=>True
 |some (.dT _)=>True
 |some (.set _ _)=>True
 |some (.ins _ _ _)=>True
 |some (.ext _)=>True
 |_=>False
section
variable{P:Program}{w:World}{H:Hp}{h h':Heap}{x e:Addr}{o':HO}
theorem HOk.write(ok:HOk P w H h)(mu:Mut (H x))(he:e=x∨H e=some (.own x))(k:∀b u,b≠e→h.get? b=some u→h'.get? b=some u)(heo:∃u,h'.get? e=some u)
  (new:zH P w (upd H x o') h' x o'):HOk P w (upd H x o') h':=fun b u q=>by
 have nown:∀c y,H c=some (.own y)→c≠x:=fun c y r z=>by subst z;rw [r]at mu;exact mu
 have ntup:∀c xs,H c=some (.tup xs)→c≠x:=fun c xs r z=>by subst z;rw [r]at mu;exact mu
 by_cases hb:b=x
 ·subst hb;rw [zm]at q;cases q;exact new
 ·rw [qm hb]at q;by_cases hbe:b=e
  ·have q':H b=some (.own x):=by
    rcases he with z|z
    ·exact absurd (hbe.trans z) hb
    ·rw [hbe];exact z
   rw [q]at q';cases q';obtain⟨v,hv⟩:=heo;exact⟨v,by rw [hbe];exact hv⟩
  ·refine(ok b u q).stay (fun c v hc r=>k c v ?_ r) (fun c r=>by rw [qm (nown c b r)];exact r) fun c xs r=>by rw [qm (ntup c xs r)];exact r
   rcases hc with rfl|hc
   ·exact hbe
   ·rintro rfl;rcases he with z|z
    ·exact nown c b hc z
    ·rw [hc]at z;cases z;exact hb rfl
end
structure Un(fs ex:List Addr)(H H':Hp)(h h':Heap):Prop where
 keep:∀b o,h.get? b=some o→H b=none→b∉fs→b∉ex→h'.get? b=some o
 slot:∀b o,h.get? b=some o→H b=none→b∈fs→b∉ex→∃sl,h'.get? b=some {o with slots:=sl}
 free:∀b o,h.get? b=some o→H b=none→b∉ex→H' b=none
 there:∀b o,h.get? b=some o→b∉ex→∃o',h'.get? b=some o'
 tups:∀b xs,H b=some (.tup xs)→H' b=some (.tup xs)
 frzs:∀b o u,H b=some (.frz o u)→H' b=some (.frz o u)
 tbls:∀b ps,H b=some (.tbl ps)→∃more,H' b=some (.tbl (ps++more))
section
variable{fs fs' ex ex':List Addr}{H H1 H2:Hp}{h h1 h2 h':Heap}{a x e:Addr}{o:HO}
theorem Un.any(u:Un fs ex H H1 h h1){b:Addr}{ob:Obj}(q:h.get? b=some ob)(n:H b=none)(hx:b∉ex):∃sl,h1.get? b=some {ob with slots:=sl}:=by
 by_cases hb:b∈fs
 ·exact u.slot b ob q n hb hx
 ·exact⟨ob.slots,u.keep b ob q n hb hx⟩
theorem Un.kept(k:∀b u,h.get? b=some u→h'.get? b=some u):Un fs ex H H h h':=
 ⟨fun b ob q _ _ _=>k b ob q,fun b ob q _ _ _=>⟨ob.slots,k b ob q⟩,fun _ _ _ n _=>n,fun b ob q _=>⟨ob,k b ob q⟩,fun _ _ q=>q,fun _ _ _ q=>q,fun _ ps q=>⟨#[],by rw [q];simp⟩⟩
theorem Un.refl:Un fs ex H H h h:=Un.kept fun _ _ q=>q
theorem Un.laid(k:∀b u,h.get? b=some u→h'.get? b=some u)(hp:h.objs.size≤a)(hn:H a=none):Un fs ex H (upd H a o) h h' where
 keep:=fun b u q _ _ _=>k b u q
 slot:=fun b u q _ _ _=>⟨u.slots,k b u q⟩
 free:=fun b u q n _=>by rw [qm (Nat.ne_of_lt (Nat.lt_of_lt_of_le (Heap.lt_size q) hp))];exact n
 there:=fun b u q _=>⟨u,k b u q⟩
 tups:=fun b xs q=>by rw [qm (qaV q hn)];exact q
 frzs:=fun b u xs q=>by rw [qm (qaV q hn)];exact q
 tbls:=fun b ps q=>⟨#[],by rw [qm (qaV q hn),q];simp⟩
theorem Un.write(mu:Mut (H x))(he:e=x∨H e=some (.own x))(k:∀b u,b≠e→h.get? b=some u→h'.get? b=some u)(heo:∃u,h'.get? e=some u):Un fs ex H (upd H x o) h h':=by
 have hx:∀b,H b=none→b≠x:=fun b n z=>by subst z;rw [n]at mu;exact mu
 have hb:∀b,H b=none→b≠e:=fun b n z=>by
  subst z;rcases he with r|r
  ·exact hx b n r
  ·rw [n]at r;cases r
 have hm:∀b u,H b=some u→¬ Mut (some u)→b≠x:=fun b u q nm z=>by subst z;rw [q]at mu;exact nm mu
 refine⟨fun b u q n _ _=>k b u (hb b n) q,fun b u q n _ _=>⟨u.slots,k b u (hb b n) q⟩,fun b u q n _=>by rw [qm (hx b n)];exact n,fun b u q _=>?_,
  fun b xs q=>by rw [qm (hm b _ q fun z=>z)];exact q,fun b u xs q=>by rw [qm (hm b _ q fun z=>z)];exact q,fun b ps q=>⟨#[],by rw [qm (hm b _ q fun z=>z),q];simp⟩⟩
 by_cases hbe:b=e
 ·subst hbe;exact heo
 ·exact⟨u,k b u hbe q⟩
end
noncomputable def trk(h:Heap)(H:Hp):List Addr:=(List.range h.objs.size).filter fun a=>(H a).isSome
noncomputable def qcR(h:Heap)(H:Hp):Heap:=PySem.W.hideAll h (trk h H)
theorem qkS(h:Heap)(H:Hp):(qcR h H).objs.size=h.objs.size:=PySem.W.hideAll_size _ _
theorem qlH{h:Heap}{H:Hp}{b:Addr}{o:Obj}(e:h.get? b=some o)(n:H b=none):(qcR h H).get? b=some o:=
 PySem.W.hideAll_get _ e fun hm=>by
  have q:(H b).isSome=true:=(List.mem_filter.mp hm).2;rw [n]at q;simp at q
theorem qnm{h:Heap}{H:Hp}{b:Addr}{o:Obj}(e:(qcR h H).get? b=some o):h.get? b=some o∧H b=none:=by
 have e':h.get? b=some o:=PySem.W.of_hideAll (trk h H) e;refine⟨e',?_⟩;cases q:H b with
 |none=>rfl
 |some x=>
  have hm:b∈trk h H:=List.mem_filter.mpr ⟨List.mem_range.mpr (Heap.lt_size e'),by simp [q]⟩;have z:(qcR h H).get? b=none:=PySem.W.hideAll_none (trk h H) hm;rw [z]at e;cases e
noncomputable def qab(g h:Heap)(L:Addr):List (Addr×Obj):=(List.range h.objs.size).filterMap fun a=>if a=L∨(g.get? a).isSome=true then none else (h.get? a).map fun o=>(a,o)
theorem qhM{g h:Heap}{L a:Addr}{o:Obj}(h1:a≠L)(h2:g.get? a=none)(h3:h.get? a=some o):(a,o)∈qab g h L:=
 List.mem_filterMap.mpr ⟨a,List.mem_range.mpr (Heap.lt_size h3),by simp [h1,h2,h3]⟩
theorem qeU{g h:Heap}{L:Addr}{p:Addr×Obj}(hp:p∈qab g h L):p.1≠L∧g.get? p.1=none∧h.get? p.1=some p.2:=by
 obtain⟨b,_,e⟩:=List.mem_filterMap.mp hp;split at e
 ·cases e
 ·rename_i hn
  cases q:h.get? b with
  |none=>rw [q]at e;simp at e
  |some u=>
   rw [q]at e;simp only [Option.map_some,Option.some.injEq]at e;subst e;refine⟨fun z=>hn (.inl z),?_,q⟩;show g.get? b=none;cases r:g.get? b with
   |none=>rfl
   |some v=>exact(hn (.inr (by simp [r]))).elim
noncomputable def rest(g h:Heap)(L d:Addr):List (Addr×Obj):=(qab g h L).filter fun p=>decide (p.1≠d)
theorem qmo{g h:Heap}{L:Addr}:News g L h (qab g h L):=fun p hp=>let ⟨a,b,c⟩:=qeU hp;⟨c,a,b⟩
structure Mod(K:PySem.W.Frag)(mg:Str→Option Value)(base:Heap):Prop where
 kin:K.In base
 glob:base.Ns mainGlobals mg
 blt:∃mb,base.Ns builtinsNs mb∧∀x:Str,x≠"__name__"→mb x=bootBuiltins x
 nolimit:base.NoLimit
structure Cx where
 prog:Program
 w:World
 K:PySem.W.Frag
 mg:Str→Option Value
 base:Heap
 A:Around
 N:List Str
 s₀:Shared
 H₀:Hp
 env:Env
 outer:List Env
 stack:List Env
 ex:List Addr
 fn:Str→Bool
 calm:Bool
 pn:List (Addr×Obj)
 xe:Value→Shared→Prop
noncomputable def frs(l:List Env):List Addr:=l.filterMap (·.frame)
abbrev Cx.fs(X:Cx):List Addr:=frs X.outer
noncomputable def Vis(sc:Scope)(x:Str):Prop:=sc.names.lookup x=some .local∨sc.names.lookup x=some .cell∨sc.names.lookup x=some .free
noncomputable def Loc(sc:Scope)(x:Str):Prop:=sc.names.lookup x=some .local∨sc.names.lookup x=some .cell
noncomputable def Look(env:Env)(h:Heap)(m:Str→Option Value)(x:Str)(u:Value):Prop:=
 (env.kindOf x=some .local∧m x=some u)∨((env.kindOf x=some .cell∨env.kindOf x=some .free)∧∃c,env.cells.lookup x=some c∧h.IsCell c (some u))
structure Cx.Ok(X:Cx):Prop where
 mod:Mod X.K X.mg X.base
 kind:X.env.scope.kind=.function
 glob:X.env.globals=mainGlobals
 blt:X.env.builtins=builtinsNs
 above:X.s₀.heap.objs.size≤X.env.locals
 inj:∀x y c,X.env.cells.lookup x=some c→X.env.cells.lookup y=some c→x=y
 has:∀x,(X.env.kindOf x=some .cell∨X.env.kindOf x=some .free)→∃c,X.env.cells.lookup x=some c
 cab:∀x c,X.fn x=true→X.env.cells.lookup x=some c→X.s₀.heap.objs.size≤c
 hd:X.calm=true→X.A.handled=none
 frames:X.A.frames=some X.stack
 stk:X.stack=X.outer∨(X.stack=X.env::X.outer∧X.env.frame=some X.env.locals)
 exf:∀b∈X.ex,b≠X.env.locals∧∀x c,X.env.cells.lookup x=some c→c≠b
 bs:∀b o,X.base.get? b=some o→X.s₀.heap.get? b=some o∧X.H₀ b=none
 bsz:X.base.objs.size≤X.s₀.heap.objs.size
 noex:∀b o,X.base.get? b=some o→b∉X.ex
 exfs:∀b∈X.ex,b∉X.fs
 funs:X.s₀.heap.FunFrames X.base X.outer
 frf:∀b∈X.fs,X.H₀ b=none
structure Inv(X:Cx)(pins:List (Addr×Obj))(σ:List (Option V))(H:Hp)(s:Shared):Prop where
 ok:X.Ok
 os:s.os=X.s₀.os
 bare:AllBare s.gens
 base:Un X.fs X.ex X.H₀ H X.s₀.heap s.heap
 loc:∃m,s.heap.Ns X.env.locals m∧∀(i:Nat) (x:Str) (v:V),X.N[i]? = some x→σ[i]? = some (some v)→Vis X.env.scope x→∃u,RelV v u∧Look X.env s.heap m x u
 cell:∀x c,X.env.cells.lookup x=some c→∃v,s.heap.IsCell c v
 free:H X.env.locals=none
 freeC:∀x c,X.env.cells.lookup x=some c→H c=none
 pin:∀p∈X.pn++pins,s.heap.get? p.1=some p.2∧H p.1=none∧p.1≠X.env.locals∧p.1∉X.fs∧∀v,p.2.data≠.cell v
 hok:HOk X.prog X.w H s.heap
 len:σ.length=X.N.length
section
variable{X:Cx}{pins:List (Addr×Obj)}{σ:List (Option V)}{H H':Hp}{s:Shared}{h':Heap}
theorem Cx.Ok.nofr(ok:X.Ok){b:Addr}{o:Obj}(e:X.base.get? b=some o):b∉X.fs:=fun hb=>by
 have:=(ok.funs.mem hb).1;rw [e]at this;cases this
theorem Inv.bs(I:Inv X pins σ H s):∀b o,X.base.get? b=some o→s.heap.get? b=some o∧H b=none:=fun b o e=>
 ⟨I.base.keep b o (I.ok.bs b o e).1 (I.ok.bs b o e).2 (I.ok.nofr e) (I.ok.noex b o e),I.base.free b o (I.ok.bs b o e).1 (I.ok.bs b o e).2 (I.ok.noex b o e)⟩
theorem Inv.bk(I:Inv X pins σ H s):∀b o,X.base.get? b=some o→s.heap.get? b=some o:=fun b o e=>(I.bs b o e).1
theorem Inv.mod(I:Inv X pins σ H s):Mod X.K X.mg X.base:=I.ok.mod
theorem Inv.kIn(I:Inv X pins σ H s):X.K.In s.heap:=I.ok.mod.kin.keeps I.bk
theorem Inv.nolimit(I:Inv X pins σ H s):s.heap.NoLimit:=I.ok.mod.nolimit.keeps I.bk
theorem Inv.fr(I:Inv X pins σ H s):∃m,Fr X.base X.env.locals s.heap m:=
 let ⟨m,hn,_⟩:=I.loc
 ⟨m,hn,I.bk,Nat.le_trans I.ok.bsz I.ok.above⟩
theorem Inv.lt(I:Inv X pins σ H s):X.env.locals<s.heap.objs.size:=let ⟨_,hn,_⟩:=I.loc;hn.lt
theorem Inv.sz(I:Inv X pins σ H s):X.s₀.heap.objs.size≤s.heap.objs.size:=Nat.le_trans I.ok.above (Nat.le_of_lt I.lt)
theorem Inv.nofs(I:Inv X pins σ H s){a:Addr}(h:s.heap.objs.size≤a):a∉X.fs:=fun hb=>by
 obtain⟨_,o,ho,_⟩:=I.ok.funs.mem hb;exact absurd (Nat.lt_of_lt_of_le (Heap.lt_size ho) (Nat.le_trans I.sz h)) (Nat.lt_irrefl _)
theorem Inv.cne(I:Inv X pins σ H s):∀x c,X.env.cells.lookup x=some c→c≠X.env.locals:=fun x c e z=>by
 obtain⟨v,o,ho,hd⟩:=I.cell x c e;obtain⟨m,⟨o',es,ep,ho',hd',_⟩,_⟩:=I.loc;rw [z,ho']at ho;cases ho;rw [hd']at hd;cases hd
theorem Inv.funs(I:Inv X pins σ H s):s.heap.FunFrames X.base X.outer:=by
 have all:∀(l:List Env),(∀b∈frs l,b∈X.fs)→X.s₀.heap.FunFrames X.base l→s.heap.FunFrames X.base l:=by
  intro l
  induction l with
  |nil=>intro _ _;trivial
  |cons env r ih=>
   intro hs hl;obtain⟨hk,⟨L,o,hf,hn,ho,hd⟩,hr⟩:=hl;have hL:L∈X.fs:=hs L (by unfold frs;rw [List.filterMap_cons,hf];exact List.mem_cons_self);obtain⟨sl,e⟩:=I.base.slot L o ho (I.ok.frf L hL) hL fun z=>I.ok.exfs L z hL
   exact⟨hk,⟨L,_,hf,hn,e,hd⟩,ih (fun b hb=>hs b (by unfold frs;rw [List.filterMap_cons,hf];exact List.mem_cons_of_mem _ hb)) hr⟩
 exact all X.outer (fun _ hb=>hb) I.ok.funs
theorem Inv.stack(I:Inv X pins σ H s):s.heap.FunFrames X.base X.stack:=by
 rcases I.ok.stk with e|⟨e,hf⟩
 ·rw [e];exact I.funs
 ·rw [e];obtain⟨m,hn,_⟩:=I.loc;refine .cons (by rw [I.ok.kind];decide) hf hn ?_ I.funs;exact Heap.get?_none_of_le (Nat.le_trans I.ok.bsz I.ok.above)
theorem Inv.stkSub(I:Inv X pins σ H s):∀b∈frs X.stack,b∈X.env.locals::X.fs:=fun b hb=>by
 rcases I.ok.stk with e|⟨e,hf⟩
 ·rw [e]at hb;exact List.mem_cons_of_mem _ hb
 ·rw [e]at hb;unfold frs at hb;rw [List.filterMap_cons,hf]at hb;exact hb
theorem Inv.stkFree(I:Inv X pins σ H s):∀b∈frs X.stack,H b=none:=fun b hb=>by
 rcases List.mem_cons.mp (I.stkSub b hb)with e|hb
 ·rw [e];exact I.free
 ·obtain⟨_,o,ho,_⟩:=I.ok.funs.mem hb;exact I.base.free b o ho (I.ok.frf b hb) fun z=>I.ok.exfs b z hb
theorem Inv.step{g':Array GenState}{t':Nat}{d':Drawn}{ch:List Addr}(I:Inv X pins σ H s)
  (hch:∀b∈ch,(b∈X.ex∨X.s₀.heap.objs.size≤b)∧b≠X.env.locals∧(∀x c,X.env.cells.lookup x=some c→c≠b)∧∀p∈X.pn++pins,p.1≠b)
  (keep:∀b o,b≠X.env.locals→b∉X.fs→b∉ch→s.heap.get? b=some o→H b=none→h'.get? b=some o)
  (slot:∀b o,b≠X.env.locals→b∈X.fs→b∉ch→s.heap.get? b=some o→H b=none→∃sl,h'.get? b=some {o with slots:=sl}) (free:∀b o,b∉ch→s.heap.get? b=some o→H b=none→H' b=none)
  (there:∀b o,b∉ch→s.heap.get? b=some o→∃o',h'.get? b=some o')
  (tups:∀b xs,H b=some (.tup xs)→H' b=some (.tup xs)) (frzs:∀b o u,H b=some (.frz o u)→H' b=some (.frz o u)) (tbls:∀b ps,H b=some (.tbl ps)→∃more,H' b=some (.tbl (ps++more)))
  (ns:∀m,s.heap.Ns X.env.locals m→h'.Ns X.env.locals m) (hok:HOk X.prog X.w H' h') (hg:AllBare g') :
  Inv X pins σ H' {s with heap:=h',gens:=g',drawn:=d',toks:=t'}:=by
 have neL:∀b o,X.s₀.heap.get? b=some o→b≠X.env.locals:=fun b o e=>Nat.ne_of_lt (Nat.lt_of_lt_of_le (Heap.lt_size e) I.ok.above)
 have neC:∀b o,X.s₀.heap.get? b=some o→b∉X.ex→b∉ch:=fun b o e hx hb=>by
  rcases(hch b hb).1 with z|z
  ·exact hx z
  ·exact absurd (Nat.lt_of_lt_of_le (Heap.lt_size e) z) (Nat.lt_irrefl _)
 have cellK:∀x c,X.env.cells.lookup x=some c→∀v,s.heap.IsCell c v→h'.IsCell c v:=fun x c e v ⟨o,ho,hd⟩=>by
  have nch:c∉ch:=fun z=>(hch c z).2.2.1 x c e rfl
  by_cases hc:c∈X.fs
  ·obtain⟨sl,q⟩:=slot c o (I.cne x c e) hc nch ho (I.freeC x c e);exact⟨_,q,hd⟩
  ·exact⟨o,keep c o (I.cne x c e) hc nch ho (I.freeC x c e),hd⟩
 refine⟨I.ok,I.os,hg,⟨fun b o e n hb hx=>?_,fun b o e n hb hx=>?_,fun b o e n hx=>?_,fun b o e hx=>?_,fun b xs e=>tups b xs (I.base.tups b xs e),fun b o xs e=>frzs b o xs (I.base.frzs b o xs e),fun b ps e=>?_⟩,?_,fun x c e=>?_,?_,fun x c e=>?_,fun p hp=>?_,hok,I.len⟩
 ·exact keep b o (neL b o e) hb (neC b o e hx) (I.base.keep b o e n hb hx) (I.base.free b o e n hx)
 ·obtain⟨sl,e1⟩:=I.base.slot b o e n hb hx;obtain⟨sl',e2⟩:=slot b _ (neL b o e) hb (neC b o e hx) e1 (I.base.free b o e n hx);exact⟨sl',e2⟩
 ·obtain⟨o',e1⟩:=I.base.there b o e hx;exact free b o' (neC b o e hx) e1 (I.base.free b o e n hx)
 ·obtain⟨o',e1⟩:=I.base.there b o e hx;exact there b o' (neC b o e hx) e1
 ·obtain⟨m1,e1⟩:=I.base.tbls b ps e;obtain⟨m2,e2⟩:=tbls b _ e1;exact⟨m1++m2,by rw [e2,Array.append_assoc]⟩
 ·obtain⟨m,hn,hl⟩:=I.loc;refine⟨m,ns m hn,fun i x v e1 e2 e3=>?_⟩;obtain⟨u,r,l⟩:=hl i x v e1 e2 e3;refine⟨u,r,?_⟩;rcases l with l|⟨k,c,e,z⟩
  ·exact .inl l
  ·exact .inr ⟨k,c,e,cellK x c e _ z⟩
 ·obtain⟨v,z⟩:=I.cell x c e;exact⟨v,cellK x c e v z⟩
 ·obtain⟨m,⟨o,_,_,ho,_⟩,_⟩:=I.loc;exact free _ o (fun z=>(hch _ z).2.1 rfl) ho I.free
 ·obtain⟨v,o,ho,hd⟩:=I.cell x c e;exact free c o (fun z=>(hch c z).2.2.1 x c e rfl) ho (I.freeC x c e)
 ·obtain⟨e,n,ne,nf,d⟩:=I.pin p hp;have nch:p.1∉ch:=fun z=>(hch p.1 z).2.2.2 p hp rfl
  exact⟨keep p.1 p.2 ne nf nch e n,free p.1 p.2 nch e n,ne,nf,d⟩
theorem Inv.un{t':Nat}(I:Inv X pins σ H s)(u:Un X.fs [] H H' s.heap h')(hok:HOk X.prog X.w H' h'):Inv X pins σ H' {s with heap:=h',toks:=t'}:=by
 obtain⟨m,⟨o,es,ep,ho,r⟩,_⟩:=id I.loc;obtain⟨sl,hL⟩:=u.any ho I.free (by simp);exact I.step (g':=s.gens) (d':=s.drawn) (ch:=[]) (fun _ z=>nomatch z) (fun b o _ hb _ e n=>u.keep b o e n hb (by simp)) (fun b o _ hb _ e n=>u.slot b o e n hb (by simp)) (fun b o _ e n=>u.free b o e n (by simp)) (fun b o _ e=>u.there b o e (by simp)) u.tups u.frzs u.tbls (fun m' hm=>by
  obtain⟨o',es',ep',ho',r'⟩:=hm;rw [ho]at ho';cases ho';exact⟨_,es',ep',hL,r'⟩) hok I.bare
theorem Inv.call{g':Array GenState}{t':Nat}{d':Drawn}{ch:List Addr}(I:Inv X pins σ H s)(u:Un (frs X.stack) ch H H' s.heap h')(hok:HOk X.prog X.w H' h')(hg:AllBare g')
  (hch:∀b∈ch,(b∈X.ex∨X.s₀.heap.objs.size≤b)∧b≠X.env.locals∧(∀x c,X.env.cells.lookup x=some c→c≠b)∧∀p∈X.pn++pins,p.1≠b) :
  Inv X pins σ H' {s with heap:=h',gens:=g',drawn:=d',toks:=t'}:=by
 obtain⟨m,⟨o,es,ep,ho,r⟩,_⟩:=id I.loc;obtain⟨sl,hL⟩:=u.any ho I.free fun z=>(hch _ z).2.1 rfl
 exact I.step (ch:=ch) hch (fun b o hL hb hc e n=>u.keep b o e n (fun z=>(List.mem_cons.mp (I.stkSub b z)).elim hL hb) hc) (fun b o _ _ hc e n=>u.any e n hc) (fun b o hc e n=>u.free b o e n hc) (fun b o hc e=>u.there b o e hc) u.tups u.frzs u.tbls (fun m' hm=>by
  obtain⟨o',es',ep',ho',r'⟩:=hm;rw [ho]at ho';cases ho';exact⟨_,es',ep',hL,r'⟩) hok hg
theorem Inv.turned{t':Nat}{it:Addr}(I:Inv X pins σ H s)(k:∀b o,b≠it→s.heap.get? b=some o→h'.get? b=some o)(hn:H it=none)(hL:it≠X.env.locals)
  (h1:it∈X.ex∨X.s₀.heap.objs.size≤it) (h2:∀x c,X.env.cells.lookup x=some c→c≠it) (h3:∀p∈X.pn++pins,p.1≠it):Inv X pins σ H {s with heap:=h',toks:=t'}:=by
 have nit:∀b u,H b=some u→b≠it:=fun b u e z=>by rw [z,hn]at e;cases e
 refine I.step (g':=s.gens) (d':=s.drawn) (ch:=[it]) (fun b hb=>?_) (fun b o _ _ hc e _=>k b o (fun z=>hc (by simp [z])) e) (fun b o _ _ hc e _=>⟨o.slots,k b o (fun z=>hc (by simp [z])) e⟩) (fun _ _ _ _ n=>n)
  (fun b o hc e=>⟨o,k b o (fun z=>hc (by simp [z])) e⟩) (fun _ _ e=>e) (fun _ _ _ e=>e) (fun b ps e=>⟨#[],by rw [e];simp⟩) (fun m hm=>?_) (fun b u e=>?_) I.bare
 ·have e:b=it:=by simpa using hb
  subst e;exact⟨h1,hL,h2,h3⟩
 ·obtain⟨o,es,ep,ho,r⟩:=hm;exact⟨o,es,ep,k _ o (Ne.symm hL) ho,r⟩
 ·refine(I.hok b u e).stay (fun c v hc q=>k c v ?_ q) (fun _ q=>q) fun _ _ q=>q
  rcases hc with z|z
  ·rw [z];exact nit b u e
  ·exact nit c _ z
theorem Inv.tok(I:Inv X pins σ H s)(t:Nat):Inv X pins σ H {s with toks:=t}:=I.un (h':=s.heap) (t':=t) Un.refl I.hok
theorem Inv.kept{t':Nat}(I:Inv X pins σ H s)(k:∀b u,s.heap.get? b=some u→h'.get? b=some u):Inv X pins σ H {s with heap:=h',toks:=t'}:=I.un (Un.kept k) (I.hok.kept k)
theorem Inv.laid{a:Addr}{o:HO}{t':Nat}(I:Inv X pins σ H s)(k:∀b u,s.heap.get? b=some u→h'.get? b=some u)(hp:s.heap.objs.size≤a)(new:zH X.prog X.w (upd H a o) h' a o) :
  Inv X pins σ (upd H a o) {s with heap:=h',toks:=t'}:=I.un (Un.laid k hp (I.hok.fresh hp)) (I.hok.laid k hp new)
theorem Inv.write{x e:Addr}{o:HO}{t':Nat}(I:Inv X pins σ H s)(mu:Mut (H x))(he:e=x∨H e=some (.own x))(k:∀b u,b≠e→s.heap.get? b=some u→h'.get? b=some u)(heo:∃u,h'.get? e=some u)
  (new:zH X.prog X.w (upd H x o) h' x o):Inv X pins σ (upd H x o) {s with heap:=h',toks:=t'}:=I.un (Un.write mu he k heo) (I.hok.write mu he k heo new)
theorem Inv.pins_of{pins':List (Addr×Obj)}(I:Inv X pins σ H s)(h:∀p∈pins',s.heap.get? p.1=some p.2∧H p.1=none∧p.1≠X.env.locals∧p.1∉X.fs∧∀v,p.2.data≠.cell v):Inv X pins' σ H s:=
 ⟨I.ok,I.os,I.bare,I.base,I.loc,I.cell,I.free,I.freeC,fun p hp=>(List.mem_append.mp hp).elim (fun z=>I.pin p (List.mem_append_left _ z)) (h p),I.hok,I.len⟩
theorem qhk{N:List Str}(hN:N.Nodup){i j:Nat}{x:Str}(a:N[i]? = some x)(b:N[j]? = some x):i=j:=by
 obtain⟨h1,e1⟩:=List.getElem?_eq_some_iff.mp a;obtain⟨h2,e2⟩:=List.getElem?_eq_some_iff.mp b;exact(List.getElem_inj hN).mp (e1.trans e2.symm)
theorem qfK{M:Model}{A:Around}{E:Value→Shared→Prop}{i:Nat}{x:Str}{v:V}{u:Value}{Q:Unit→Shared→Prop}(I:Inv X pins σ H s)(hN:X.N.Nodup)(hi:X.N[i]? = some x)(hx:Loc X.env.scope x)(r:RelV v u)
  (h:∀s',Inv X pins (σ.set i (some v)) H s'→(∃a,Heap.SameBut a s.heap s'.heap∧(a=X.env.locals∨X.env.cells.lookup x=some a))→Q () s') (hf:X.fn x=true∨X.env.scope.names.lookup x=some .local:=by first|exact .inl rfl|exact .inr rfl|assumption):wpAny M A (storeName X.env x u) Q E s:=by
 obtain⟨m,hn,hl⟩:=id I.loc;have hcls:(X.env.scope.kind==.class||(X.env.scope.kind==.module&&X.env.locals != X.env.globals))=false:=by rw [I.ok.kind];rfl
 have hiσ:i<σ.length:=by rw [I.len];exact(List.getElem?_eq_some_iff.mp hi).1
 have cne:=I.cne;have tracked:∀{a:Addr}{h':Heap},(∃o,s.heap.get? a=some o∧H a=none)→Heap.SameBut a s.heap h'→HOk X.prog X.w H h':=fun {a h'} ha hs b ob e=>by
  obtain⟨_,_,hfree⟩:=ha;refine(I.hok b ob e).stay (fun c w' hc q=>(hs.2 c ?_).trans q) (fun _ q=>q) fun _ _ q=>q
  rintro rfl;rcases hc with rfl|hc
  ·rw [hfree]at e;cases e
  ·rw [hfree]at hc;cases hc
 rcases hx with hk|hk
 ·refine wpAny_storeName_local hk hn (fun h' hn' hs=>?_) hcls;obtain⟨oL,_,_,hoL,_⟩:=id hn;refine h _ ⟨I.ok,I.os,I.bare,⟨fun b o e n hb hx=>?_,fun b o e n hb hx=>?_,I.base.free,fun b o e hx=>?_,I.base.tups,I.base.frzs,I.base.tbls⟩,⟨_,hn',fun j y v' e1 e2 e3=>?_⟩,fun y c e=>?_,I.free,I.freeC,fun p hp=>?_,tracked ⟨oL,hoL,I.free⟩ hs,by simpa using I.len⟩ ⟨_,hs,.inl rfl⟩
  ·exact(hs.2 b (Nat.ne_of_lt (Nat.lt_of_lt_of_le (Heap.lt_size e) I.ok.above))).trans (I.base.keep b o e n hb hx)
  ·obtain⟨sl,e1⟩:=I.base.slot b o e n hb hx;exact⟨sl,(hs.2 b (Nat.ne_of_lt (Nat.lt_of_lt_of_le (Heap.lt_size e) I.ok.above))).trans e1⟩
  ·obtain⟨o',e1⟩:=I.base.there b o e hx;exact⟨o',(hs.2 b (Nat.ne_of_lt (Nat.lt_of_lt_of_le (Heap.lt_size e) I.ok.above))).trans e1⟩
  ·by_cases hj:j=i
   ·subst hj;rw [hi]at e1;cases e1;rw [List.getElem?_set_self hiσ]at e2;cases e2;exact⟨u,r,.inl ⟨hk,by simp⟩⟩
   ·rw [List.getElem?_set_ne (Ne.symm hj)]at e2;obtain⟨u',r',q⟩:=hl j y v' e1 e2 e3;refine⟨u',r',?_⟩;rcases q with ⟨k,e⟩|⟨k,c,e,z⟩
    ·refine .inl ⟨k,?_⟩;have:y≠x:=fun e=>hj (qhk hN e1 (e▸hi))
     simp [this,e]
    ·exact .inr ⟨k,c,e,z.sameBut hs (cne y c e)⟩
  ·obtain⟨w',z⟩:=I.cell y c e;exact⟨w',z.sameBut hs (cne y c e)⟩
  ·obtain⟨e,n,ne,nf,d⟩:=I.pin p hp;exact⟨(hs.2 p.1 ne).trans e,n,ne,nf,d⟩
 ·have hfn:X.fn x=true:=by
   rcases hf with z|z
   ·exact z
   ·rw [z]at hk;cases hk
  obtain⟨c,hc⟩:=I.ok.has x (.inl hk);obtain⟨w',z⟩:=I.cell x c hc;refine wpAny_storeName_cell I.ok.kind hk hc z (fun h' hc' hs=>?_);obtain⟨oc,hoc,hocd⟩:=id z;refine h {s with heap:=h'} ⟨I.ok,I.os,I.bare,⟨fun b o e n hb hx=>?_,fun b o e n hb hx=>?_,I.base.free,fun b o e hx=>?_,I.base.tups,I.base.frzs,I.base.tbls⟩,⟨m,hn.sameBut hs (Ne.symm (cne x c hc)),fun j y v' e1 e2 e3=>?_⟩,fun y c' e=>?_,I.free,I.freeC,fun p hp=>?_,tracked ⟨oc,hoc,I.freeC x c hc⟩ hs,by simpa using I.len⟩ ⟨c,hs,.inr hc⟩
  ·exact(hs.2 b (Nat.ne_of_lt (Nat.lt_of_lt_of_le (Heap.lt_size e) (I.ok.cab x c hfn hc)))).trans (I.base.keep b o e n hb hx)
  ·obtain⟨sl,e1⟩:=I.base.slot b o e n hb hx;exact⟨sl,(hs.2 b (Nat.ne_of_lt (Nat.lt_of_lt_of_le (Heap.lt_size e) (I.ok.cab x c hfn hc)))).trans e1⟩
  ·obtain⟨o',e1⟩:=I.base.there b o e hx;exact⟨o',(hs.2 b (Nat.ne_of_lt (Nat.lt_of_lt_of_le (Heap.lt_size e) (I.ok.cab x c hfn hc)))).trans e1⟩
  ·by_cases hj:j=i
   ·subst hj;rw [hi]at e1;cases e1;rw [List.getElem?_set_self hiσ]at e2;cases e2;exact⟨u,r,.inr ⟨.inl hk,c,hc,hc'⟩⟩
   ·rw [List.getElem?_set_ne (Ne.symm hj)]at e2;obtain⟨u',r',q⟩:=hl j y v' e1 e2 e3;refine⟨u',r',?_⟩;rcases q with q|⟨k,c',e,z'⟩
    ·exact .inl q
    ·refine .inr ⟨k,c',e,z'.sameBut hs ?_⟩;rintro rfl;exact hj (qhk hN e1 (I.ok.inj _ _ _ e hc▸hi))
  ·by_cases hcc:c'=c
   ·subst hcc;exact⟨_,hc'⟩
   ·obtain⟨w2,z2⟩:=I.cell y c' e;exact⟨w2,z2.sameBut hs hcc⟩
  ·obtain⟨e,n,ne,nf,d⟩:=I.pin p hp;refine⟨(hs.2 p.1 ?_).trans e,n,ne,nf,d⟩;intro q;rw [q,hoc]at e;have q':oc=p.2:=Option.some.inj e;exact d w' (by rw [←q'];exact hocd)
theorem qcb{M:Model}{A:Around}{E:Value→Shared→Prop}{i:Nat}{x:Str}{v:V}{u:Value}{Q:Unit→Shared→Prop}(I:Inv X pins σ H s)(hN:X.N.Nodup)(hi:X.N[i]? = some x)(hx:Loc X.env.scope x)(r:RelV v u)
  (h:∀s',Inv X pins (σ.set i (some v)) H s'→Q () s') (hf:X.fn x=true∨X.env.scope.names.lookup x=some .local:=by first|exact .inl rfl|exact .inr rfl|assumption):wpAny M A (storeName X.env x u) Q E s:=
 qfK I hN hi hx r (fun s' I' _=>h s' I') hf
theorem Inv.call'{s':Shared}{ch:List Addr}(I:Inv X pins σ H s)(ho:s'.os=s.os)(u:Un (frs X.stack) ch H H' s.heap s'.heap)(hok:HOk X.prog X.w H' s'.heap)(hg:AllBare s'.gens)
  (hch:∀b∈ch,(b∈X.ex∨X.s₀.heap.objs.size≤b)∧b≠X.env.locals∧(∀x c,X.env.cells.lookup x=some c→c≠b)∧∀p∈X.pn++pins,p.1≠b):Inv X pins σ H' s':=by
 obtain⟨h',g',d',t',o'⟩:=s';have e:o'=s.os:=ho;subst e;exact I.call (g':=g') (t':=t') (d':=d') u hok hg hch
end
abbrev XK:=Value→Option Addr→Hp→Prop
abbrev St:=List (Option V)
abbrev VK:=V→Hp→Prop
abbrev TE:=St→Hp→VK→Prop
abbrev TT:=St→Hp→(Bool→Hp→Prop)→Prop
abbrev TA:=St→Hp→(List V→Hp→Prop)→Prop
structure Ends where
 nx:St→Hp→Prop
 rt:VK
 bk:St→Hp→Prop:=fun _ _=>False
 ct:St→Hp→Prop:=fun _ _=>False
abbrev TS:=Ends→St→Hp→Prop
noncomputable def EP(X:Cx)(pins:List (Addr×Obj))(σ:St)(Q:VK)(u:Value)(s':Shared):Prop:=∃v H',Inv X pins σ H' s'∧RelV v u∧Q v H'
noncomputable def TP(X:Cx)(pins:List (Addr×Obj))(σ:St)(Q:Bool→Hp→Prop)(b:Bool)(s':Shared):Prop:=∃H',Inv X pins σ H' s'∧Q b H'
noncomputable def AP(X:Cx)(pins:List (Addr×Obj))(σ:St)(Q:List V→Hp→Prop)(us:List Value)(s':Shared):Prop:=∃vs H',Inv X pins σ H' s'∧Vals vs us∧Q vs H'
noncomputable def SP(X:Cx)(pins:List (Addr×Obj))(D:Ends)(f:Flow)(s':Shared):Prop:=
 match f with
 | .next=>∃σ' H',Inv X pins σ' H' s'∧D.nx σ' H'
 | .brk=>∃σ' H',Inv X pins σ' H' s'∧D.bk σ' H'
 | .cont=>∃σ' H',Inv X pins σ' H' s'∧D.ct σ' H'
 | .ret u=>∃v σ' H',Inv X pins σ' H' s'∧RelV v u∧D.rt v H'
noncomputable def PE(X:Cx)(e:Expr)(t:TE):Prop:=
 ∀(pins:List (Addr×Obj)) (s:Shared) (σ:St) (H:Hp) (Q:VK),Inv X pins σ H s→t σ H Q→wpAny (model X.prog X.w) X.A (eval e X.env) (EP X pins σ Q) X.xe s
noncomputable def PT(X:Cx)(e:Expr)(t:TT):Prop:=
 ∀(pins:List (Addr×Obj)) (s:Shared) (σ:St) (H:Hp) (Q:Bool→Hp→Prop),Inv X pins σ H s→t σ H Q→wpAny (model X.prog X.w) X.A (isTrue e X.env (eval e X.env)) (TP X pins σ Q) X.xe s
noncomputable def PW(X:Cx)(e:Expr)(t:TT):Prop:=
 ∀(whole:Sem Value) (pins:List (Addr×Obj)) (s:Shared) (σ:St) (H:Hp) (Q:Bool→Hp→Prop),Inv X pins σ H s→t σ H Q→wpAny (model X.prog X.w) X.A (isTrue e X.env whole) (TP X pins σ Q) X.xe s
theorem PW.pt{X:Cx}{e:Expr}{t:TT}(h:PW X e t):PT X e t:=h _
noncomputable def PA(X:Cx)(es:List Expr)(t:TA):Prop:=
 ∀(pos:Pos) (pins:List (Addr×Obj)) (s:Shared) (σ:St) (H:Hp) (Q:List V→Hp→Prop),Inv X pins σ H s→t σ H Q→wpAny (model X.prog X.w) X.A (spliced (backTo pos (starEach es X.env))) (AP X pins σ Q) X.xe s
noncomputable def PS(X:Cx)(st:Stmt)(t:TS):Prop:=
 ∀(pins:List (Addr×Obj)) (s:Shared) (σ:St) (H:Hp) (D:Ends),Inv X pins σ H s→t D σ H→wpAny (model X.prog X.w) X.A (exec st X.env) (SP X pins D) X.xe s
noncomputable def PSs(X:Cx)(st:List Stmt)(t:TS):Prop:=
 ∀(pins:List (Addr×Obj)) (s:Shared) (σ:St) (H:Hp) (D:Ends),Inv X pins σ H s→t D σ H→wpAny (model X.prog X.w) X.A (execs st X.env) (SP X pins D) X.xe s
theorem thn{α:Type}{t:Sem α}{Q Q':α→Shared→Prop}{M:Model}{A:Around}{E:Value→Shared→Prop}{s:Shared}(h:wpAny M A t Q E s)(hQ:∀a s,Q a s→Q' a s):wpAny M A t Q' E s:=wpAny_mono h hQ fun _ _ x=>x
section
variable{X:Cx}
theorem bin{a b:Expr}{ta tb:TE}(ha:PE X a ta)(hb:PE X b tb){pins:List (Addr×Obj)}{s:Shared}{σ:St}{H:Hp}{R:V→V→Hp→Prop}(I:Inv X pins σ H s)(h:ta σ H fun x H1=>tb σ H1 fun y H2=>R x y H2)
  {α:Type}{Q:α→Shared→Prop}{f:Value→Value→Sem α}
  (hf:∀v u s2 x y H2,Inv X pins σ H2 s2→RelV x v→RelV y u→R x y H2→wpAny (model X.prog X.w) X.A (f v u) Q X.xe s2) :
  wpAny (model X.prog X.w) X.A (eval a X.env) (fun v s₁=>wpAny (model X.prog X.w) X.A (eval b X.env) (fun u s₂=>wpAny (model X.prog X.w) X.A (f v u) Q X.xe s₂) X.xe s₁) X.xe s:=by
 refine thn (ha pins s σ H _ I h) fun v s1 ⟨x,H1,I1,r1,q1⟩=>?_
 refine thn (hb pins s1 σ H1 _ I1 q1) fun u s2 ⟨y,H2,I2,r2,q2⟩=>?_
 exact hf v u s2 x y H2 I2 r1 r2 q2
noncomputable def qgT(i:Nat):TE:=fun σ H Q=>∃v,σ[i]? = some (some v)∧Q v H
noncomputable def tC(v:V):TE:=fun _ H Q=>Q v H
theorem qed{i:Nat}{x:Str}{pos:Pos}(hN:X.N[i]? = some x)(hv:Vis X.env.scope x)(hd:(x==("__debug__" : Str))=false:=by decide)(hcd:(x==("__classdict__" : Str))=false:=by decide):PE X (.Name x pos) (qgT i):=by
 intro pins s σ H Q I h;obtain⟨v,e,h⟩:=h;obtain⟨m,hn,hl⟩:=I.loc;obtain⟨u,r,l⟩:=hl i x v hN e hv;have fin:EP X pins σ Q u s:=⟨v,H,I,r,h⟩
 rcases l with ⟨hk,hm⟩|⟨hk,c,hc,hcell⟩
 ·exact wpAny_Name (wpAny_loadName_local I.ok.kind hk hn hm fin) hd
 ·rcases hk with hk|hk
  ·exact wpAny_Name (wpAny_loadName_cell I.ok.kind hk hc hcell fin) hd
  ·exact wpAny_Name (wpAny_loadName_free I.ok.kind hk hc hcell fin hcd) hd
theorem qqx{i j pos}:PE X (.Constant (.int i) j pos) (tC (.int i)):=fun _ _ _ H _ I h=>wpAny_Constant_int ⟨.int i,H,I.tok _,⟨_,rfl⟩,h⟩
theorem qrt{b j pos}:PE X (.Constant (.bool b) j pos) (tC (.bl b)):=fun _ _ _ H _ I h=>Constant_bool ⟨.bl b,H,I,rfl,h⟩
theorem qpf{j pos}:PE X (.Constant .none j pos) (tC .non):=fun _ _ _ H _ I h=>Constant_none ⟨.non,H,I,rfl,h⟩
theorem qec{x j pos}:PE X (.Constant (.str x) j pos) (tC (.str x)):=fun _ _ _ H _ I h=>Calls.Constant_str ⟨.str x,H,I.tok _,⟨_,rfl⟩,h⟩
noncomputable def Gl(X:Cx)(x:Str):Prop:=X.env.kindOf x=some .globalImplicit
theorem qeJ{E:Value→Shared→Prop}{pins:List (Addr×Obj)}{s:Shared}{σ:St}{H:Hp}{x:Str}{u:Value}{pos:Pos}{Q:Value→Shared→Prop}(I:Inv X pins σ H s)(hg:Gl X x)(hm:X.mg x=some u)(h:Q u s)
  (hd:(x==("__debug__" : Str))=false:=by decide):wpAny (model X.prog X.w) X.A (eval (.Name x pos) X.env) Q E s:=
 Calls.Name_function_global I.ok.kind hg (Calls.loadGlobal_global (by rw [I.ok.glob];exact I.mod.glob.keeps I.bk) hm h) hd
theorem qbg{E:Value→Shared→Prop}{pins:List (Addr×Obj)}{s:Shared}{σ:St}{H:Hp}{x:Str}{u:Value}{pos:Pos}{Q:Value→Shared→Prop}(I:Inv X pins σ H s)(hg:Gl X x)(hm:X.mg x=none)(hv:bootBuiltins x=some u)(h:Q u s)
  (hn:x≠"__name__":=by decide) (hd:(x==("__debug__" : Str))=false:=by decide):wpAny (model X.prog X.w) X.A (eval (.Name x pos) X.env) Q E s:=by
 obtain⟨mb,h1,h2⟩:=I.mod.blt;exact Calls.Name_function_global I.ok.kind hg (Calls.loadGlobal_builtin (by rw [I.ok.glob];exact I.mod.glob.keeps I.bk) hm (by rw [I.ok.blt];exact h1.keeps I.bk) ((h2 x hn).trans hv) h) hd
theorem qdu{x:Str}{v:V}{u:Value}{pos:Pos}(hg:Gl X x)(hm:X.mg x=some u)(r:RelV v u)(hd:(x==("__debug__" : Str))=false:=by decide):PE X (.Name x pos) (tC v):=
 fun _ _ _ H _ I h=>qeJ I hg hm ⟨v,H,I,r,h⟩ hd
theorem qov{x:Str}{v:V}{u:Value}{pos:Pos}(hg:Gl X x)(hm:X.mg x=none)(hv:bootBuiltins x=some u)(r:RelV v u)(hn:x≠"__name__":=by decide)(hd:(x==("__debug__" : Str))=false:=by decide):PE X (.Name x pos) (tC v):=
 fun _ _ _ H _ I h=>qbg I hg hm hv ⟨v,H,I,r,h⟩ hn hd
variable{a b:Expr}{ta tb:TE}{pos:Pos}
variable{tA tB':TT}{rest:List Expr}
noncomputable def qsg(t u:TT):TT:=fun σ H Q=>t σ H fun c H1=>if c=true then u σ H1 Q else Q false H1
noncomputable def tOr(t u:TT):TT:=fun σ H Q=>t σ H fun c H1=>if c=true then Q true H1 else u σ H1 Q
noncomputable def qsz(t:TT):TT:=fun σ H Q=>t σ H fun c H1=>Q (!c) H1
theorem qnZ(ha:PT X a tA):PW X (.BoolOp .And [a] pos) tA:=by
 intro wh pins s σ H Q I h;refine isTrue_and (thn (ha pins s σ H Q I h) fun c s1 e=>?_);cases c with
 |true=>exact isTrue_and_nil e
 |false=>exact e
theorem qqq(ha:PT X a tA):PW X (.BoolOp .Or [a] pos) tA:=by
 intro wh pins s σ H Q I h;refine isTrue_or (thn (ha pins s σ H Q I h) fun c s1 e=>?_);cases c with
 |false=>exact isTrue_or_nil e
 |true=>exact e
theorem qoK(ha:PT X a tA)(hb:PW X (.BoolOp .And (b::rest) pos) tB'):PW X (.BoolOp .And (a::b::rest) pos) (qsg tA tB'):=by
 intro wh pins s σ H Q I h;refine isTrue_and (thn (ha pins s σ H _ I h) fun c s1 ⟨H1,I1,q1⟩=>?_);cases c with
 |true=>exact hb wh pins s1 σ H1 Q I1 q1
 |false=>exact⟨H1,I1,q1⟩
theorem qrx(ha:PT X a tA)(hb:PW X (.BoolOp .Or (b::rest) pos) tB'):PW X (.BoolOp .Or (a::b::rest) pos) (tOr tA tB'):=by
 intro wh pins s σ H Q I h;refine isTrue_or (thn (ha pins s σ H _ I h) fun c s1 ⟨H1,I1,q1⟩=>?_);cases c with
 |true=>exact⟨H1,I1,q1⟩
 |false=>exact hb wh pins s1 σ H1 Q I1 q1
theorem qqP(ha:PT X a tA):PT X (.UnaryOp .Not a pos) (qsz tA):=by
 intro pins s σ H Q I h;exact isTrue_not (ha pins s σ H (fun c H1=>Q (!c) H1) I h)
noncomputable def qrU(ta tb:TE):TE:=fun σ H Q=>ta σ H fun x H1=>∃c,x=.bl c∧if c=true then tb σ H1 Q else Q (.bl false) H1
noncomputable def qsk(ta tb:TE):TE:=fun σ H Q=>ta σ H fun x H1=>∃c,x=.bl c∧if c=true then Q (.bl true) H1 else tb σ H1 Q
noncomputable def qse(ta:TE):TE:=fun σ H Q=>ta σ H fun x H1=>∃c,x=.bl c∧Q (.bl (!c)) H1
theorem qqV{op}{t:TE}(h:PE X a t):PE X (.BoolOp op [a] pos) t:=fun pins s σ H Q I hw=>BoolOp_one (h pins s σ H Q I hw)
theorem qpe(ha:PE X a ta)(hb:PE X (.BoolOp .And (b::rest) pos) tb):PE X (.BoolOp .And (a::b::rest) pos) (qrU ta tb):=by
 intro pins s σ H Q I h;refine BoolOp_and (thn (ha pins s σ H _ I h) fun v s1 ⟨x,H1,I1,r1,q1⟩=>?_);obtain⟨c,rfl,q1⟩:=q1;cases r1;refine wpAny_truthy_bool ?_;cases c with
 |true=>exact hb pins s1 σ H1 Q I1 q1
 |false=>exact⟨.bl false,H1,I1,rfl,q1⟩
theorem qrb(ha:PE X a ta)(hb:PE X (.BoolOp .Or (b::rest) pos) tb):PE X (.BoolOp .Or (a::b::rest) pos) (qsk ta tb):=by
 intro pins s σ H Q I h;refine BoolOp_or (thn (ha pins s σ H _ I h) fun v s1 ⟨x,H1,I1,r1,q1⟩=>?_);obtain⟨c,rfl,q1⟩:=q1;cases r1;refine wpAny_truthy_bool ?_;cases c with
 |false=>exact hb pins s1 σ H1 Q I1 q1
 |true=>exact⟨.bl true,H1,I1,rfl,q1⟩
theorem qqU(ha:PE X a ta):PE X (.UnaryOp .Not a pos) (qse ta):=by
 intro pins s σ H Q I h;refine UnaryOp_ (thn (ha pins s σ H _ I h) fun v s1 ⟨x,H1,I1,r1,q1⟩=>?_);obtain⟨c,rfl,q1⟩:=q1;cases r1;exact not_of (wpAny_truthy_bool ⟨.bl (!c),H1,I1,rfl,q1⟩)
noncomputable def tIf(t:TT)(ta tb:TE):TE:=fun σ H Q=>t σ H fun c H1=>if c=true then ta σ H1 Q else tb σ H1 Q
theorem qmC{c:Expr}(hc:PT X c tA)(ha:PE X a ta)(hb:PE X b tb):PE X (.IfExp c a b pos) (tIf tA ta tb):=by
 intro pins s σ H Q I h;refine wpAny_IfExp (thn (hc pins s σ H _ I h) fun d s1 ⟨H1,I1,q1⟩=>?_);cases d with
 |true=>exact ha pins s1 σ H1 Q I1 q1
 |false=>exact hb pins s1 σ H1 Q I1 q1
end
noncomputable def SqL(K:PySem.W.Frag)(H:Hp)(a:Addr)(xs:List V):Prop:=
 Rd H a (.lst xs) ∨
  ∃(o:Obj) (its:Array Value) (n:Nat),K.lookup a=some o∧o.cls=.type "list"∧o.dict=none∧o.data=.seq its n∧its.size≤sizeLine∧Vals xs its.toList
noncomputable def SqT(K:PySem.W.Frag)(H:Hp)(a:Addr)(xs:List V):Prop:=
 Rd H a (.tup xs) ∨
  ∃(o:Obj) (its:Array Value) (n:Nat),K.lookup a=some o∧o.cls=.type "tuple"∧o.data=.seq its n∧its.size≤sizeLine∧Vals xs its.toList
noncomputable def qsx:Value→Option V
 | .none=>some .non
 | .bool b=>some (.bl b)
 | .int i _=>some (.int i)
 | .str x _=>some (.str x)
 | .bytes b _=>some (.byt b)
 | .float b _=>some (.flt b)
 | .ref a=>some (.ref a)
 | .type n=>some (.ty n)
 |_=>none
theorem RelV.abs{x:V}{u:Value}(r:RelV x u):qsx u=some x:=by
 cases x with
 |non=>cases r;rfl
 |bl _=>cases r;rfl
 |int _=>obtain⟨t,rfl⟩:=r;rfl
 |str _=>obtain⟨t,rfl⟩:=r;rfl
 |byt _=>obtain⟨t,rfl⟩:=r;rfl
 |flt _=>obtain⟨t,rfl⟩:=r;rfl
 |ref _=>cases r;rfl
 |ty _=>cases r;rfl
theorem RelV.inj{x y:V}{u:Value}(r:RelV x u)(q:RelV y u):x=y:=Option.some.inj (r.abs.symm.trans q.abs)
theorem Vals.inj{xs ys:List V}{us:List Value}(h:Vals xs us)(h':Vals ys us):xs=ys:=by
 induction h generalizing ys with
 |nil=>cases h';rfl
 |cons r t ih=>cases h' with
  |cons r' t'=>rw [r.inj r',ih t']
section
variable{X:Cx}{pins:List (Addr×Obj)}{σ:St}{H:Hp}{s:Shared}{a:Addr}{xs ys:List V}
theorem SqL.of{K:PySem.W.Frag}(h:H a=some (.lst xs)):SqL K H a xs:=.inl (.inl h)
theorem SqT.of{K:PySem.W.Frag}(h:H a=some (.tup xs)):SqT K H a xs:=.inl (.inl h)
theorem Inv.list(I:Inv X pins σ H s)(h:SqL X.K H a xs):∃its:List Value,Vals xs its∧PlainL s.heap a its.toArray∧xs.length≤sizeLine:=by
 rcases h with h|⟨o,its,n,hk,hc,hd,hs,hz,r⟩
 ·obtain⟨z,its,n,r,e⟩:=h.ok I.hok;exact⟨its,r,⟨_,n,e,rfl,rfl,rfl⟩,z⟩
 ·refine⟨its.toList,r,⟨o,n,I.kIn a o hk,hc,hd,by simpa using hs⟩,?_⟩;have e:=r.length;simp only [Array.length_toList]at e;lia
theorem Inv.tuple(I:Inv X pins σ H s)(h:SqT X.K H a xs):∃its:List Value,Vals xs its∧IsTup s.heap a its.toArray∧xs.length≤sizeLine:=by
 rcases h with h|⟨o,its,n,hk,hc,hs,hz,r⟩
 ·obtain⟨z,its,r,p⟩:=h.ok I.hok;exact⟨its,r,p,z⟩
 ·refine⟨its.toList,r,⟨o,I.kIn a o hk,hc,n,by simpa using hs⟩,?_⟩;have e:=r.length;simp only [Array.length_toList]at e;lia
theorem Inv.list_inj(I:Inv X pins σ H s)(h:SqL X.K H a xs)(h':SqL X.K H a ys):xs=ys:=by
 obtain⟨its,r,⟨o,n,e,_,_,d⟩,_⟩:=I.list h;obtain⟨its',r',⟨o',n',e',_,_,d'⟩,_⟩:=I.list h';rw [e]at e';cases e';rw [d]at d';injection d' with d1 _
 have:its=its':=by simpa using congrArg Array.toList d1
 subst this;exact r.inj r'
theorem Inv.tuple_inj(I:Inv X pins σ H s)(h:SqT X.K H a xs)(h':SqT X.K H a ys):xs=ys:=by
 obtain⟨its,r,⟨o,e,_,n,d⟩,_⟩:=I.tuple h;obtain⟨its',r',⟨o',e',_,n',d'⟩,_⟩:=I.tuple h';rw [e]at e';cases e';rw [d]at d';injection d' with d1 _
 have:its=its':=by simpa using congrArg Array.toList d1
 subst this;exact r.inj r'
end
abbrev Cx.wish(X:Cx)(E:Value→Shared→Prop):Cx:={X with xe:=E}
abbrev Cx.nox(X:Cx):Cx:=X.wish fun _ _=>False
theorem Cx.Ok.wish{X:Cx}(ok:X.Ok)(E:Value→Shared→Prop):(X.wish E).Ok:=
 ⟨ok.mod,ok.kind,ok.glob,ok.blt,ok.above,ok.inj,ok.has,ok.cab,ok.hd,ok.frames,ok.stk,ok.exf,ok.bs,ok.bsz,ok.noex,ok.exfs,ok.funs,ok.frf⟩
theorem Cx.Ok.unwish{X:Cx}{E:Value→Shared→Prop}(ok:(X.wish E).Ok):X.Ok:=
 ⟨ok.mod,ok.kind,ok.glob,ok.blt,ok.above,ok.inj,ok.has,ok.cab,ok.hd,ok.frames,ok.stk,ok.exf,ok.bs,ok.bsz,ok.noex,ok.exfs,ok.funs,ok.frf⟩
section
variable{X:Cx}{pins:List (Addr×Obj)}{σ:St}{H:Hp}{s:Shared}{E:Value→Shared→Prop}
theorem Inv.wish(I:Inv X pins σ H s)(E:Value→Shared→Prop):Inv (X.wish E) pins σ H s:=⟨I.ok.wish E,I.os,I.bare,I.base,I.loc,I.cell,I.free,I.freeC,I.pin,I.hok,I.len⟩
theorem Inv.unwish(I:Inv (X.wish E) pins σ H s):Inv X pins σ H s:=⟨I.ok.unwish,I.os,I.bare,I.base,I.loc,I.cell,I.free,I.freeC,I.pin,I.hok,I.len⟩
theorem SP.unwish{D:Ends}{f:Flow}{s':Shared}(h:SP (X.wish E) pins D f s'):SP X pins D f s':=by
 cases f with
 |next=>obtain⟨σ',H',I,q⟩:=h;exact⟨σ',H',I.unwish,q⟩
 |brk=>obtain⟨σ',H',I,q⟩:=h;exact⟨σ',H',I.unwish,q⟩
 |cont=>obtain⟨σ',H',I,q⟩:=h;exact⟨σ',H',I.unwish,q⟩
 |ret u=>obtain⟨v,σ',H',I,r,q⟩:=h;exact⟨v,σ',H',I.unwish,r,q⟩
end
section
variable{X:Cx}{st:Stmt}{rest:List Stmt}{t u:TS}{e:Expr}{te:TE}{pos:Pos}
noncomputable def qbL:TS:=fun D σ H=>D.nx σ H
noncomputable def qss(t u:TS):TS:=fun D σ H=>t {D with nx:=u D} σ H
theorem qnM:PSs X [] qbL:=fun _ _ σ H _ I h=>wpAny_execs_nil ⟨σ,H,I,h⟩
theorem qha(h1:PS X st t)(h2:PSs X rest u):PSs X (st::rest) (qss t u):=by
 intro pins s σ H D I h;refine wpAny_execs_cons (thn (h1 pins s σ H {D with nx:=u D} I h) fun f s1 q=>?_);cases f with
 |next=>
  obtain⟨σ',H',I',q⟩:=q;exact h2 pins s1 σ' H' D I' q
 |ret v=>exact q
 |brk=>exact q
 |cont=>exact q
noncomputable def qqG:TS:=fun D σ H=>D.bk σ H
noncomputable def qrL:TS:=fun D σ H=>D.ct σ H
theorem qok:PS X (.Pass pos) qbL:=fun _ _ σ H _ I h=>wpAny_Pass ⟨σ,H,I,h⟩
theorem qlT:PS X (.Break pos) qqG:=fun _ _ σ H _ I h=>wpAny_Break ⟨σ,H,I,h⟩
theorem qhP:PS X (.Continue pos) qrL:=fun _ _ σ H _ I h=>wpAny_Continue ⟨σ,H,I,h⟩
theorem Inv.quiet{pins:List (Addr×Obj)}{σ:St}{H:Hp}{s:Shared}(I:Inv X pins σ H s):interactive X.env=false:=by simp [interactive,I.ok.kind]
noncomputable def qrT(te:TE):TS:=fun D σ H=>te σ H fun _ H1=>D.nx σ H1
theorem qiD(he:PE X e te)(hs:swapsWith e none pos.line X.env=pure false:=by rfl):PS X (.Expr e pos) (qrT te):=by
 intro pins s σ H D I h;exact wpAny_Expr_any (thn (he pins s σ H _ I h) fun v s1 ⟨x,H1,I1,r1,q1⟩=>⟨σ,H1,I1,q1⟩) I.quiet hs
noncomputable def qsL(te:TE):TS:=fun D σ H=>te σ H D.rt
theorem qla(he:PE X e te):PS X (.Return (some e) pos) (qsL te):=by
 intro pins s σ H D I h;exact wpAny_Return_some (thn (he pins s σ H _ I h) fun v s1 ⟨x,H1,I1,r1,q1⟩=>⟨x,σ,H1,I1,r1,q1⟩)
noncomputable def qrG:TS:=fun D _ H=>D.rt .non H
theorem qnG:PS X (.Return none pos) qrG:=fun _ _ σ H _ I h=>wpAny_Return_none ⟨.non,σ,H,I,rfl,h⟩
noncomputable def qdg(c:TT)(t u:TS):TS:=fun D σ H=>c σ H fun b H1=>if b=true then t D σ H1 else u D σ H1
theorem qrX{c:Expr}{a b:List Stmt}{tc:TT}(hc:PT X c tc)(ha:PSs X a t)(hb:PSs X b u):PS X (.If c a b pos) (qdg tc t u):=by
 intro pins s σ H D I h;refine wpAny_If (thn (hc pins s σ H _ I h) fun d s1 ⟨H1,I1,q1⟩=>?_);cases d with
 |true=>exact ha pins s1 σ H1 D I1 q1
 |false=>exact hb pins s1 σ H1 D I1 q1
end
abbrev TG:=V→St→Hp→(St→Hp→Prop)→Prop
abbrev TGs:=List V→St→Hp→(St→Hp→Prop)→Prop
noncomputable def PG(X:Cx)(target:Expr)(t:TG):Prop:=
 ∀(pins:List (Addr×Obj)) (s:Shared) (σ:St) (H:Hp) (v:V) (u:Value) (Q:St→Hp→Prop),Inv X pins σ H s→RelV v u→t v σ H Q →
  wpAny (model X.prog X.w) X.A (assign target X.env u) (fun _ s'=>∃σ' H',Inv X pins σ' H' s'∧Q σ' H') X.xe s
noncomputable def PGs(X:Cx)(ts:List Expr)(t:TGs):Prop:=
 ∀(pins:List (Addr×Obj)) (s:Shared) (σ:St) (H:Hp) (vs:List V) (us:List Value) (Q:St→Hp→Prop),Inv X pins σ H s→Vals vs us→t vs σ H Q →
  wpAny (model X.prog X.w) X.A (assignInOrder ((assignEach ts X.env).map (·.2)) us) (fun _ s'=>∃σ' H',Inv X pins σ' H' s'∧Q σ' H') X.xe s
abbrev qlW:=V→V→V→Hp→(Hp→Prop)→Prop
noncomputable def qqW(X:Cx)(t:qlW):Prop:=
 ∀(pins:List (Addr×Obj)) (s:Shared) (σ:St) (H:Hp) (o i v:V) (ov iv u:Value) (Q:Hp→Prop),Inv X pins σ H s→RelV o ov→RelV i iv→RelV v u→t o i v H Q →
  wpAny (model X.prog X.w) X.A (setItem ov iv u) (fun _ s'=>∃H',Inv X pins σ H' s'∧Q H') X.xe s
section
variable{X:Cx}{pos:Pos}
noncomputable def qci(i:Nat):TG:=fun v σ H Q=>Q (σ.set i (some v)) H
theorem qnJ{i:Nat}{x:Str}(hN:X.N.Nodup)(hi:X.N[i]? = some x)(hx:Loc X.env.scope x)(hf:X.fn x=true∨X.env.scope.names.lookup x=some .local:=by first|exact .inl rfl|exact .inr rfl|assumption):PG X (.Name x pos) (qci i):=by
 intro pins s σ H v u Q I r h;exact wpAny_assign_Name (qcb I hN hi hx r (fun s' I'=>⟨_,H,I',h⟩) hf)
noncomputable def qoE:TGs:=fun vs σ H Q=>vs=[]∧Q σ H
noncomputable def qmT(t:TG)(u:TGs):TGs:=fun vs σ H Q=>∃v r,vs=v::r∧t v σ H fun σ' H'=>u r σ' H' Q
theorem qnE:PGs X [] qoE:=by
 intro pins s σ H vs us Q I r h;obtain⟨e,h⟩:=h;subst e;cases r;exact assignInOrder_nil ⟨σ,H,I,h⟩
theorem qmn{e:Expr}{es:List Expr}{t:TG}{u:TGs}(h1:PG X e t)(h2:PGs X es u)
  (hs:(assignEach (e::es) X.env).map (·.2)=assign e X.env::(assignEach es X.env).map (·.2):=by rfl):PGs X (e::es) (qmT t u):=by
 intro pins s σ H vs us Q I r h;obtain⟨v,vr,e1,h⟩:=h;subst e1;cases r with
 |cons r rr=>
  rw [hs];refine assignInOrder_cons (thn (h1 pins s σ H _ _ _ I r h) fun _ s1 ⟨σ1,H1,I1,q1⟩=>?_);exact h2 pins s1 σ1 H1 _ _ Q I1 rr q1
noncomputable def qpa(K:PySem.W.Frag)(n:Nat)(t:TGs):TG:=fun v σ H Q=>∃a xs,v=.ref a∧SqT K H a xs∧xs.length=n∧t xs σ H Q
theorem qpt{es:List Expr}{k:Nat}{t:TGs}{n:Nat}(hc:X.calm=true)(h:PGs X es t)
  (hn:(assignEach es X.env).length=n:=by rfl) (hst:(assignEach es X.env).findIdx? (·.1)=none:=by rfl):PG X (.Tuple es k pos) (qpa X.K n t):=by
 intro pins s σ H v u Q I r hw;obtain⟨a,xs,e1,hq,hl,hw⟩:=hw;subst e1;cases r;obtain⟨its,rv,ht,hz⟩:=I.tuple hq;refine assign_Tuple_tuple (I.ok.hd hc) ht (by simp [hn,←hl,rv.length]) hst fun h' hx=>?_
 have I1:Inv X pins σ H {s with heap:=h'}:=I.kept (t':=s.toks) fun b o e=>hx b o (Nat.ne_of_lt (Heap.lt_size e)) e
 exact h pins _ σ H xs _ Q I1 (by simpa using rv) hw
noncomputable def qqn(to ti:TE)(t:qlW):TG:=fun v σ H Q=>to σ H fun o H1=>ti σ H1 fun i H2=>t o i v H2 fun H3=>Q σ H3
theorem qqt{o i:Expr}{to ti:TE}{t:qlW}(ho:PE X o to)(hi:PE X i ti)(hs:qqW X t)
  (ha:∀v,assign (.Subscript o i pos) X.env v=(do
   let ov ←holding [v] (eval o X.env)
   let iv ←holding [v,ov] (eval i X.env)
   standAt pos
   holding [v,ov,iv] (setItem ov iv v)
   release [v,ov,iv] []):=by intro _;rfl):PG X (.Subscript o i pos) (qqn to ti t):=by
 intro pins s σ H v u Q I r h;rw [ha];refine wpAny_bind (wpAny_holding (thn (ho pins s σ H _ I h) fun ov s1 ⟨x,H1,I1,r1,q1⟩=>?_));refine wpAny_bind (wpAny_holding (thn (hi pins s1 σ H1 _ I1 q1) fun iv s2 ⟨y,H2,I2,r2,q2⟩=>?_));refine wpAny_bind (wpAny_standAt (wpAny_bind (wpAny_holding (thn (hs pins s2 σ H2 x y v ov iv u _ I2 r1 r2 r q2) fun _ s3 ⟨H3,I3,q3⟩=>?_))));exact wpAny_release ⟨σ,H3,I3,q3⟩
noncomputable def qiN(te:TE)(g:TG):TS:=fun D σ H=>te σ H fun x H1=>g x σ H1 D.nx
theorem qkX{tg e:Expr}{te:TE}{g:TG}(he:PE X e te)(hg:PG X tg g)(hs:swapsWithSole [tg] e pos.line X.env=pure false:=by rfl)(hw:swappedStores [tg] e X.env=pure none:=by rfl)
  (h1:(assignEach [tg] X.env).map (·.2)=[assign tg X.env]:=by rfl):PS X (.Assign [tg] e pos) (qiN te g):=by
 intro pins s σ H D I h;refine wpAny_Assign_stores (thn (he pins s σ H _ I h) fun v s1 ⟨x,H1,I1,r1,q1⟩=>?_) hs hw;rw [h1];exact thn (hg pins s1 σ H1 x v _ I1 r1 q1) fun _ s2 q=>q
theorem qku{i:Nat}{x:Str}{e:Expr}{te:TE}{pos':Pos}(hN:X.N.Nodup)(hi:X.N[i]? = some x)(hx:Loc X.env.scope x)(he:PE X e te)(hs:swapsWith e (some (.Name x pos')) pos.line X.env=pure false:=by rfl)(hf:X.fn x=true∨X.env.scope.names.lookup x=some .local:=by first|exact .inl rfl|exact .inr rfl|assumption) :
  PS X (.Assign [.Name x pos'] e pos) (qiN te (qci i)):=by
 intro pins s σ H D I h;refine wpAny_Assign_Name (thn (he pins s σ H _ I h) fun v s1 ⟨y,H1,I1,r1,q1⟩=>?_) hs;exact qcb I1 hN hi hx r1 (fun s2 I2=>⟨_,H1,I2,q1⟩) hf
end
section
variable{X:Cx}{pos:Pos}
end
structure It where
 go:Nat→Hp→Prop
 yld:Nat→Hp→V→Hp→Prop
 stop:Nat→Hp→Prop
noncomputable def qbp(X:Cx)(pins:List (Addr×Obj))(H:Hp)(b:Addr):Prop:=
 H b=none∧b≠X.env.locals∧b∉X.fs∧(b∈X.ex∨X.s₀.heap.objs.size≤b)∧(∀x c,X.env.cells.lookup x=some c→c≠b)∧∀p∈X.pn++pins,p.1≠b
theorem Inv.fpOk{X:Cx}{pins:List (Addr×Obj)}{σ:St}{H H':Hp}{s:Shared}{b:Addr}(I:Inv X pins σ H s)(hb:s.heap.objs.size≤b)(hn:H' b=none):qbp X pins H' b:=by
 refine⟨hn,Nat.ne_of_gt (Nat.lt_of_lt_of_le I.lt hb),I.nofs hb,.inr (Nat.le_trans I.sz hb),fun x c e z=>?_,fun p hp z=>?_⟩
 ·obtain⟨v,q⟩:=I.cell x c e;exact absurd (Nat.lt_of_lt_of_le q.lt (by rw [z];exact hb)) (Nat.lt_irrefl _)
 ·exact absurd (Nat.lt_of_lt_of_le (Heap.lt_size (I.pin p hp).1) (by rw [z];exact hb)) (Nat.lt_irrefl _)
structure Turn(P:Program)(w:World)(K:PySem.W.Frag)(tg:Expr)(J:It)(fp:List Addr)(it:Addr)(tn:Nat→Heap→Prop):Prop where
 mem:it∈fp
 obj:∀i h,tn i h→∀b∈fp,∃o,h.get? b=some o∧∀v,o.data≠.cell v
 keep:∀i h h',tn i h→(∀b∈fp,∀o,h.get? b=some o→h'.get? b=some o)→tn i h'
 item:∀(X:Cx),X.prog=P→X.w=w→X.K=K→X.calm=true→∀(i:Nat) (pins:List (Addr×Obj)) (s:Shared) (σ:St) (H:Hp) (E:Value→Shared→Prop),Inv X pins σ H s→(∀b∈fp,qbp X pins H b)→tn i s.heap→J.go i H →
  wpAny (model P w) X.A (pyNext (.ref it)) (fun r s1=>∃u,r=some u ∧
   wpAny (model P w) X.A (letOwnedTupleGo tg (.ref it) u) (fun _ s2=>∃x H',Inv X pins σ H' s2∧RelV x u∧J.yld i H x H'∧tn (i+1) s2.heap∧∀b∈fp,H' b=none) E s1) E s
 done:∀(X:Cx),X.prog=P→X.w=w→X.K=K→X.calm=true→∀(i:Nat) (pins:List (Addr×Obj)) (s:Shared) (σ:St) (H:Hp) (E:Value→Shared→Prop),Inv X pins σ H s→(∀b∈fp,qbp X pins H b)→tn i s.heap→J.stop i H →
  wpAny (model P w) X.A (pyNext (.ref it)) (fun r s1=>r=none∧Inv X pins σ H s1) E s
 self:∀(A:Around) (i:Nat) (s:Shared) (Q:Value→Shared→Prop) (E:Value→Shared→Prop),tn i s.heap→Q (.ref it) s→wpAny (model P w) A (pyIter (.ref it)) Q E s
abbrev TI:=St→Hp→(It→Hp→Prop)→Prop
noncomputable def PIE(X:Cx)(pins:List (Addr×Obj))(σ:St)(tg:Expr)(R:It→Hp→Prop)(itv:Value)(s2:Shared):Prop:=
 ∃(it:Addr) (fp:List Addr) (tn:Nat→Heap→Prop) (J:It) (H':Hp),itv=.ref it∧Inv X pins σ H' s2∧Turn X.prog X.w X.K tg J fp it tn∧tn 0 s2.heap∧(∀b∈fp,qbp X pins H' b)∧R J H'
noncomputable def PI(X:Cx)(tg iter:Expr)(wi:TI):Prop:=
 ∀(pins:List (Addr×Obj)) (s:Shared) (σ:St) (H:Hp) (R:It→Hp→Prop),Inv X pins σ H s→wi σ H R →
  wpAny (model X.prog X.w) X.A (eval iter X.env) (fun v s1=>wpAny (model X.prog X.w) X.A (pyIter v) (PIE X pins σ tg R) X.xe s1) X.xe s
theorem qgp{M:Model}{A:Around}{E:Value→Shared→Prop}{s:Shared}{tg:Expr}{it:Addr}{u:Value}{o:Obj}{n:String}{vs:Array Value}{Q:Unit→Shared→Prop}(ho:s.heap.get? it=some o)(hc:o.cls=.type n)(hd:o.data=.fields vs)
  (hn:["enumerate","zip","dict_itemiterator","dict_reverseitemiterator","odict_iterator","itertools.zip_longest","itertools.pairwise"].contains n=false) (hQ:Q () s):wpAny M A (letOwnedTupleGo tg (.ref it) u) Q E s:=by
 unfold letOwnedTupleGo;cases tg<;>first
  |exact wpAny_pure hQ
  | (cases u<;>first
    |exact wpAny_pure hQ
    | (refine wpAny_bind (wpAny_load ho ?_)
       rw [hc,hd];show wpAny M A (if (["enumerate","zip","dict_itemiterator","dict_reverseitemiterator","odict_iterator","itertools.zip_longest","itertools.pairwise"].contains n&&vs[0]? == some (rawInt _))=true then _ else _) Q E s;rw [if_neg (by intro h;rw [hn,Bool.false_and]at h;cases h)];exact wpAny_pure hQ))
noncomputable def Itl(K:PySem.W.Frag)(a:Addr):It:=
 ⟨fun i H=>∃xs x,SqL K H a xs∧xs[i]? = some x,fun i H x H'=>H'=H∧∀xs,SqL K H a xs→xs[i]? = some x,fun i H=>∃xs,SqL K H a xs∧xs.length≤i⟩
noncomputable def Itt(K:PySem.W.Frag)(a:Addr):It:=
 ⟨fun i H=>∃xs x,SqT K H a xs∧xs[i]? = some x,fun i H x H'=>H'=H∧∀xs,SqT K H a xs→xs[i]? = some x,fun i H=>∃xs,SqT K H a xs∧xs.length≤i⟩
noncomputable def Itr(lo:Int)(n:Nat):It:=⟨fun i _=>i<n,fun i H x H'=>H'=H∧x=.int (lo+i),fun i _=>n≤i⟩
theorem qkV{P:Program}{w:World}{K:PySem.W.Frag}{tg:Expr}(a it:Addr):Turn P w K tg (Itl K a) [it] it (fun i h=>h.IsListIter it a i) where
 mem:=by simp
 obj:=fun i h st b hb=>by
  have e:b=it:=by simpa using hb
  subst e;obtain⟨o,e,c,d⟩:=st;exact⟨o,e,fun v z=>by rw [d]at z;cases z⟩
 keep:=fun i h h' st k=>st.at fun o e=>k it (by simp) o e
 item:=by
  intro X hP hw hK hc i pins s σ H E I hf st hg;subst hP hw hK;obtain⟨xs,x,hq,hx⟩:=hg;obtain⟨its,rv,p,hz⟩:=I.list hq;obtain⟨u,hu,ru⟩:=rv.get hx;obtain⟨f0,f1,f2,f3,f4,f5⟩:=hf it (by simp);refine wpAny_pyNext_list_item st p.isList (x:=u) (by simpa using hu) fun h' st' sb=>?_
  have I1:Inv X pins σ H {s with heap:=h'}:=I.turned (t':=s.toks) (fun b o hb e=>(sb.2 b hb).trans e) f0 f1 f3 f4 f5;obtain⟨o,e,c,d⟩:=id st';exact⟨u,rfl,qgp (s:={s with heap:=h'}) e c d (by decide) ⟨x,H,I1,ru,⟨rfl,fun ys hy=>by rw [I.list_inj hy hq];exact hx⟩,st',fun b hb=>(hf b hb).1⟩⟩
 done:=by
  intro X hP hw hK hc i pins s σ H E I hf st hg;subst hP hw hK;obtain⟨xs,hq,hx⟩:=hg;obtain⟨its,rv,p,hz⟩:=I.list hq;obtain⟨f0,f1,f2,f3,f4,f5⟩:=hf it (by simp);have hl:=rv.length;exact wpAny_pyNext_list_end (I.ok.hd hc) st p.isList (by simp;lia) fun h' eb=>⟨rfl,I.turned (t':=s.toks) (fun b o hb e=>eb b o hb e) f0 f1 f3 f4 f5⟩
 self:=fun _ _ _ _ _ st h=>wpAny_pyIter_listiter st h
theorem qjv{P:Program}{w:World}{K:PySem.W.Frag}{tg:Expr}(a it:Addr):Turn P w K tg (Itt K a) [it] it (fun i h=>h.IsTupleIter it a i) where
 mem:=by simp
 obj:=fun i h st b hb=>by
  have e:b=it:=by simpa using hb
  subst e;obtain⟨o,e,c,d⟩:=st;exact⟨o,e,fun v z=>by rw [d]at z;cases z⟩
 keep:=fun i h h' st k=>st.at fun o e=>k it (by simp) o e
 item:=by
  intro X hP hw hK hc i pins s σ H E I hf st hg;subst hP hw hK;obtain⟨xs,x,hq,hx⟩:=hg;obtain⟨its,rv,p,hz⟩:=I.tuple hq;obtain⟨u,hu,ru⟩:=rv.get hx;obtain⟨f0,f1,f2,f3,f4,f5⟩:=hf it (by simp);refine wpAny_pyNext_tuple_item st (show s.heap.IsTuple a its.toArray from p) (x:=u) (by simpa using hu) fun h' st' sb=>?_
  have I1:Inv X pins σ H {s with heap:=h'}:=I.turned (t':=s.toks) (fun b o hb e=>(sb.2 b hb).trans e) f0 f1 f3 f4 f5;obtain⟨o,e,c,d⟩:=id st';exact⟨u,rfl,qgp (s:={s with heap:=h'}) e c d (by decide) ⟨x,H,I1,ru,⟨rfl,fun ys hy=>by rw [I.tuple_inj hy hq];exact hx⟩,st',fun b hb=>(hf b hb).1⟩⟩
 done:=by
  intro X hP hw hK hc i pins s σ H E I hf st hg;subst hP hw hK;obtain⟨xs,hq,hx⟩:=hg;obtain⟨its,rv,p,hz⟩:=I.tuple hq;obtain⟨f0,f1,f2,f3,f4,f5⟩:=hf it (by simp);have hl:=rv.length;exact wpAny_pyNext_tuple_end (I.ok.hd hc) st (show s.heap.IsTuple a its.toArray from p) (by simp;lia) fun h' eb=>⟨rfl,I.turned (t':=s.toks) (fun b o hb e=>eb b o hb e) f0 f1 f3 f4 f5⟩
 self:=fun _ _ _ _ _ st h=>wpAny_pyIter_tupleiter st h
theorem qji{P:Program}{w:World}{K:PySem.W.Frag}{tg:Expr}(it:Addr)(lo:Int)(n:Nat):Turn P w K tg (Itr lo n) [it] it (fun i h=>IsRangeIter h it (lo+(i:Nat) * 1) ((n:Int)-(i:Nat)) 1) where
 mem:=by simp
 obj:=fun i h st b hb=>by
  have e:b=it:=by simpa using hb
  subst e;exact⟨_,st,fun v z=>by
   have z':Data.fields _=Data.cell v:=z;cases z'⟩
 keep:=fun i h h' st k=>k it (by simp) _ st
 item:=by
  intro X hP hw hK hc i pins s σ H E I hf st hg;subst hP hw hK;obtain⟨f0,f1,f2,f3,f4,f5⟩:=hf it (by simp);have W:=Walks.range (prog:=X.prog) (w:=X.w) (I.ok.hd hc) it lo 1 n;refine W.item i s _ _ hg st fun v h' tk hv st' kk=>?_
  obtain⟨t,rfl⟩:=hv;have I1:Inv X pins σ H {s with heap:=h',toks:=tk}:=I.turned (fun b o hb e=>kk b o (by simpa using hb) e) f0 f1 f3 f4 f5;refine⟨_,rfl,qgp (s:={s with heap:=h',toks:=tk}) (n:="range_iterator") st' rfl rfl (by decide) ⟨.int (lo+i),H,I1,⟨t,?_⟩,⟨rfl,rfl⟩,st',fun b hb=>(hf b hb).1⟩⟩;rw [Int.mul_one]
 done:=by
  intro X hP hw hK hc i pins s σ H E I hf st hg;subst hP hw hK;obtain⟨f0,f1,f2,f3,f4,f5⟩:=hf it (by simp);exact wpAny_pyNext_range_end (I.ok.hd hc) st (by have:n≤i:=hg;lia) fun h' eb=>⟨rfl,I.turned (t':=s.toks) (fun b o hb e=>eb b o hb e) f0 f1 f3 f4 f5⟩
 self:=fun _ _ _ _ _ st h=>wpAny_pyIter_rangeiter st h
section
variable{X:Cx}{tg:Expr}
noncomputable def qrk(K:PySem.W.Frag)(tl:TE):TI:=fun σ H R=>tl σ H fun x H1=>∃a,x=.ref a∧(∃xs,SqL K H1 a xs)∧R (Itl K a) H1
noncomputable def qtk(K:PySem.W.Frag)(tl:TE):TI:=fun σ H R=>tl σ H fun x H1=>∃a,x=.ref a∧(∃xs,SqT K H1 a xs)∧R (Itt K a) H1
theorem qnT{l:Expr}{tl:TE}(hl:PE X l tl):PI X tg l (qrk X.K tl):=by
 intro pins s σ H R I h;refine thn (hl pins s σ H _ I h) fun v s1 ⟨x,H1,I1,r1,q1⟩=>?_
 obtain⟨a,e,⟨xs,hq⟩,q⟩:=q1;subst e;cases r1;obtain⟨its,rv,p,hz⟩:=I1.list hq;refine wpAny_pyIter_list p.isList ?_;refine⟨s1.heap.objs.size,[s1.heap.objs.size],_,_,H1,rfl,I1.kept (t':=s1.toks) fun b o e=>Heap.get?_push_of_some _ e,qkV a _,⟨_,Heap.get?_push_size _ rfl,rfl,rfl⟩,fun b hb=>?_,q⟩;have e:b=s1.heap.objs.size:=by simpa using hb
 subst e;exact I1.fpOk (Nat.le_refl _) (I1.hok.fresh (Nat.le_refl _))
theorem qpi{l:Expr}{tl:TE}(hl:PE X l tl):PI X tg l (qtk X.K tl):=by
 intro pins s σ H R I h;refine thn (hl pins s σ H _ I h) fun v s1 ⟨x,H1,I1,r1,q1⟩=>?_
 obtain⟨a,e,⟨xs,hq⟩,q⟩:=q1;subst e;cases r1;obtain⟨its,rv,p,hz⟩:=I1.tuple hq;refine wpAny_pyIter_tuple (show s1.heap.IsTuple a its.toArray from p) ?_;refine⟨s1.heap.objs.size,[s1.heap.objs.size],_,_,H1,rfl,I1.kept (t':=s1.toks) fun b o e=>Heap.get?_push_of_some _ e,qjv a _,⟨_,Heap.get?_push_size _ rfl,rfl,rfl⟩,fun b hb=>?_,q⟩;have e:b=s1.heap.objs.size:=by simpa using hb
 subst e;exact I1.fpOk (Nat.le_refl _) (I1.hok.fresh (Nat.le_refl _))
theorem qhA{pins:List (Addr×Obj)}{σ:St}{H:Hp}{s:Shared}{R:It→Hp→Prop}{E:Value→Shared→Prop}{lo hi:Int}{t u v:Tok}{tk:Nat}(I:Inv X pins σ H s)(h1:-(2^62)≤lo)(h2:lo<2^62)(h3:-(2^62)≤hi)(h4:hi<2^62)
  (q:R (Itr lo (hi-lo).toNat) H):wpAny (model X.prog X.w) X.A (pyIter (.ref s.heap.objs.size)) (PIE X pins σ tg R) E {s with heap:=s.heap.push {cls:=.type "range",data:=.fields #[.int lo t,.int hi u,.int 1 v]},toks:=tk}:=by
 refine wpAny_pyIter_range (IsRange.new ..) (small_one h1 h2 h3 h4) ?_;have I1:Inv X pins σ H {s with heap:=s.heap.push {cls:=.type "range",data:=.fields #[.int lo t,.int hi u,.int 1 v]},toks:=tk}:=I.kept fun b o e=>Heap.get?_push_of_some _ e
 refine⟨(s.heap.push {cls:=.type "range",data:=.fields #[.int lo t,.int hi u,.int 1 v]}).objs.size,[(s.heap.push {cls:=.type "range",data:=.fields #[.int lo t,.int hi u,.int 1 v]}).objs.size],_,_,H,rfl,
  I1.kept (t':=tk) fun b o e=>Heap.get?_push_of_some _ e,qji _ lo (hi-lo).toNat,?_,fun b hb=>?_,q⟩
 ·have e1:lo+((0:Nat):Int) * 1=lo:=by simp
  have e2:(((hi-lo).toNat:Nat):Int)-((0:Nat):Int)=Builtin.Range.rangeSize lo hi 1:=by rw [rangeSize_one];split<;>lia
  show IsRangeIter _ _ (lo+((0:Nat):Int) * 1) ((((hi-lo).toNat:Nat):Int)-((0:Nat):Int)) 1;rw [e1,e2];exact Heap.get?_push_size _ rfl
 ·have e:b=(s.heap.push {cls:=.type "range",data:=.fields #[.int lo t,.int hi u,.int 1 v]}).objs.size:=by simpa using hb
  subst e;exact I1.fpOk (Nat.le_refl _) (I1.hok.fresh (Nat.le_refl _))
noncomputable def qsc(ta:TA):TI:=fun σ H R=>ta σ H fun vs H1=>∃j:Int,vs=[.int j]∧-(2^62)≤j∧j<2^62∧R (Itr 0 j.toNat) H1
noncomputable def qsd(ta:TA):TI:=fun σ H R=>ta σ H fun vs H1=>∃i j:Int,vs=[.int i,.int j]∧(-(2^62)≤i∧i<2^62∧-(2^62)≤j∧j<2^62)∧R (Itr i (j-i).toNat) H1
theorem qks{a:Expr}{ta:TA}{p pos:Pos}(hg:Gl X "range")(hm:X.mg "range" = none)(ha:PA X [a] ta)(hs:starEach [a] X.env=[(false,eval a X.env)]:=by rfl):PI X tg (.Call (.Name "range" p) [a] [] pos) (qsc ta):=by
 intro pins s σ H R I h;refine Call_ (qbg I hg hm boot_range (PyProof.Rows.callWith_type1 (thn (ha pos pins s σ H _ I h) fun us s1 ⟨vs,H1,I1,r1,q1⟩=>?_) hs rfl));obtain⟨j,e,q1,q2,q⟩:=q1;subst e;cases r1 with
 |cons r rr=>
  cases rr;obtain⟨t,rfl⟩:=r;exact call_range_1 (qhA I1 (by lia) (by lia) q1 q2 (by simpa using q))
theorem qkP{a b:Expr}{ta:TA}{p pos:Pos}(hg:Gl X "range")(hm:X.mg "range" = none)(ha:PA X [a,b] ta)(hs:starEach [a,b] X.env=[(false,eval a X.env),(false,eval b X.env)]:=by rfl)(hs2:starEach [b] X.env=[(false,eval b X.env)]:=by rfl) :
  PI X tg (.Call (.Name "range" p) [a,b] [] pos) (qsd ta):=by
 intro pins s σ H R I h;refine Call_ (qbg I hg hm boot_range (PyProof.Rows.callWith_type1 (thn (ha pos pins s σ H _ I h) fun us s1 ⟨vs,H1,I1,r1,q1⟩=>?_) (by rw [hs,hs2]) (by rw [hs2];rfl)));obtain⟨i,j,e,⟨q1,q2,q3,q4⟩,q⟩:=q1;subst e;cases r1 with
 |cons r rr=>
  cases rr with
  |cons r' rr=>
   cases rr;obtain⟨t,rfl⟩:=r;obtain⟨t',rfl⟩:=r';exact call_range_2 (qhA I1 q1 q2 q3 q4 q)
noncomputable def qgs(wi:TI)(g:TG)(tb:TS):TS:=fun D σ H=>wi σ H fun J H1=>∃W:Nat→Nat→St→Hp→Prop,(∃m,W 0 m σ H1)∧∀i m σ H,W i m σ H →
 (J.stop i H∧D.nx σ H)∨(J.go i H∧∃N:St→Hp→Prop,(∀σ' H',N σ' H'→∃m',m'<m∧W (i+1) m' σ' H')∧∀x H',J.yld i H x H'→g x σ H' fun σ2 H2=>tb {D with nx:=N,ct:=N,bk:=D.nx} σ2 H2)
noncomputable def qdi(fp:List Addr)(h:Heap):List (Addr×Obj):=fp.filterMap fun b=>(h.get? b).map fun o=>(b,o)
theorem qbD{fp:List Addr}{h:Heap}{b:Addr}{o:Obj}(hb:b∈fp)(e:h.get? b=some o):(b,o)∈qdi fp h:=List.mem_filterMap.mpr ⟨b,hb,by rw [e];rfl⟩
theorem qkA{fp:List Addr}{h:Heap}{p:Addr×Obj}(hp:p∈qdi fp h):p.1∈fp∧h.get? p.1=some p.2:=by
 obtain⟨b,hb,e⟩:=List.mem_filterMap.mp hp;cases q:h.get? b with
 |none=>rw [q]at e;cases e
 |some o=>
  rw [q]at e;have e':(b,o)=p:=Option.some.inj e;subst e';exact⟨hb,q⟩
theorem Inv.pinned{pins:List (Addr×Obj)}{σ:St}{H:Hp}{s:Shared}{fp:List Addr}(I:Inv X pins σ H s)(hf:∀b∈fp,qbp X pins H b)(ho:∀b∈fp,∃o,s.heap.get? b=some o∧∀v,o.data≠.cell v):Inv X (pins++qdi fp s.heap) σ H s:=
 I.pins_of fun p hp=>(List.mem_append.mp hp).elim (fun z=>I.pin p (List.mem_append_right _ z)) fun z=>by
  obtain⟨hb,e⟩:=qkA z;obtain⟨f0,f1,f2,_⟩:=hf p.1 hb;obtain⟨o,e',d⟩:=ho p.1 hb;rw [e]at e';cases e';exact⟨e,f0,f1,f2,d⟩
theorem Inv.unpinned{pins pl:List (Addr×Obj)}{σ:St}{H:Hp}{s:Shared}(I:Inv X (pins++pl) σ H s):Inv X pins σ H s:=I.pins_of fun p hp=>I.pin p (List.mem_append_right _ (List.mem_append_left _ hp))
theorem qpY{iter:Expr}{body:List Stmt}{wi:TI}{g:TG}{tb:TS}{pos:Pos}(hp:PassesOwn (model X.prog X.w) X.A X.env X.xe)(hc:X.calm=true)(hi:PI X tg iter wi)(hg:PG X tg g)(hb:PSs X body tb)
  (hs:∀x,foldedSetIterable iter X.env x=pure x:=by intro _;rfl):PS X (.For tg iter body [] pos) (qgs wi g tb):=by
 intro pins s σ H D I h;refine wpAny_For (thn (hi pins s σ H _ I h) fun v s1 h1=>thn h1 fun itv s2 h2=>?_) hs;obtain⟨it,fp,tn,J,H2,e,I2,T,st2,f2,W,⟨m0,w0⟩,turn⟩:=h2;subst e
 -- what stays true of the iterator's objects through the loop
 have stat:∀{H':Hp},(∀b∈fp,H' b=none)→∀b∈fp,qbp X pins H' b:=fun hn b hb=>⟨hn b hb,(f2 b hb).2⟩
 refine codeAny_forLoop_any (fun n s'=>∃i σ' H',Inv X pins σ' H' s'∧tn i s'.heap∧(∀b∈fp,H' b=none)∧W i n σ' H') ?_ m0 ⟨0,σ,H2,I2,st2,fun b hb=>(f2 b hb).1,w0⟩;rintro n s3 ⟨i,σ3,H3,I3,st3,fr3,w3⟩;rcases turn i n σ3 H3 w3 with ⟨stop,qn⟩|⟨go,N,hN,step⟩
 ·refine wpAny_passesOwn hp (thn (T.done X rfl rfl rfl hc i pins s3 σ3 H3 X.xe I3 (stat fr3) st3 stop) fun r s4 ⟨hr,I4⟩=>?_);subst hr;exact wpAny_execs_nil ⟨σ3,H3,I4,qn⟩
 ·refine wpAny_passesOwn hp (thn (T.item X rfl rfl rfl hc i pins s3 σ3 H3 X.xe I3 (stat fr3) st3 go) fun r s4 ⟨u,hr,h4⟩=>?_);subst hr;refine wpAny_passesOwn hp (thn h4 fun _ s5 ⟨x,H5,I5,r5,y5,st5,fr5⟩=>?_);have I5':=I5.pinned (stat fr5) (T.obj _ _ st5);refine wpAny_passesOwn hp (thn (hg _ s5 σ3 H5 x u _ I5' r5 (step x H5 y5)) fun _ s6 ⟨σ6,H6,I6,q6⟩=>?_);refine wpAny_passesOwn hp (thn (hb _ s6 σ6 H6 _ I6 q6) fun f s7 q7=>?_);have again:∀{σ7:St}{H7:Hp},Inv X (pins++qdi fp s5.heap) σ7 H7 s7→N σ7 H7→∃m,m<n∧∃i σ' H',Inv X pins σ' H' s7∧tn i s7.heap∧(∀b∈fp,H' b=none)∧W i m σ' H':=fun {σ7 H7} I7 n7=>by
   obtain⟨m',hm,w7⟩:=hN σ7 H7 n7;refine⟨m',hm,i+1,σ7,H7,I7.unpinned,T.keep _ _ _ st5 fun b hb o e=>(I7.pin (b,o) (List.mem_append_right _ (List.mem_append_right _ (qbD hb e)))).1,fun b hb=>?_,w7⟩;obtain⟨o,e,d⟩:=T.obj _ _ st5 b hb;exact(I7.pin (b,o) (List.mem_append_right _ (List.mem_append_right _ (qbD hb e)))).2.1
  cases f with
  |next=>obtain⟨σ7,H7,I7,n7⟩:=q7;exact again I7 n7
  |cont=>obtain⟨σ7,H7,I7,n7⟩:=q7;exact again I7 n7
  |brk=>obtain⟨σ7,H7,I7,q7⟩:=q7;exact⟨σ7,H7,I7.unpinned,q7⟩
  |ret v=>obtain⟨x7,σ7,H7,I7,r7,q7⟩:=q7;exact⟨x7,σ7,H7,I7.unpinned,r7,q7⟩
end
abbrev R2:=V→V→Hp→VK→Prop
noncomputable def OpR(X:Cx)(f:Value→Value→Sem Value)(r:R2):Prop:=
 ∀(pins:List (Addr×Obj)) (s:Shared) (σ:St) (H:Hp) (x y:V) (v u:Value) (Q:VK),Inv X pins σ H s→RelV x v→RelV y u→r x y H Q →
  wpAny (model X.prog X.w) X.A (f v u) (EP X pins σ Q) X.xe s
noncomputable def UnR(X:Cx)(f:Value→Sem Value)(r:V→Hp→VK→Prop):Prop:=
 ∀(pins:List (Addr×Obj)) (s:Shared) (σ:St) (H:Hp) (x:V) (v:Value) (Q:VK),Inv X pins σ H s→RelV x v→r x H Q →
  wpAny (model X.prog X.w) X.A (f v) (EP X pins σ Q) X.xe s
noncomputable def qT(X:Cx)(f:Value)(r:List V→Hp→VK→Prop):Prop:=
 ∀(pins:List (Addr×Obj)) (s:Shared) (σ:St) (H:Hp) (xs:List V) (us:List Value) (Q:VK),Inv X pins σ H s→Vals xs us→r xs H Q →
  wpAny (model X.prog X.w) X.A (call f us) (EP X pins σ Q) X.xe s
noncomputable def qso(X:Cx)(r:V→Hp→(Bool→Hp→Prop)→Prop):Prop:=
 ∀(pins:List (Addr×Obj)) (s:Shared) (σ:St) (H:Hp) (x:V) (v:Value) (Q:Bool→Hp→Prop),Inv X pins σ H s→RelV x v→r x H Q →
  wpAny (model X.prog X.w) X.A (truthy v) (TP X pins σ Q) X.xe s
noncomputable def tOp(r:R2)(ta tb:TE):TE:=fun σ H Q=>ta σ H fun x H1=>tb σ H1 fun y H2=>r x y H2 Q
noncomputable def tUn(r:V→Hp→VK→Prop)(ta:TE):TE:=fun σ H Q=>ta σ H fun x H1=>r x H1 Q
noncomputable def rI(C:Int→Int→Prop)(g:Int→Int→V):R2:=fun x y H Q=>∃i j,x=.int i∧y=.int j∧C i j∧Q (g i j) H
noncomputable def rI0(g:Int→Int→V):R2:=fun x y H Q=>∃i j,x=.int i∧y=.int j∧Q (g i j) H
noncomputable def rU(g:Int→V):V→Hp→VK→Prop:=fun x H Q=>∃i,x=.int i∧Q (g i) H
section
variable{X:Cx}{a b c:Expr}{ta tb tc:TE}{pos:Pos}
theorem qmA(ha:PE X a ta)(hb:PE X b tb){pins:List (Addr×Obj)}{s:Shared}{σ:St}{H:Hp}{R:V→V→Hp→Prop}(I:Inv X pins σ H s)
  (h:ta σ H fun x H1=>tb σ H1 fun y H2=>R x y H2) {Q:Value→Shared→Prop}{f:Value→Value→Sem Value}
  (hf:∀v u s2 x y H2,Inv X pins σ H2 s2→RelV x v→RelV y u→R x y H2→wpAny (model X.prog X.w) X.A (f v u) Q X.xe s2) :
  wpAny (model X.prog X.w) X.A (eval a X.env) (fun v s₁=>wpAny (model X.prog X.w) X.A (eval b X.env) (fun u s₂=>wpAny (model X.prog X.w) X.A (f v u) Q X.xe s₂) X.xe s₁) X.xe s:=by
 refine thn (ha pins s σ H _ I h) fun v s1 ⟨x,H1,I1,r1,q1⟩=>?_
 refine thn (hb pins s1 σ H1 _ I1 q1) fun u s2 ⟨y,H2,I2,r2,q2⟩=>?_
 exact hf v u s2 x y H2 I2 r1 r2 q2
theorem qro{op:Operator}{r:R2}(ho:OpR X (binaryOp op) r)(ha:PE X a ta)(hb:PE X b tb):PE X (.BinOp a op b pos) (tOp r ta tb):=by
 intro pins s σ H Q I h;exact wpAny_BinOp (qmA ha hb I h fun v u s2 x y H2 I2 rx ry q=>ho pins s2 σ H2 x y v u Q I2 rx ry q)
theorem qmW{op:UnaryOp}{r:V→Hp→VK→Prop}(ho:UnR X (unaryOp op) r)(ha:PE X a ta):PE X (.UnaryOp op a pos) (tUn r ta):=by
 intro pins s σ H Q I h;exact UnaryOp_ (thn (ha pins s σ H _ I h) fun v s1 ⟨x,H1,I1,r1,q1⟩=>ho pins s1 σ H1 x v Q I1 r1 q1)
theorem opI{f:Value→Value→Sem Value}{C:Int→Int→Prop}{g:Int→Int→Int}
  (rule:∀(i j:Int) (t u:Tok) (s:Shared) (Q:Value→Shared→Prop) (E:Value→Shared→Prop),C i j→Q (.int (g i j) s.toks) {s with toks:=s.toks+1}→wpAny (model X.prog X.w) X.A (f (.int i t) (.int j u)) Q E s) :
  OpR X f (rI C fun i j=>.int (g i j)):=by
 intro pins s σ H x y v u Q I rx ry h;obtain⟨i,j,rfl,rfl,hc,q⟩:=h;obtain⟨t,rfl⟩:=rx;obtain⟨t',rfl⟩:=ry;exact rule i j t t' s _ _ hc ⟨.int (g i j),H,I.tok _,⟨_,rfl⟩,q⟩
theorem qpo{f:Value→Value→Sem Value}{g:Int→Int→Int}
  (rule:∀(i j:Int) (t u:Tok) (s:Shared) (Q:Value→Shared→Prop) (E:Value→Shared→Prop),Q (.int (g i j) s.toks) {s with toks:=s.toks+1}→wpAny (model X.prog X.w) X.A (f (.int i t) (.int j u)) Q E s) :
  OpR X f (rI0 fun i j=>.int (g i j)):=by
 intro pins s σ H x y v u Q I rx ry h;obtain⟨i,j,rfl,rfl,q⟩:=h;obtain⟨t,rfl⟩:=rx;obtain⟨t',rfl⟩:=ry;exact rule i j t t' s _ _ ⟨.int (g i j),H,I.tok _,⟨_,rfl⟩,q⟩
theorem qjD{f:Value→Value→Sem Value}{g:Int→Int→Bool}
  (rule:∀(i j:Int) (t u:Tok) (s:Shared) (Q:Value→Shared→Prop) (E:Value→Shared→Prop),Q (.bool (g i j)) s→wpAny (model X.prog X.w) X.A (f (.int i t) (.int j u)) Q E s) :
  OpR X f (rI0 fun i j=>.bl (g i j)):=by
 intro pins s σ H x y v u Q I rx ry h;obtain⟨i,j,rfl,rfl,q⟩:=h;obtain⟨t,rfl⟩:=rx;obtain⟨t',rfl⟩:=ry;exact rule i j t t' s _ _ ⟨.bl (g i j),H,I,rfl,q⟩
noncomputable def qpP(i j:Int):Prop:=(-(2^64)<i∧i<2^64)∨(-(2^64)<j∧j<2^64)
theorem qpP.ok{i j:Int}(h:qpP i j):IntMulOk i j:=by
 rcases h with ⟨h1,h2⟩|⟨h1,h2⟩
 ·exact .of_left (intBits_le_64 h1 h2)
 ·exact .of_right (intBits_le_64 h1 h2)
theorem qjo(k:Nat):(0:Int)≤2^k:=by
 rw [two_pow_cast];exact Int.natCast_nonneg _
theorem qtr:OpR X (binaryOp .Add) (rI0 fun i j=>.int (i+j)):=qpo fun _ _ _ _ _ _ _ q=>add_int q
theorem qpn:OpR X (binaryOp .Sub) (rI0 fun i j=>.int (i-j)):=qpo fun _ _ _ _ _ _ _ q=>sub_int q
theorem qtq:OpR X (binaryOp .Mult) (rI qpP fun i j=>.int (i * j)):=opI fun _ _ _ _ _ _ _ hc q=>mul_int q hc.ok
theorem qpN:OpR X (binaryOp .Mod) (rI (fun _ j=>0<j) fun i j=>.int (i%j)):=opI fun i j _ _ _ _ _ hc q=>by
 have h1:(0:Int)<j:=hc;exact mod_int' (by lia) (by rw [Int.fmod_eq_emod_of_nonneg i (by lia)];exact q)
theorem qqd:OpR X (binaryOp .RShift) (rI (fun _ j=>0≤j) fun i j=>.int (i/2^j.toNat)):=opI fun i j _ _ _ _ _ hc q=>
 rshift_int hc (by rw [Int.fdiv_eq_ediv_of_nonneg i (qjo _)];exact q)
theorem unI{f:Value→Sem Value}{g:Int→Int}
  (rule:∀(i:Int) (t:Tok) (s:Shared) (Q:Value→Shared→Prop) (E:Value→Shared→Prop),Q (.int (g i) s.toks) {s with toks:=s.toks+1}→wpAny (model X.prog X.w) X.A (f (.int i t)) Q E s) :
  UnR X f (rU fun i=>.int (g i)):=by
 intro pins s σ H x v Q I rx h;obtain⟨i,rfl,q⟩:=h;obtain⟨t,rfl⟩:=rx;exact rule i t s _ _ ⟨.int (g i),H,I.tok _,⟨_,rfl⟩,q⟩
theorem qpR:UnR X (unaryOp .USub) (rU fun i=>.int (-i)):=unI fun _ _ _ _ _ q=>neg_int q
theorem qqm:UnR X (unaryOp .Invert) (rU fun i=>.int (Builtin.bitNot i)):=unI fun _ _ _ _ _ q=>invert_int q
end
section
variable{X:Cx}{a b c:Expr}{ta tb tc:TE}{pos:Pos}
theorem qeB{pins:List (Addr×Obj)}{σ:St}{H:Hp}{s:Shared}{Q:VK}{k k':Bool}(I:Inv X pins σ H s)(q:Q (.bl k) H)(e:k=k'):EP X pins σ Q (.bool k') s:=by
 subst e;exact⟨.bl k,H,I,rfl,q⟩
theorem qtt:OpR X (compareOp .Lt) (rI0 fun i j=>.bl (decide (i<j))):=qjD fun _ _ _ _ _ _ _ q=>lt_int q
theorem qrY:OpR X (compareOp .LtE) (rI0 fun i j=>.bl (decide (i≤j))):=qjD fun _ _ _ _ _ _ _ q=>le_int q
theorem qru:OpR X (compareOp .Gt) (rI0 fun i j=>.bl (decide (j<i))):=qjD fun _ _ _ _ _ _ _ q=>gt_int q
theorem qrf:OpR X (compareOp .GtE) (rI0 fun i j=>.bl (decide (j≤i))):=qjD fun _ _ _ _ _ _ _ q=>ge_int q
theorem qts:OpR X (compareOp .Is) (fun x y H Q=>y=.non∧Q (.bl (decide (x=.non))) H):=by
 intro pins s σ H x y v u Q I rx ry h;obtain⟨rfl,q⟩:=h;cases ry;refine is_none_gen (qeB I q ?_);cases x<;>first
  | (cases rx;rfl)
  | (obtain⟨t,rfl⟩:=rx;rfl)
theorem qto:OpR X (compareOp .IsNot) (fun x y H Q=>y=.non∧Q (.bl (!decide (x=.non))) H):=by
 intro pins s σ H x y v u Q I rx ry h;obtain⟨rfl,q⟩:=h;cases ry;refine isnot_none_gen (qeB I q ?_);cases x<;>first
  | (cases rx;rfl)
  | (obtain⟨t,rfl⟩:=rx;rfl)
theorem OpR.or{f:Value→Value→Sem Value}{r r':R2}(h:OpR X f r)(h':OpR X f r'):OpR X f (fun x y H Q=>r x y H Q∨r' x y H Q):=by
 intro pins s σ H x y v u Q I rx ry q;rcases q with q|q
 ·exact h pins s σ H x y v u Q I rx ry q
 ·exact h' pins s σ H x y v u Q I rx ry q
theorem qoy{op:CmpOp}{r:R2}(ho:OpR X (compareOp op) r)(ha:PE X a ta)(hb:PE X b tb)(hm:behindInMarks op b=false):PE X (.Compare a [op] [b] pos) (tOp r ta tb):=by
 intro pins s σ H Q I h;exact wpAny_Compare1 (qmA ha hb I h fun v u s2 x y H2 I2 rx ry q=>ho pins s2 σ H2 x y v u Q I2 rx ry q) hm
noncomputable def qjt(t:TE):TT:=fun σ H Q=>t σ H fun x H'=>∃k,x=.bl k∧Q k H'
theorem qnc{op:CmpOp}{r:R2}(ho:OpR X (compareOp op) r)(ha:PE X a ta)(hb:PE X b tb)(hm:behindInMarks op b=false):PT X (.Compare a [op] [b] pos) (qjt (tOp r ta tb)):=by
 intro pins s σ H Q I h;refine wpAny_isTrue_Compare1 (thn (ha pins s σ H _ I h) fun v s1 ⟨x,H1,I1,r1,q1⟩=>thn (hb pins s1 σ H1 _ I1 q1) fun u s2 ⟨y,H2,I2,r2,q2⟩=>
  thn (ho pins s2 σ H2 x y v u _ I2 r1 r2 q2) fun c s3 ⟨z,H3,I3,r3,k,e,q3⟩=>?_) hm
 subst e;cases r3;exact wpAny_truthy_bool ⟨H3,I3,q3⟩
noncomputable def qkk(r r':R2)(ta tb tc:TE):TE:=fun σ H Q=>ta σ H fun x H1=>tb σ H1 fun y H2=>r x y H2 fun z H3=>∃k,z=.bl k ∧
 (if k=true then tc σ H3 fun w' H4=>r' y w' H4 Q else Q (.bl false) H3)
theorem qmz{op op':CmpOp}{r r':R2}(ho:OpR X (compareOp op) r)(ho':OpR X (compareOp op') r')(ha:PE X a ta)(hb:PE X b tb)(hc:PE X c tc)
  (hm:lastMarks [op,op'] [b,c]=false:=by with_unfolding_all rfl):PE X (.Compare a [op,op'] [b,c] pos) (qkk r r' ta tb tc):=by
 intro pins s σ H Q I h;refine Compare_chain (thn (ha pins s σ H _ I h) fun v s1 ⟨x,H1,I1,r1,q1⟩=>chain_link (thn (hb pins s1 σ H1 _ I1 q1) fun u s2 ⟨y,H2,I2,r2,q2⟩=>
  thn (ho pins s2 σ H2 x y v u _ I2 r1 r2 q2) fun d s3 ⟨z,H3,I3,r3,k,e,q3⟩=>?_)) hm
 subst e;cases r3;refine wpAny_truthy_bool ?_;cases k with
 |false=>exact ite_ff ⟨.bl false,H3,I3,rfl,q3⟩
 |true=>exact ite_tt (chain_last (thn (hc pins s3 σ H3 _ I3 q3) fun w' s4 ⟨z',H4,I4,r4,q4⟩=>ho' pins s4 σ H4 y z' u w' Q I4 r2 r4 q4))
theorem qlp{op op':CmpOp}{r r':R2}(ho:OpR X (compareOp op) r)(ho':OpR X (compareOp op') r')(ha:PE X a ta)(hb:PE X b tb)(hc:PE X c tc)
  (hm:lastMarks [op,op'] [b,c]=false:=by with_unfolding_all rfl):PT X (.Compare a [op,op'] [b,c] pos) (qjt (qkk r r' ta tb tc)):=by
 intro pins s σ H Q I h;refine isTrue_chain (thn (ha pins s σ H _ I h) fun v s1 ⟨x,H1,I1,r1,q1⟩=>test_link (thn (hb pins s1 σ H1 _ I1 q1) fun u s2 ⟨y,H2,I2,r2,q2⟩=>
  thn (ho pins s2 σ H2 x y v u _ I2 r1 r2 q2) fun d s3 ⟨z,H3,I3,r3,k,e,q3⟩=>?_)) hm
 subst e;cases r3;refine wpAny_truthy_bool ?_;cases k with
 |false=>
  obtain⟨k',e',q'⟩:=q3;cases e';exact ite_ff ⟨H3,I3,q'⟩
 |true=>
  refine ite_tt (test_last (thn (hc pins s3 σ H3 _ I3 q3) fun w' s4 ⟨z',H4,I4,r4,q4⟩=>thn (ho' pins s4 σ H4 y z' u w' _ I4 r2 r4 q4) fun d' s5 ⟨z2,H5,I5,r5,k2,e2,q5⟩=>?_));subst e2;cases r5;exact wpAny_truthy_bool ⟨H5,I5,q5⟩
noncomputable def qms(K:PySem.W.Frag)(x:V)(H:Hp)(k:Bool):Prop:=
 match x with
 | .non=>k=false
 | .bl b=>k=b
 | .int i=>k=(i != 0)
 | .str y=>y.length≤sizeLine∧k=((y.length:Int) != 0)
 | .byt y=>y.size≤sizeLine∧k=((y.size:Int) != 0)
 | .ref p=>(∃xs,SqL K H p xs∧k = !xs.isEmpty)∨(∃xs,SqT K H p xs∧k = !xs.isEmpty)∨∃kvs,H p=some (.dK kvs)∧k = !kvs.isEmpty
 |_=>False
theorem qjh{κ:Type}{kvs:List (κ×V)}{vs:List (κ×Value)}(r:KV kvs vs):(!vs.isEmpty) = !kvs.isEmpty:=by
 cases r<;>rfl
theorem qel{xs:List V}{its:List Value}(r:Vals xs its):(!its.toArray.isEmpty) = !xs.isEmpty:=by
 cases r<;>simp
theorem qcI:(sizeLine:Nat)<2^63:=by rw [sizeLine_eq];decide
theorem qpT:qso X (fun x H Q=>∃k,qms X.K x H k∧Q k H):=by
 intro pins s σ H x v Q I rx h;obtain⟨k,e,q⟩:=h;have hl:=qcI;have hs:sizeLine=16777216:=sizeLine_eq;cases x with
 |non=>
  cases rx;have e':k=false:=e;subst e';exact truthy_none ⟨H,I,q⟩
 |bl b=>
  cases rx;have e':k=b:=e;subst e';exact wpAny_truthy_bool ⟨H,I,q⟩
 |int i=>
  obtain⟨t,rfl⟩:=rx;have e':k=(i != 0):=e;subst e';exact PySem.P.truthy_int ⟨H,I,q⟩
 |str y=>
  obtain⟨t,rfl⟩:=rx;obtain⟨hy,e'⟩:y.length≤sizeLine∧k=((y.length:Int) != 0):=e;subst e';exact PySem.P.truthy_str (by lia) ⟨H,I.tok _,q⟩
 |byt y=>
  obtain⟨t,rfl⟩:=rx;obtain⟨hy,e'⟩:y.size≤sizeLine∧k=((y.size:Int) != 0):=e;subst e';exact PySem.W.truthy_bytes (by lia) ⟨H,I.tok _,q⟩
 |ref p=>
  cases rx;have e':(∃xs,SqL X.K H p xs∧k = !xs.isEmpty)∨(∃xs,SqT X.K H p xs∧k = !xs.isEmpty)∨∃kvs,H p=some (.dK kvs)∧k = !kvs.isEmpty:=e;rcases e' with ⟨xs,hx,e'⟩|⟨xs,hx,e'⟩|⟨kvs,hx,e'⟩
  ·subst e';obtain⟨its,r,pl,hz⟩:=I.list hx;have hlen:=r.length;exact wpAny_truthy_list pl.isList (by simp only [List.size_toArray];lia) ⟨H,I.tok _,by rw [qel r];exact q⟩
  ·subst e';obtain⟨its,r,pl,hz⟩:=I.tuple hx;have hlen:=r.length;exact truthy_tuple pl (by simp only [List.size_toArray];lia) ⟨H,I.tok _,by rw [qel r];exact q⟩
  ·subst e';obtain⟨hz,hS,vs,r,m⟩:kvs.length≤sizeLine∧(p==sysModules)=false∧∃vs,KV kvs vs∧s.heap.DictOf (qfk X.prog X.w) p vs:=I.hok p _ hx;have hlen:kvs.length=vs.length:=Paired.length r;exact wpAny_truthy_dict hS m (by lia) ⟨H,I.tok _,by rw [qjh r];exact q⟩
 |_=>exact(show False from e).elim
theorem qlF(ha:PE X a ta)(he:∀whole,isTrue a X.env whole=(do let v ←whole;standAt a.pos;holding [v] (truthy v))) :
  PT X a (fun σ H Q=>ta σ H fun x H'=>∃k,qms X.K x H' k∧Q k H'):=by
 intro pins s σ H Q I h;exact isTrue_plain (thn (ha pins s σ H _ I h) fun v s1 ⟨x,H1,I1,r1,q1⟩=>qpT pins s1 σ H1 x v Q I1 r1 q1) (he _)
theorem vals1{x:V}{us:List Value}(r:Vals [x] us):∃u,us=[u]∧RelV x u:=by
 cases r with
 |cons r1 r2=>cases r2;exact⟨_,rfl,r1⟩
theorem vals2{x y:V}{us:List Value}(r:Vals [x,y] us):∃u w',us=[u,w']∧RelV x u∧RelV y w':=by
 cases r with
 |cons r1 r2=>
  cases r2 with
  |cons r3 r4=>cases r4;exact⟨_,_,rfl,r1,r3⟩
theorem qmb:qT X (.builtin "abs") (fun xs H Q=>∃i,xs=[.int i]∧Q (.int (if i<0 then -i else i)) H):=by
 intro pins s σ H xs us Q I r h;obtain⟨i,rfl,q⟩:=h;obtain⟨u,rfl,t,rfl⟩:=vals1 r;exact call_abs_int fun u tk=>⟨.int (if i<0 then -i else i),H,I.tok _,⟨_,rfl⟩,q⟩
theorem qjV(hc:X.calm=true):qT X (.builtin "max") (fun xs H Q=>∃i j,xs=[.int i,.int j]∧Q (.int (if j>i then j else i)) H):=by
 intro pins s σ H xs us Q I r h;obtain⟨i,j,rfl,q⟩:=h;obtain⟨u,w',rfl,⟨t,rfl⟩,⟨t',rfl⟩⟩:=vals2 r;refine max_two_ints (I.ok.hd hc) fun h' tk k=>⟨_,H,I.kept k,?_,q⟩
 by_cases hj:j>i
 ·rw [if_pos hj,if_pos hj];exact⟨_,rfl⟩
 ·rw [if_neg hj,if_neg hj];exact⟨_,rfl⟩
theorem qjU(hc:X.calm=true):qT X (.builtin "min") (fun xs H Q=>∃i j,xs=[.int i,.int j]∧Q (.int (if j<i then j else i)) H):=by
 intro pins s σ H xs us Q I r h;obtain⟨i,j,rfl,q⟩:=h;obtain⟨u,w',rfl,⟨t,rfl⟩,⟨t',rfl⟩⟩:=vals2 r;refine min_two_ints (I.ok.hd hc) fun h' tk k=>⟨_,H,I.kept k,?_,q⟩
 by_cases hj:j<i
 ·rw [if_pos hj,if_pos hj];exact⟨_,rfl⟩
 ·rw [if_neg hj,if_neg hj];exact⟨_,rfl⟩
theorem qkd:qT X (.type "int") (fun xs H Q=>(∃i,xs=[.int i]∧Q (.int i) H)∨∃k,xs=[.bl k]∧Q (.int (if k then 1 else 0)) H):=by
 intro pins s σ H xs us Q I r h;rcases h with ⟨i,rfl,q⟩|⟨k,rfl,q⟩
 ·obtain⟨u,rfl,t,rfl⟩:=vals1 r;exact call_int_int ⟨.int i,H,I,⟨_,rfl⟩,q⟩
 ·obtain⟨u,rfl,r1⟩:=vals1 r;cases r1;exact call_int_bool ⟨.int (if k then 1 else 0),H,I.tok _,⟨_,rfl⟩,q⟩
theorem qjR:qT X (.type "bool") (fun xs H Q=>(∃i,xs=[.int i]∧Q (.bl (i != 0)) H)∨∃k,xs=[.bl k]∧Q (.bl k) H):=by
 intro pins s σ H xs us Q I r h;rcases h with ⟨i,rfl,q⟩|⟨k,rfl,q⟩
 ·obtain⟨u,rfl,t,rfl⟩:=vals1 r;exact call_bool_int ⟨.bl (i != 0),H,I,rfl,q⟩
 ·obtain⟨u,rfl,r1⟩:=vals1 r;cases r1;exact call_bool_bool ⟨.bl k,H,I,rfl,q⟩
end
structure qoF(h:Heap)(x dx C:Addr)(mA:Str→Option Value):Prop where
 obj:h.get? x=some (PySem.W.instObj C dx)
 ns:h.Ns1 dx mA
 ne:dx≠x
theorem qkg{h:Heap}{dx:Addr}{mA:Str→Option Value}(n:h.Ns1 dx mA):∃od,h.get? dx=some od∧∀name,PySem.W.lookIn name od=some (mA name):=by
 obtain⟨o,es,ep,ho,hd,hk,_,hm⟩:=n;refine⟨o,ho,fun name=>?_⟩;have e:=hm name;unfold nsFind findBy at e;rw [←Array.find?_toList]at e;unfold PySem.W.lookIn;rw [hd];dsimp only;split
 ·rename_i y q
  rw [q]at e;exact congrArg some e
 ·rename_i q
  rw [q]at e;have a:es.toList.any (·.refKey)=false:=by
   rw [List.any_eq_false];intro y hy;obtain⟨z,t,hkey⟩:=hk y (Array.mem_toList_iff.mp hy);simp [DictEntry.refKey,hkey]
  have a':¬ es.toList.any (·.refKey)=true:=by rw [a];exact Bool.false_ne_true
  rw [if_neg a'];exact congrArg some e
theorem qoF.look{h:Heap}{x dx C:Addr}{mA:Str→Option Value}(I:qoF h x dx C mA):∃od,PySem.W.InstAt h x (PySem.W.instObj C dx) C (some od)∧∀name,PySem.W.lookIn name od=some (mA name):=
 let ⟨od,ho,hl⟩:=qkg I.ns
 ⟨od,⟨I.obj,rfl,rfl,ho⟩,hl⟩
section
variable{prog:Program}{w:World}{A:Around}{E:Value→Shared→Prop}{s:Shared}{K:PySem.W.Frag}{x dx C f:Addr}{mA:Str→Option Value}{name:Str}{v:Value}
end
section
variable{P:Program}{w:World}{H H':Hp}{h h':Heap}{a C dx:Addr}{fs fs':List (Str×V)}
theorem qoe(hok:HOk P w H h)(e:H a=some (.ins C dx fs)):∃mA,qoF h a dx C mA∧(∀f,qlJ (fs.lookup f) (mA f))∧PySem.Within mA (fs.map (·.1))∧fs.length≤1000∧H dx=some (.own a):=by
 obtain⟨d,z,ne,ob,mA,n,r,q⟩:=(show zH P w H h a (.ins C dx fs)from hok a _ e)
 exact⟨mA,⟨ob,n,ne⟩,r,q,z,d⟩
end
structure Cls(K:PySem.W.Frag)(C:Addr):Prop where
 pg:PySem.W.plainGet K C Str.empty=true
 hd:PySem.W.hasDictIn K C=true
 po:PySem.W.plainOver K C=true
 sa:PySem.W.findIn K (.ref C) "__setattr__" = some (some (.builtin "object.__setattr__"))
theorem Cls.get{K:PySem.W.Frag}{C:Addr}(c:Cls K C)(f:Str):PySem.W.plainGet K C f=true:=c.pg
section
variable{X:Cx}{pins:List (Addr×Obj)}{σ:St}{H:Hp}{s:Shared}{a C dx:Addr}{fs:List (Str×V)}{f:Str}{v:V}{A:Around}{E:Value→Shared→Prop}
end
section
variable{X:Cx}{o e value:Expr}{f:Str}{pos pos' tpos:Pos}{ta tv:TE}
end
section
variable{X:Cx}{pins:List (Addr×Obj)}{σ:St}{H:Hp}{s:Shared}{A:Around}{E:Value→Shared→Prop}{Q:Value→Shared→Prop}{c:Value}{b:Bool}
inductive qbn(K:PySem.W.Frag)(H:Hp):V→Value→Prop where
 |non:qbn K H .non (.type "NoneType")
 |bl (x:Bool):qbn K H (.bl x) (.type "bool")
 |int (i:Int):qbn K H (.int i) (.type "int")
 |str (x:Str):qbn K H (.str x) (.type "str")
 |flt (x:UInt64):qbn K H (.flt x) (.type "float")
 |lst {a:Addr}{xs:List V} (e:H a=some (.lst xs)):qbn K H (.ref a) (.type "list")
 |frz {a:Addr}{o:Obj}{xs:List V} (e:H a=some (.frz o (.lst xs))):qbn K H (.ref a) (.type "list")
 |tup {a:Addr}{xs:List V} (e:H a=some (.tup xs)):qbn K H (.ref a) (.type "tuple")
 |dK {a:Addr}{kvs:List (Key×V)} (e:H a=some (.dK kvs)):qbn K H (.ref a) (.type "dict")
 |dT {a:Addr}{kvs:List (List Key×V)} (e:H a=some (.dT kvs)):qbn K H (.ref a) (.type "dict")
 |ins {a C dx:Addr}{fs:List (Str×V)} (e:H a=some (.ins C dx fs)) (cl:Cls K C) (ha:PySem.W.findIn K (.ref C) "__class__" = some (some (.builtin "object.__class__")))
   (hn:PySem.W.specialIn K (.builtin "object.__class__") "__get__" = some (some (.builtin "getset_descriptor.__get__"))) (htk:PySem.W.takesIn K (.builtin "object.__class__")=some true)
   (hm:PySem.W.mroIn K C (.type "object")=some true):qbn K H (.ref a) (.ref C)
theorem qaP{x:V}{u t:Value}(I:Inv X pins σ H s)(rx:RelV x u)(ty:qbn X.K H x t)(e:PySem.W.kitOne X.K t c=some b)(h:∀tk,Q (.bool b) {s with toks:=tk}) :
  wpAny (model X.prog X.w) A (call (.builtin "isinstance") [u,c]) Q E s:=by
 cases ty with
 |non=>cases (show u=Value.none from rx);exact PySem.W.kia_one PySem.W.kitx_none I.kIn True.intro e (fun z=>nomatch z) h
 |bl y=>cases (show u=Value.bool y from rx);exact PySem.W.kia_one PySem.W.kitx_bool I.kIn True.intro e (fun z=>nomatch z) h
 |int i=>obtain⟨t,q⟩:=(show ∃t,u=Value.int i t from rx);cases q;exact PySem.W.kia_one PySem.W.kitx_int I.kIn True.intro e (fun z=>nomatch z) h
 |str y=>obtain⟨t,q⟩:=(show ∃t,u=Value.str y t from rx);cases q;exact PySem.W.kia_one PySem.W.kitx_str I.kIn True.intro e (fun z=>nomatch z) h
 |flt y=>obtain⟨t,q⟩:=(show ∃t,u=Value.float y t from rx);cases q;exact PySem.W.kia_one PySem.W.kitx_float I.kIn True.intro e (fun z=>nomatch z) h
 | @lst a xs ea=>
  cases (show u=Value.ref a from rx);obtain⟨_,_,n,_,h1⟩:=(show zH X.prog X.w H s.heap a (.lst xs)from I.hok a _ ea)
  exact PySem.W.kia_one PySem.W.kitx_list I.kIn ⟨_,h1,rfl⟩ e (fun z=>nomatch z) h
 | @frz a ob xs ea=>
  cases (show u=Value.ref a from rx);obtain⟨_,_,_,n,_,h1⟩:=(show zH X.prog X.w H s.heap a (.frz ob (.lst xs))from I.hok a _ ea)
  exact PySem.W.kia_one PySem.W.kitx_list I.kIn ⟨_,h1,rfl⟩ e (fun z=>nomatch z) h
 | @tup a xs ea=>
  cases (show u=Value.ref a from rx);obtain⟨_,_,_,p⟩:=(show zH X.prog X.w H s.heap a (.tup xs)from I.hok a _ ea)
  obtain⟨o,h1,h2,_⟩:=p;exact PySem.W.kia_one PySem.W.kitx_tuple I.kIn ⟨o,h1,h2⟩ e (fun z=>nomatch z) h
 | @dK a kvs ea=>
  cases (show u=Value.ref a from rx);obtain⟨_,_,vs,_,p⟩:=(show zH X.prog X.w H s.heap a (.dK kvs)from I.hok a _ ea)
  obtain⟨o,es,ep,h1,h2,_⟩:=p;exact PySem.W.kia_one PySem.W.kitx_dict I.kIn ⟨o,h1,h2.1⟩ e (fun z=>nomatch z) h
 | @dT a kvs ea=>
  cases (show u=Value.ref a from rx);obtain⟨_,_,xs,_,o,es,ep,h1,h2,_⟩:=(show zH X.prog X.w H s.heap a (.dT kvs)from I.hok a _ ea)
  exact PySem.W.kia_one PySem.W.kitx_dict I.kIn ⟨o,h1,h2.1⟩ e (fun z=>nomatch z) h
 | @ins a C dx fs ea cl ha hn htk hm=>
  cases (show u=Value.ref a from rx);obtain⟨mA,O,_⟩:=qoe I.hok ea;obtain⟨od,J,_⟩:=O.look;exact PySem.W.kia_one (PySem.W.kitx_own (cl.get _) cl.hd ha hn htk hm) I.kIn J e (fun z=>nomatch z) h
end
structure qaY(k:Nat)(A:Around):Prop where
 hd:A.handled=none
 dp:A.depth+3 * k+5<recursionLimit
 un:A.units+16 * k+200<cLine
theorem qaY.deeper{k:Nat}{A:Around}(r:qaY (k+1) A)(env:Env):qaY k (A.deeper env):=
 ⟨r.hd,by have:=r.dp;show A.depth+1+3 * k+5<_;lia,by have:=r.un;show A.units+3+16 * k+200<_;lia⟩
theorem qaY.depth{k:Nat}{A:Around}(r:qaY k A):A.depth<recursionLimit:=by have:=r.dp;lia
theorem qaY.units{k:Nat}{A:Around}(r:qaY k A):A.units+64<cLine:=by have:=r.un;lia
noncomputable def qjb:TA:=fun _ H Q=>Q [] H
noncomputable def qeg(ta:TE)(tr:TA):TA:=fun σ H Q=>ta σ H fun x H1=>tr σ H1 fun xs H2=>Q (x::xs) H2
section
variable{X:Cx}{e:Expr}{es:List Expr}{te:TE}{t:TA}{pos:Pos}
theorem zI:PA X [] qjb:=fun _ _ _ _ H Q I h=>Calls.spliced_nil ⟨[],H,I,.nil,h⟩
theorem zi(ha:PE X e te)(hr:PA X es t)(hs:starEach (e::es) X.env=(false,eval e X.env)::starEach es X.env:=by rfl):PA X (e::es) (qeg te t):=by
 intro pos pins s σ H Q I h;rw [hs];show wpAny _ _ (spliced ((false,eval e X.env)::backTo pos (starEach es X.env))) _ _ s;refine Calls.spliced_cons (thn (ha pins s σ H _ I h) fun u s1 ⟨x,H1,I1,r1,q1⟩=>?_);exact thn (hr pos pins s1 σ H1 _ I1 q1) fun us s2 ⟨xs,H2,I2,r2,q2⟩=>⟨x::xs,H2,I2,.cons r1 r2,q2⟩
noncomputable def qtl(t:TA):TE:=fun σ H Q=>t σ H fun xs H1=>xs.length≤sizeLine∧∀p,H1 p=none→Q (.ref p) (upd H1 p (.tup xs))
noncomputable def qti(t:TA):TE:=fun σ H Q=>t σ H fun xs H1=>xs.length≤sizeLine∧∀p,H1 p=none→Q (.ref p) (upd H1 p (.lst xs))
theorem qpM{x1}(h:PA X es t):PE X (.Tuple es x1 pos) (qtl t):=by
 intro pins s σ H Q I hq;refine wpAny_Tuple_spliced (thn (h pos pins s σ H _ I hq) fun us s1 ⟨xs,H1,I1,r,z,q⟩=>⟨by rw [←r.length];exact z,?_⟩);have hf:H1 s1.heap.objs.size=none:=I1.hok.fresh (Nat.le_refl _);refine⟨.ref s1.heap.objs.size,upd H1 s1.heap.objs.size (.tup xs),I1.laid (t':=s1.toks) (fun b u e=>Heap.get?_push_of_some _ e) (Nat.le_refl _) ?_,rfl,q _ hf⟩;exact⟨z,us,r,⟨_,Heap.get?_push_size _ rfl,rfl,_,rfl⟩⟩
theorem qoZ(h:PA X es t):PE X (.List es pos) (qti t):=by
 intro pins s σ H Q I hq;refine wpAny_List_spliced (thn (h pos pins s σ H _ I hq) fun us s1 ⟨xs,H1,I1,r,z,q⟩=>⟨by rw [←r.length];exact z,?_⟩);have hf:H1 s1.heap.objs.size=none:=I1.hok.fresh (Nat.le_refl _);refine⟨.ref s1.heap.objs.size,upd H1 s1.heap.objs.size (.lst xs),I1.laid (t':=s1.toks) (fun b u e=>Heap.get?_push_of_some _ e) (Nat.le_refl _) ?_,rfl,q _ hf⟩;exact⟨z,us,0,r,Heap.get?_push_size _ rfl⟩
end
abbrev Sp:=List V→Hp→VK→XK→Prop
abbrev CXT:=List Env→Hp→Shared→XK→Value→Shared→Prop
structure qhy(P:Program)(w:World)(K:PySem.W.Frag)(mg:Str→Option Value)(base:Heap)(A:Around)(outer:List Env)(s:Shared)(H:Hp):Prop where
 frames:A.frames=some outer
 mod:Mod K mg base
 bs:∀b o,base.get? b=some o→s.heap.get? b=some o∧H b=none
 bsz:base.objs.size≤s.heap.objs.size
 funs:s.heap.FunFrames base outer
 frf:∀b∈frs outer,H b=none
 hok:HOk P w H s.heap
 bare:AllBare s.gens
noncomputable def CE(outer:List Env)(P:Program)(w:World)(H:Hp)(s:Shared)(Q:VK)(u:Value)(s':Shared):Prop:=
 ∃v H',s'.os=s.os∧AllBare s'.gens∧Un (frs outer) [] H H' s.heap s'.heap∧HOk P w H' s'.heap∧RelV v u∧Q v H'
noncomputable def CR(CX:CXT)(outer:List Env)(P:Program)(w:World)(H:Hp)(s:Shared)(Q:VK)(E:XK)(r:Result)(s':Shared):Prop:=
 match r with
 | .ok (.ret u)=>CE outer P w H s Q u s'
 | .ok _=>False
 | .error e=>CX outer H s E e s'
structure qdf(P:Program)(w:World)(K:PySem.W.Frag)(mg:Str→Option Value)(base:Heap)(CX:CXT)(k:Nat)(f:Addr)(fd:FuncData)(ps:List Str)(sp:Sp):Prop where
 len:∀vs H Q E,sp vs H Q E→vs.length=ps.length
 run:∀(A:Around) (outer:List Env) (s:Shared) (H:Hp) (args:Args) (us:List Value) (vs:List V) (Q:VK) (E:XK),qaY k A→qhy P w K mg base A outer s H→BindsTo s fd args (ps.zip us)→Vals vs us→sp vs H Q E →
  codeAny (model P w) A (.call (.ref f) args) (CR CX outer P w H s Q E) s
section
variable{X:Cx}{pins:List (Addr×Obj)}{σ:St}{H:Hp}{s s':Shared}
theorem Inv.env0(I:Inv X pins σ H s):qhy X.prog X.w X.K X.mg X.base X.A X.stack s H:=
 ⟨I.ok.frames,I.ok.mod,I.bs,Nat.le_trans I.ok.bsz I.sz,I.stack,I.stkFree,I.hok,I.bare⟩
theorem Inv.after{Q:VK}{u:Value}(I:Inv X pins σ H s)(h:CE X.stack X.prog X.w H s Q u s'):EP X pins σ Q u s':=by
 obtain⟨v,H',os,bare,un,hok,r,q⟩:=h;obtain⟨hh,g,d,t,os'⟩:=s';obtain rfl:os'=s.os:=os;exact⟨v,H',I.call (h':=hh) (g':=g) (d':=d) (t':=t) (ch:=[]) un hok bare (fun b z=>absurd z (by simp)),r,q⟩
end
noncomputable def qjE(sp:Sp)(dvs:List V)(E:XK)(t:TA):TE:=fun σ H Q=>t σ H fun vs H1=>sp (vs++dvs) H1 Q E
noncomputable def Binds(K:PySem.W.Frag)(fd:FuncData)(ps:List Str)(ds:List Value):Prop:=
 ∀(s:Shared) (us:List Value),K.In s.heap→(us++ds).length=ps.length→BindsTo s fd ⟨us,[]⟩ (ps.zip (us++ds))
theorem Binds.all{K:PySem.W.Frag}{fd:FuncData}{ps:List Str}(h:∀us:List Value,us.length=ps.length→bindArgs fd ⟨us,[]⟩=pure (ps.zip us)):Binds K fd ps []:=fun s us _ hl=>by
 rw [List.append_nil]at hl ⊢;exact .of_eq (h us hl)
noncomputable def Passes(CX:CXT)(X:Cx)(E:XK):Prop:=∀(pins:List (Addr×Obj)) (σ:St) (H:Hp) (s:Shared) (e:Value) (s':Shared),Inv X pins σ H s→CX X.stack H s E e s'→X.xe e s'
section
variable{X:Cx}{CX:CXT}{k:Nat}{f C:Addr}{fd:FuncData}{ps:List Str}{sp:Sp}{dvs:List V}{ds:List Value}{E:XK}{x m:Str}{p pos apos:Pos}{e o:Expr}{es:List Expr}{ta:TE}{t:TA}
theorem qpV{pins:List (Addr×Obj)}{σ:St}{H:Hp}{s:Shared}{Q:VK}{us:List Value}{vs:List V}(F:qdf X.prog X.w X.K X.mg X.base CX k f fd ps sp)(hr:qaY k X.A)(hb:Binds X.K fd ps ds)(hd:Vals dvs ds)(hx:Passes CX X E)
  (I:Inv X pins σ H s) (r:Vals vs us) (h:sp (vs++dvs) H Q E):wpAny (model X.prog X.w) X.A (call (.ref f) us) (EP X pins σ Q) X.xe s:=by
 have r2:Vals (vs++dvs) (us++ds):=r.append hd;have hl:(us++ds).length=ps.length:=by rw [←r2.length];exact F.len _ _ _ _ h
 refine wpAny_call (codeAny_mono (F.run X.A X.stack s H ⟨us,[]⟩ (us++ds) (vs++dvs) Q E hr I.env0 (hb s us I.kIn hl) r2 h) fun r s' hq=>?_);cases r with
 |error e=>exact hx pins σ H s e s' I hq
 |ok fl=>
  cases fl with
  |ret u=>exact I.after hq
  |next=>exact False.elim hq
  |brk=>exact False.elim hq
  |cont=>exact False.elim hq
theorem qno(F:qdf X.prog X.w X.K X.mg X.base CX k f fd ps sp)(hr:qaY k X.A)(hg:Gl X x)(hm:X.mg x=some (.ref f))(hk:PySem.W.keepIn X.K (.ref f)=true)(hb:Binds X.K fd ps ds)(hd:Vals dvs ds)(hx:Passes CX X E)
  (ha:PA X (e::es) t) (hdb:(x==("__debug__" : Str))=false:=by decide) (he:starEach (e::es) X.env=(false,eval e X.env)::starEach es X.env:=by rfl) (hpl:(backTo pos (starEach es X.env)).any (·.1)=false:=by rfl) :
  PE X (.Call (.Name x p) (e::es) [] pos) (qjE sp dvs E t):=by
 intro pins s σ H Q I h;refine wpAny_Call_Name_kw (qeJ I hg hm ?_ hdb);refine PySem.W.callWith_K (h₀:=X.base) I.ok.mod.kin hk (thn (ha pos pins s σ H _ I h) fun us s1 ⟨vs,H1,I1,r,q⟩=>⟨I1.kIn,?_⟩) he hpl;exact qpV F hr hb hd hx I1 r q
end
section
variable{X:Cx}{CX:CXT}{k:Nat}{f C:Addr}{fd:FuncData}{ps ks:List Str}{sp:Sp}{E:XK}{x m:Str}{p pos apos kpos:Pos}{e o:Expr}{es:List Expr}{kws:List Keyword}{te ta:TE}{t tk:TA}{nm:Option Str}
variable{g:List Value→List Value→List Value}{gV:List V→List V→List V}
end
structure qcD(N P:List Str)(sc:Scope):Prop where
 kind:sc.kind=.function
 co:sc.isCoroutine=false
 gen:sc.isGenerator=false
 nd:N.Nodup
 pre:N.take P.length=P
 par:∀x∈P,sc.names.lookup x=some .local∨sc.names.lookup x=some .cell
 nofree:∀y∈sc.names,y.2≠.free
theorem qfN{kindOf:Str→Option NameKind}{x:Str}:∀{binds:List (Str×Value)}{m:Str→Option Value},(∀v,(x,v)∉binds)→bindL kindOf binds m x=m x
 | [],_,_=>rfl
 | (n,v)::r,m,h=>by
  unfold bindL;rw [qfN fun w hw=>h w (List.mem_cons_of_mem _ hw)];split
  ·have:x≠n:=by rintro rfl;exact h v List.mem_cons_self
   simp [this]
  ·rfl
theorem qfD{kindOf:Str→Option NameKind}{x:Str}:∀{binds:List (Str×Value)}{m:Str→Option Value},(∀v,(x,v)∉binds)→bindC kindOf binds m x=m x
 | [],_,_=>rfl
 | (n,v)::r,m,h=>by
  unfold bindC;rw [qfD fun w hw=>h w (List.mem_cons_of_mem _ hw)];split
  ·rfl
  ·have:x≠n:=by rintro rfl;exact h v List.mem_cons_self
   simp [this]
theorem qfF{kindOf:Str→Option NameKind}{x:Str}{v:Value}:∀{P:List Str}{vs:List Value}{i:Nat}{m:Str→Option Value},P.Nodup→P[i]? = some x→vs[i]? = some v→kindOf x=some .local →
  bindL kindOf (P.zip vs) m x=some v
 | [],_,_,_,_,h,_,_=>by simp at h
 |_::_,[],_,_,_,_,h,_=>by simp at h
 |p::P,w::vs,0,m,nd,h1,h2,hk=>by
  simp at h1 h2;subst h1;subst h2;show bindL kindOf ((p,w)::P.zip vs) m p=_;unfold bindL;rw [qfN fun v hv=>(List.nodup_cons.mp nd).1 (List.of_mem_zip hv).1,if_pos hk];simp
 |p::P,w::vs,i+1,m,nd,h1,h2,hk=>by
  show bindL kindOf ((p,w)::P.zip vs) m x=_;unfold bindL;exact qfF (i:=i) (List.nodup_cons.mp nd).2 (by simpa using h1) (by simpa using h2) hk
theorem qfu{kindOf:Str→Option NameKind}{x:Str}{v:Value}:∀{P:List Str}{vs:List Value}{i:Nat}{m:Str→Option Value},P.Nodup→P[i]? = some x→vs[i]? = some v→kindOf x≠some .local →
  bindC kindOf (P.zip vs) m x=some v
 | [],_,_,_,_,h,_,_=>by simp at h
 |_::_,[],_,_,_,_,h,_=>by simp at h
 |p::P,w::vs,0,m,nd,h1,h2,hk=>by
  simp at h1 h2;subst h1;subst h2;show bindC kindOf ((p,w)::P.zip vs) m p=_;unfold bindC;rw [qfD fun v hv=>(List.nodup_cons.mp nd).1 (List.of_mem_zip hv).1,if_neg hk];simp
 |p::P,w::vs,i+1,m,nd,h1,h2,hk=>by
  show bindC kindOf ((p,w)::P.zip vs) m x=_;unfold bindC;exact qfu (i:=i) (List.nodup_cons.mp nd).2 (by simpa using h1) (by simpa using h2) hk
noncomputable def start(N:List Str)(vs:List V):St:=vs.map some++List.replicate (N.length-vs.length) none
noncomputable def qcV(CX:CXT)(P:Program)(w:World)(K:PySem.W.Frag)(mg:Str→Option Value)(base:Heap)(N:List Str)(qual:Str)(scope:Scope)(f:Addr)(cd:Value)(A:Around)(outer:List Env)(s:Shared)(H:Hp)(E:XK):Cx where
 prog:=P
 w:=w
 K:=K
 mg:=mg
 base:=base
 A:=A.deeper (envOfC qual scope s.heap.objs.size f cd)
 N:=N
 s₀:=s
 H₀:=H
 env:=envOfC qual scope s.heap.objs.size f cd
 outer:=outer
 stack:=envOfC qual scope s.heap.objs.size f cd::outer
 ex:=[]
 calm:=true
 fn:=fun _=>true
 pn:=[]
 xe:=fun e s'=>wpAny (model P w) (A.deeper (envOfC qual scope s.heap.objs.size f cd)) (leaving (envOfC qual scope s.heap.objs.size f cd) e) (fun _ s''=>CX outer H s E e s'') (fun e' s''=>CX outer H s E e' s'') s'
theorem qcN{sc:Scope}{n:Nat}{x:Str}(h:sc.names.lookup x=some .cell):∃c,(cellsFrom n sc.names []).lookup x=some c:=by
 have q:=PySem.W.cellsFrom_some sc.names n [] (.inl h);exact Option.isSome_iff_exists.mp q
theorem qlg{CX:CXT}{P:Program}{w:World}{K:PySem.W.Frag}{mg:Str→Option Value}{base:Heap}{N ps:List Str}{qual:Str}{scope:Scope}{f:Addr}{cd:Value}{A:Around}{outer:List Env}{s s1:Shared}{H:Hp}{E:XK}{us:List Value}{vs:List V}
  (S:qcD N ps scope) (hd:A.handled=none) (e0:qhy P w K mg base A outer s H) (hl:vs.length=ps.length) (r:Vals vs us)
  (x:InCallC s s.heap.objs.size (bindL (envOfC qual scope s.heap.objs.size f cd).kindOf (ps.zip us) fun _=>none) (cellsFrom (s.heap.objs.size+1) scope.names []) (bindC (envOfC qual scope s.heap.objs.size f cd).kindOf (ps.zip us) fun _=>none) s1) :
  Inv (qcV CX P w K mg base N qual scope f cd A outer s H E) [] (start N vs) H s1:=by
 have hpl:ps.length≤N.length:=by have:=congrArg List.length S.pre;rw [List.length_take]at this;lia
 obtain⟨h1,tk,rfl,hk⟩:=x.done;have noA:∀b:Addr,b∉(qcV CX P w K mg base N qual scope f cd A outer s H E).ex:=fun b z=>absurd (show b∈([]:List Addr)from z) (by simp)
 refine⟨⟨e0.mod,S.kind,rfl,rfl,Nat.le_refl _,fun y z c h1 h2=>?_,fun y hy=>?_,fun y c _ h=>?_,fun _=>hd,Around.frames_deeper e0.frames,.inr ⟨rfl,rfl⟩,fun b z=>absurd z (noA b),e0.bs,e0.bsz,fun b _ _=>noA b,fun b z=>absurd z (noA b),e0.funs,e0.frf⟩,
  rfl,e0.bare,Un.kept hk,⟨_,x.toInCall.ns,fun i y v h1 h2 h3=>?_⟩,fun y c h=>⟨_,x.cell y c h⟩,e0.hok.fresh (Nat.le_refl _),fun y c h=>?_,fun p hp=>absurd (show p∈([]:List (Addr×Obj))from hp) (by simp),e0.hok.kept hk,?_⟩
 ·exact name_of_addr x.apart (PySem.mem_of_lookup h1) (PySem.mem_of_lookup h2)
 ·have hy:scope.names.lookup y=some .cell∨scope.names.lookup y=some .free:=hy;rcases hy with hy|hy
  ·exact qcN hy
  ·exact absurd rfl (S.nofree _ (PySem.mem_of_lookup hy))
 ·exact Nat.le_of_lt (x.above y c (PySem.mem_of_lookup h))
 ·have hi:i<vs.length:=by
   unfold start at h2;by_cases hi:i<vs.length
   ·exact hi
   ·rw [List.getElem?_append_right (by simpa using hi)]at h2;rw [List.getElem?_replicate]at h2;split at h2<;>cases h2
  have ha:vs[i]? = some v:=by
   unfold start at h2;rw [List.getElem?_append_left (by simpa using hi),List.getElem?_map]at h2;cases e:vs[i]? with
   |none=>rw [e]at h2;cases h2
   |some a=>rw [e]at h2;cases h2;rfl
  obtain⟨u,hu,rv⟩:=r.get ha;have hp:ps[i]? = some y:=by
   rw [←S.pre,List.getElem?_take_of_lt (by lia)];exact h1
  have ndP:ps.Nodup:=by rw [←S.pre];exact S.nd.sublist (List.take_sublist _ _)
  refine⟨u,rv,?_⟩;rcases S.par y (List.mem_of_getElem? hp)with k|k
  ·exact .inl ⟨k,qfF ndP hp hu k⟩
  ·obtain⟨c,e⟩:=qcN (n:=s.heap.objs.size+1) k;refine .inr ⟨.inl k,c,e,?_⟩;have q:=x.cell y c e;rw [qfu ndP hp hu (by show scope.names.lookup y≠_;rw [k];decide)]at q;exact q
 ·exact e0.hok.fresh (Nat.le_of_lt (x.above y c (PySem.mem_of_lookup h)))
 ·unfold start;show _=N.length;rw [List.length_append,List.length_map,List.length_replicate];lia
theorem qrj{CX:CXT}{P:Program}{w:World}{K:PySem.W.Frag}{mg:Str→Option Value}{base:Heap}{k:Nat}{f:Addr}{name qual:Str}{params:Arguments}{body:List Stmt}{scope:Scope}{dV kV doc pm cdv ct oc:Value}{an od:Option Addr}
  {osl:Array (Option Value)}{N ps:List Str}{sp:Sp} (lk:K.lookup f=some ⟨oc,od,.func (PySem.W.fnOf name qual params body scope dV kV doc pm an cdv ct),osl⟩) (hcd:PySem.W.codeIn K cdv qual=true) (S:qcD N ps scope)
  (len:∀vs H Q E,sp vs H Q E→vs.length=ps.length)
  (hbody:∀(A:Around) (outer:List Env) (s:Shared) (H:Hp) (vs:List V) (Q:VK) (E:XK),qaY k (A.deeper (envOfC qual scope s.heap.objs.size f cdv))→sp vs H Q E →
   ∃t,PSs (qcV CX P w K mg base N qual scope f cdv A outer s H E) body t∧t {nx:=fun _ H'=>Q .non H',rt:=Q} (start N vs) H) :
  qdf P w K mg base CX (k+1) f (PySem.W.fnOf name qual params body scope dV kV doc pm an cdv ct) ps sp:=by
 refine⟨len,fun A outer s H args us vs Q E hr e0 hb r hsp=>?_⟩;have hl:=len _ _ _ _ hsp;have KX:K.In s.heap:=e0.mod.kin.keeps fun b o e=>(e0.bs b o e).1
 have lim:s.heap.NoLimit:=e0.mod.nolimit.keeps fun b o e=>(e0.bs b o e).1
 have hkind:∀y∈ps.zip us,scope.names.lookup y.1=some .local∨(scope.names.lookup y.1=some .cell∧((cellsFrom (s.heap.objs.size+1) scope.names []).lookup y.1).isSome=true):=fun⟨n,v⟩ hy=>by
  rcases S.par n (List.of_mem_zip hy).1 with q|q
  ·exact .inl q
  ·exact .inr ⟨q,PySem.W.cellsFrom_some _ _ _ (.inl q)⟩
 refine codeAny_call_function hr.depth (KX _ _ lk) rfl S.co S.gen rfl (PySem.W.codeRec_of KX hcd) (hb _ _ _ _ ?_);refine wpAny_newFunctionEnv_cells S.kind hkind fun env he s1 x=>?_
 subst he;refine⟨lim.keeps x.toInCall.keep,codeAny_func ?_⟩;obtain⟨t,ht,hq⟩:=hbody A outer s H vs Q E (hr.deeper _) hsp;have I:Inv (qcV CX P w K mg base N qual scope f cdv A outer s H E) [] (start N vs) H s1:=qlg S hr.hd e0 hl r x;refine wpAny_mono (ht [] s1 (start N vs) H _ I hq) (fun fl s' hs=>?_) fun e s' hs=>hs
 have fin:∀{σ':St}{H':Hp}{v:V}{u:Value},Inv (qcV CX P w K mg base N qual scope f cdv A outer s H E) [] σ' H' s'→RelV v u→Q v H'→CE outer P w H s Q u s':=
  fun {σ' H' v u} J rv q=>⟨v,H',J.os,J.bare,J.base,J.hok,rv,q⟩
 cases fl with
 |ret u=>
  obtain⟨v,σ',H',J,rv,q⟩:=hs;exact fin J rv q
 |next=>
  obtain⟨σ',H',J,q⟩:=hs;exact fin (v:=V.non) (u:=Value.none) J rfl q
 |brk=>
  obtain⟨_,_,_,q⟩:=hs;exact False.elim q
 |cont=>
  obtain⟨_,_,_,q⟩:=hs;exact False.elim q
section
variable{X:Cx}{x:Str}{p pos:Pos}{e:Expr}{es:List Expr}{t:TA}{id T:String}{r:List V→Hp→VK→Prop}
noncomputable def tCB(r:List V→Hp→VK→Prop)(t:TA):TE:=fun σ H Q=>t σ H fun vs H1=>r vs H1 Q
theorem qgV(hc:qT X (.builtin id) r)(hg:Gl X x)(hm:X.mg x=none)(hv:bootBuiltins x=some (.builtin id))(ha:PA X (e::es) t)(hn:x≠"__name__":=by decide)(hdb:(x==("__debug__" : Str))=false:=by decide)
  (he:starEach (e::es) X.env=(false,eval e X.env)::starEach es X.env:=by rfl) (hpl:(backTo pos (starEach es X.env)).any (·.1)=false:=by rfl):PE X (.Call (.Name x p) (e::es) [] pos) (tCB r t):=by
 intro pins s σ H Q I h;refine wpAny_Call_Name_kw (qbg I hg hm hv ?_ hn hdb);exact PyProof.Rows.callWith_builtin1 (thn (ha pos pins s σ H _ I h) fun us s1 ⟨vs,H1,I1,r1,q1⟩=>hc pins s1 σ H1 vs us Q I1 r1 q1) he hpl
theorem qaQ(hc:qT X (.type T) r)(hg:Gl X x)(hm:X.mg x=none)(hv:bootBuiltins x=some (.type T))(ha:PA X (e::es) t)(hn:x≠"__name__":=by decide)(hdb:(x==("__debug__" : Str))=false:=by decide)
  (he:starEach (e::es) X.env=(false,eval e X.env)::starEach es X.env:=by rfl) (hpl:(backTo pos (starEach es X.env)).any (·.1)=false:=by rfl):PE X (.Call (.Name x p) (e::es) [] pos) (tCB r t):=by
 intro pins s σ H Q I h;refine wpAny_Call_Name_kw (qbg I hg hm hv ?_ hn hdb);exact PyProof.Rows.callWith_type1 (thn (ha pos pins s σ H _ I h) fun us s1 ⟨vs,H1,I1,r1,q1⟩=>hc pins s1 σ H1 vs us Q I1 r1 q1) he hpl
end
end L2
namespace HT
open PySem PyProof.Rows
noncomputable def lexLt:List Int→List Int→Bool
 | [],[]=>false
 | [],_::_=>true
 |_::_,[]=>false
 |x::xs,y::ys=>if x=y then lexLt xs ys else decide (x<y)
theorem qdY(x y:Int)(xs ys:List Int):lexLt (x::xs) (y::ys)=if x=y then lexLt xs ys else decide (x<y):=rfl
theorem qcX:lexLt [] []=false:=rfl
theorem qcF(y:Int)(ys:List Int):lexLt [] (y::ys)=true:=rfl
theorem qcE(x:Int)(xs:List Int):lexLt (x::xs) []=false:=rfl
theorem qmD(A:Around)(s:Shared)(a:Int)(t:Tok)(c:Int)(u:Tok):∃e,SeqAt.EqAt A s (.int a t) (.int c u) e∧(e=true↔a=c):=
 ⟨(a==c),SeqAt.EqAt.int_int a t c u,by simp⟩
theorem qmt(A:Around)(s:Shared)(a:Int)(t:Tok)(c:Int)(u:Tok)(prog:Program)(w:World)(E:Value→Shared→Prop)(Q:Value→Shared→Prop)(h:Q (.bool (decide (a<c))) s) :
  wpAny (model prog w) A (richCompare .Lt (.int a t) (.int c u)) Q E s:=
 (PyProof.Rows.lt_int h:wpAny (model prog w) A (compareOp .Lt (.int a t) (.int c u)) Q E s)
section
open PySem.SeqAt
open PySem.AutoSeq1 (wpAny_loadPart')
open PySem.MeetsSeq PySem.MeetsSeq2 PySem.MeetsSeq3
theorem qcY(l b:Addr)(items items2:Array Value)(n n2:Nat)(dd dd2:Option Addr)(sl sl2:Array (Option Value))(ns ms:List Int)(hi:IntsAre items.toList ns)(hj:IntsAre items2.toList ms) :
  Meets (Builtin.«tuple.__lt__» ⟨[.ref l,.ref b],[]⟩)
   (fun _ R s=>s.heap.get? l=some {cls:=.type "tuple",dict:=dd,data:=.seq items n,slots:=sl}∧s.heap.get? b=some {cls:=.type "tuple",dict:=dd2,data:=.seq items2 n2,slots:=sl2} ∧
    R (.ok (.ret (.bool (lexLt ns ms)))) s):=
 .of_wp fun prog w A R s h=>by
  obtain⟨hp,g,d,tk,os⟩:=s;obtain⟨hl,hb,h⟩:=h;have f2:=AutoSeq1.sub_tuple_tuple;have z1:items.size=ns.length:=by rw [←hi.length];simp
  have z2:items2.size=ms.length:=by rw [←hj.length];simp
  wp_walk using wpAny_loadPart' hl,wpAny_loadPart' hb,wpAny_forIn_list _ (fun rest b s'=>b.1=none∧s'=⟨hp,g,d,tk,os⟩∧∃(vs ws:List Value) (ns' ms':List Int),rest=vs.zip ws ∧
   IntsAre vs ns'∧IntsAre ws ms'∧ns'.length+items2.size=ms'.length+items.size∧R (.ok (.ret (.bool (lexLt ns' ms')))) ⟨hp,g,d,tk,os⟩) _
  case turn=>
   rintro⟨y,x⟩ rest b s' ⟨hb',rfl,vs,ws,ns',ms',hz,hvi,hwi,hlen,hR⟩;cases hvi with
   |nil=>rw [List.zip_nil_left]at hz;cases hz
   |cons a t hvi'=>
    cases hwi with
    |nil=>rw [List.zip_nil_right]at hz;cases hz
    |cons c u hwi'=>
     rw [List.zip_cons_cons]at hz;injection hz with hyx hrest
     injection hyx with hy hx
     subst hy hx;rw [qdY]at hR;simp only [List.length_cons]at hlen;obtain⟨e,he,hiff⟩:=qmD A.in1 ⟨hp,g,d,tk,os⟩ a t c u;refine wpAny_bind (he prog w _ _ ?_);cases e with
     |true=>
      rw [if_pos (hiff.mp rfl)]at hR
      wp_walk
      exact⟨rfl,rfl,_,_,_,_,hrest,hvi',hwi',by lia,hR⟩
     |false=>
      rw [if_neg (fun q=>absurd (hiff.mpr q) Bool.false_ne_true)]at hR;have hri:=qmt A.in1 ⟨hp,g,d,tk,os⟩ a t c u prog w
      wp_walk using hri
      exact⟨_,rfl,by simpa using hR⟩
  case fin=>
   rintro⟨b1,b2⟩ s' ⟨hb',rfl,vs,ws,ns',ms',hz,hvi,hwi,hlen,hR⟩;simp only at hb';subst hb';have hv:lexLt ns' ms'=decide (items.size<items2.size):=by
    cases hvi with
    |nil=>
     cases hwi with
     |nil=>
      simp only [List.length_nil]at hlen;rw [qcX];exact(decide_eq_false (by lia)).symm
     |cons c u hw=>
      simp only [List.length_nil,List.length_cons]at hlen;rw [qcF];exact(decide_eq_true (by lia)).symm
    |cons a t hv=>
     cases hwi with
     |nil=>
      simp only [List.length_nil,List.length_cons]at hlen;rw [qcE];exact(decide_eq_false (by lia)).symm
     |cons c u hw=>
      rw [List.zip_cons_cons]at hz;cases hz
   rw [hv]at hR
   wp_walk
   exact⟨_,rfl,by simpa [Builtin.Tuple.tupleCompareSizes]using hR⟩
  case h=>
   exact⟨rfl,rfl,items.toList,items2.toList,ns,ms,rfl,hi,hj,by lia,h⟩
end
section
variable{prog:Program}{w:World}{A:Around}{E:Value→Shared→Prop}{s:Shared}
theorem qiY{l b:Addr}{items items2:Array Value}{ns ms:List Int}{Q:Value→Shared→Prop}(hl:IsTup s.heap l items)(hb:IsTup s.heap b items2)(hi:IntsAre items.toList ns)(hj:IntsAre items2.toList ms)
  (hu:A.units<cLine) (h:Q (.bool (lexLt ns ms)) s):wpAny (model prog w) A (compareOp .Lt (.ref l) (.ref b)) Q E s:=by
 obtain⟨⟨cls,dd,data,sl⟩,ho,hc,n,hd⟩:=id hl;obtain⟨⟨cls2,dd2,data2,sl2⟩,ho2,hc2,n2,hd2⟩:=id hb;simp only at hc hd hc2 hd2;subst hc hd hc2 hd2;exact richCompare_meets_room (op:=.Lt) ⟨_,ho,rfl⟩ ⟨_,ho2,rfl⟩ PySem.F.slot_tuple_lt PySem.F.entry_tuple_lt (PySem.F.args_tuple_lt_2 _ _) (qcY l b items items2 n n2 dd dd2 sl sl2 ns ms hi hj)
  ⟨ho,ho2,show Value.bool (lexLt ns ms)≠Value.notImplemented∧Q (.bool (lexLt ns ms)) s from ⟨(fun x=>nomatch x),h⟩⟩ hu
theorem qnO{t b:Addr}{vs ws:List Value}{Q:Value→Shared→Prop}(ht:IsTup s.heap t vs.toArray)(hb:IsTup s.heap b ws.toArray)(hv:vs≠[])
  (h1:ws=[]→Q (.ref t) s) (h2:ws≠[]→Q (.ref s.heap.objs.size) {s with heap:=s.heap.push {cls:=.type "tuple",data:=.seq (vs++ws).toArray}})
  (hsz:vs.length+ws.length≤sizeLine):wpAny (model prog w) A (binaryOp .Add (.ref t) (.ref b)) Q E s:=by
 obtain⟨⟨cls,dd,data,sl⟩,ho,hc,n,hd⟩:=id ht;obtain⟨⟨cls2,dd2,data2,sl2⟩,ho2,hc2,n2,hd2⟩:=id hb;simp only at hc hd hc2 hd2;subst hc hd hc2 hd2;have e:vs.toArray++ws.toArray=(vs++ws).toArray:=by simp
 by_cases hw:ws=[]
 ·exact concat_meets ⟨_,ho,rfl⟩ ⟨_,ho2,rfl⟩ noFill_tuple_add seq_tuple_add PySem.F.slot_tuple_add PySem.F.entry_tuple_add (PySem.F.args_tuple_add_2 _ _)
   (tuple_addW1 t b vs.toArray ws.toArray n n2 dd dd2 sl sl2 (by simpa using hv) (by simp [hw])) ⟨ho,ho2,h1 hw⟩
 ·refine concat_meets ⟨_,ho,rfl⟩ ⟨_,ho2,rfl⟩ noFill_tuple_add seq_tuple_add PySem.F.slot_tuple_add PySem.F.entry_tuple_add (PySem.F.args_tuple_add_2 _ _)
   (tuple_addW2 t b vs.toArray ws.toArray n n2 dd dd2 sl sl2 (by simpa using hv) (by simpa using hw) (by rw [List.size_toArray,List.size_toArray];exact hsz)) ⟨ho,ho2,?_⟩
  rw [e];exact h2 hw
noncomputable def sIx(n d:Nat):Option Int→Nat
 |none=>d
 |some v=>if v<0 then (v+(n:Int)).toNat else min v.toNat n
theorem qpF(n d:Nat)(hd:d≤n)(o:Option Int):sIx n d o≤n:=by
 cases o with
 |none=>exact hd
 |some v=>
  show (if v<0 then (v+(n:Int)).toNat else min v.toNat n)≤n;by_cases hv:v<0
  ·rw [if_pos hv];lia
  ·rw [if_neg hv];exact Nat.min_le_right _ _
theorem qio(v:Int)(n d:Nat):(if v<0 then max (v+(n:Int)) 0 else min v (n:Int))=((sIx n d (some v):Nat):Int):=by
 show (if v<0 then max (v+(n:Int)) 0 else min v (n:Int))=(((if v<0 then (v+(n:Int)).toNat else min v.toNat n):Nat):Int)
 by_cases hv:v<0
 ·simp only [if_pos hv];lia
 ·simp only [if_neg hv];lia
theorem qjC(lo hi:Option Int)(n:Nat):Builtin.Slice.sliceAdjust lo hi 1 (n:Int)=(((sIx n 0 lo:Nat):Int),((sIx n n hi:Nat):Int)):=by
 have h1:¬ ((1:Int)<0):=by lia
 unfold Builtin.Slice.sliceAdjust;simp only [h1,if_false];refine Prod.ext ?_ ?_
 ·cases lo with
  |none=>rfl
  |some v=>exact qio v n 0
 ·cases hi with
  |none=>rfl
  |some v=>exact qio v n n
theorem qjm(i j:Nat):Builtin.Slice.slicePlaces (i:Int) (j:Int) 1=j-i:=by
 unfold Builtin.Slice.slicePlaces;have h1:(1:Int)>0:=by lia
 simp only [h1,if_true,Int.ediv_one];split<;>lia
theorem qeb{v:Value}{o:Option Int}{Q:Option Int→Shared→Prop}(p:IsPart v o)(h:Q o s):wpAny (model prog w) A (Builtin.Slice.slicePartIndex v) Q E s:=by
 cases p with
 |none=>exact slicePart_none h
 |int i t=>exact slicePart_int h
theorem qbV{sl:Addr}{vl vu:Value}{lo hi:Option Int}{n:Nat}{Q:Int×Int×Nat→Shared→Prop}(hs:s.heap.IsSliceOf sl vl vu .none)(pl:IsPart vl lo)(pu:IsPart vu hi)
  (h:Q (((sIx n 0 lo:Nat):Int),1,sIx n n hi-sIx n 0 lo) s):wpAny (model prog w) A (Builtin.Slice.sliceApplied (.ref sl) (pure (n:Int))) Q E s:=by
 obtain⟨os,hos,hcs,hds⟩:=id hs;unfold Builtin.Slice.sliceApplied Builtin.Slice.sliceFields;refine wpAny_bind (wpAny_bind (wpAny_field hos hds (x:=vl) rfl (wpAny_bind (wpAny_field hos hds (x:=vu) rfl (wpAny_bind (wpAny_field hos hds (x:=.none) rfl (wpAny_pure ?_)))))));refine wpAny_bind (slicePart_none ?_);show wpAny _ _ (if ((1:Int)==0)=true then _ else _) _ _ s;rw [if_neg (by decide)];refine wpAny_bind (qeb pl (wpAny_bind (qeb pu (wpAny_bind (wpAny_pure ?_)))));show wpAny _ _ (match Builtin.Slice.sliceAdjust lo hi 1 (n:Int)with|(lo,hi)=>pure (lo,(1:Int),Builtin.Slice.slicePlaces lo hi 1)) _ _ s;rw [qjC lo hi n];show wpAny _ _ (pure (((sIx n 0 lo:Nat):Int),(1:Int),Builtin.Slice.slicePlaces ((sIx n 0 lo:Nat):Int) ((sIx n n hi:Nat):Int) 1)) _ _ s;rw [qjm];exact wpAny_pure h
theorem qlA(xs:Array Value)(i k:Nat):((List.range k).filterMap fun(m:Nat)=>xs[((i:Int)+(m:Int) * 1).toNat]?).toArray=((xs.toList.drop i).take k).toArray:=by
 have e:(fun(m:Nat)=>xs[((i:Int)+(m:Int) * 1).toNat]?)=fun m=>xs[i+m]?:=by
  funext m;have:((i:Int)+(m:Int) * 1).toNat=i+m:=by lia
  rw [this]
 rw [e];have:=pick_run xs i k;rw [List.filterMap_map]at this;have e2:((fun x=>xs[x]?)∘fun x=>i+x)=fun m=>xs[i+m]?:=rfl
 rw [e2]at this;rw [this]
theorem qdy{t sl:Addr}{items:Array Value}{vl vu:Value}{lo hi:Option Int}{Q:Value→Shared→Prop}(ht:IsTup s.heap t items)(hs:s.heap.IsSliceOf sl vl vu .none)(pl:IsPart vl lo)(pu:IsPart vu hi)
  (hw:¬ (sIx items.size 0 lo=0∧sIx items.size items.size hi=items.size))
  (h:Q (.ref s.heap.objs.size) {s with heap:=s.heap.push {cls:=.type "tuple",data:=.seq ((items.toList.drop (sIx items.size 0 lo)).take (sIx items.size items.size hi-sIx items.size 0 lo)).toArray}})
  (hsz:items.size≤sizeLine):wpAny (model prog w) A (getItem (.ref t) (.ref sl)) Q E s:=by
 have htake:sizeOk (.seq ((items.toList.drop (sIx items.size 0 lo)).take (sIx items.size items.size hi-sIx items.size 0 lo)).toArray):=by
  show ((items.toList.drop (sIx items.size 0 lo)).take (sIx items.size items.size hi-sIx items.size 0 lo)).toArray.size≤sizeLine;rw [List.size_toArray,List.length_take,List.length_drop,Array.length_toList];lia
 have hj:sIx items.size items.size hi≤items.size:=qpF _ _ (Nat.le_refl _) hi;obtain⟨os,hos,hcs,hds⟩:=id hs;have hTs:s.TypeIs (.ref sl) "slice":=⟨os,hos,hcs⟩
 unfold getItem
 try with_reducible refine wpAny_holding ?_
 first|refine wpAny_bind (wpAny_pure ?_)|skip
 refine wpAny_bind (wpAny_sequenceKey ht.typeIs (by decide) ?_);refine wpAny_bind (wpAny_callSpecial?_slot (name:=Str.ofString "__getitem__") ht.typeIs PyProof.Rows.slot_tuple_getitem
  (wpAny_call_entry PyProof.Rows.slot_tuple_getitem ht.typeIs entry_tuple_getitem ?_ (args_tuple_getitem _ _)))
 show wpAny _ _ (Builtin.Tuple.tupleItemsOf (.ref t)>>=_) _ _ s;refine wpAny_bind (tupleItemsOf_ ht ?_);refine wpAny_bind (wpAny_typeOf hTs ?_);rw [if_pos (by decide)];refine wpAny_bind (qbV hs pl pu ?_);have hno:¬ ((((sIx items.size 0 lo:Nat):Int)==0&&(1:Int)==1&&(sIx items.size items.size hi-sIx items.size 0 lo)==items.size)=true):=by
  intro q;rw [Bool.and_eq_true,Bool.and_eq_true]at q;have q1:((sIx items.size 0 lo:Nat):Int)=0:=eq_of_beq q.1.1;have q2:sIx items.size items.size hi-sIx items.size 0 lo=items.size:=eq_of_beq q.2;exact hw ⟨by lia,by lia⟩
 show wpAny _ _ (if (((sIx items.size 0 lo:Nat):Int)==0&&(1:Int)==1&&(sIx items.size items.size hi-sIx items.size 0 lo)==items.size)=true then _ else _) _ _ s;rw [if_neg hno,qlA]
 first
  |exact wpAny_bind (m:=Builtin.Tuple.tupleExact _) (wpAny_newObj_type (wpAny_pure ⟨_,rfl,wpAny_pure h⟩) htake)
  |exact wpAny_bind (m:=Builtin.Tuple.tupleExact _) (wpAny_newObj_type (wpAny_bind (wpAny_pure (wpAny_pure ⟨_,rfl,wpAny_pure h⟩))) htake)
  |exact wpAny_bind (wpAny_bind (m:=Builtin.Tuple.tupleExact _) (wpAny_newObj_type (wpAny_pure (wpAny_pure ⟨_,rfl,wpAny_pure h⟩)) htake))
  |exact wpAny_bind (wpAny_bind (m:=Builtin.Tuple.tupleExact _) (wpAny_newObj_type (wpAny_pure ⟨_,rfl,wpAny_pure h⟩) htake))
end
end HT
namespace L2
open PySem PySem.Spec PyProof.Rows
abbrev TO:=St→Hp→(Option Int→Hp→Prop)→Prop
noncomputable def PO(X:Cx)(e:Option Expr)(t:TO):Prop:=
 ∀(pins:List (Addr×Obj)) (s:Shared) (σ:St) (H:Hp) (Q:Option Int→Hp→Prop),Inv X pins σ H s→t σ H Q →
  wpAny (model X.prog X.w) X.A (evalPart e X.env) (fun u s'=>∃o H',Inv X pins σ H' s'∧IsPart u o∧Q o H') X.xe s
noncomputable def qnu:TO:=fun _ H Q=>Q none H
noncomputable def qrM(t:TE):TO:=fun σ H Q=>t σ H fun x H1=>∃i,x=.int i∧Q (some i) H1
theorem intsAre_of{ns:List Int}:∀{us:List Value},Vals (ns.map V.int) us→IntsAre us ns:=by
 induction ns with
 |nil=>intro us r;rw [List.map_nil]at r;cases r;exact .nil
 |cons n ns ih=>
  intro us r;rw [List.map_cons]at r;cases r with
  |cons r1 r2=>
   obtain⟨t,e⟩:=r1;subst e;exact .cons n t (ih r2)
section
variable{X:Cx}{e:Expr}{te:TE}{lo hi:Option Expr}{tl th:TO}{pos p2:Pos}
theorem qnn:PO X none qnu:=by
 intro pins s σ H Q I h;rw [evalPart_none];exact wpAny_pure ⟨none,H,I,.none,h⟩
theorem qnI(h:PE X e te):PO X (some e) (qrM te):=by
 intro pins s σ H Q I hw;rw [evalPart_some];refine thn (h pins s σ H _ I hw) fun u s1 ⟨x,H1,I1,r1,q1⟩=>?_
 obtain⟨i,rfl,q⟩:=q1;obtain⟨t,rfl⟩:=r1;exact⟨some i,H1,I1,.int i t,q⟩
noncomputable def SlR(X:Cx)(r:V→Option Int→Option Int→Hp→VK→Prop):Prop:=
 ∀(pins:List (Addr×Obj)) (s:Shared) (σ:St) (H:Hp) (x:V) (v vl vu:Value) (lo hi:Option Int) (sl:Addr) (Q:VK),Inv X pins σ H s→RelV x v→s.heap.IsSliceOf sl vl vu .none→IsPart vl lo→IsPart vu hi→r x lo hi H Q →
  ∃T id,typeLookup (.type T) "__getitem__" = pure (some (.builtin id))∧s.TypeIs v T∧wpAny (model X.prog X.w) X.A (getItem v (.ref sl)) (EP X pins σ Q) X.xe s
noncomputable def tSl(r:V→Option Int→Option Int→Hp→VK→Prop)(te:TE)(tl th:TO):TE:=fun σ H Q=>te σ H fun x H1=>tl σ H1 fun l H2=>th σ H2 fun u H3=>r x l u H3 Q
theorem qmr{r:V→Option Int→Option Int→Hp→VK→Prop}(hr:SlR X r)(he:PE X e te)(hl:PO X lo tl)(hu:PO X hi th):PE X (.Subscript e (.Slice lo hi none p2) pos) (tSl r te tl th):=by
 intro pins s σ H Q I h;refine Subscript_ (thn (he pins s σ H _ I h) fun v s1 ⟨x,H1,I1,r1,q1⟩=>?_);refine wpAny_Slice (thn (hl pins s1 σ H1 _ I1 q1) fun vl s2 ⟨l,H2,I2,pl,q2⟩=>thn (hu pins s2 σ H2 _ I2 q2) fun vu s3 ⟨u,H3,I3,pu,q3⟩=>?_);rw [evalPart_none];refine wpAny_pure ?_;have I4:Inv X pins σ H3 {s3 with heap:=s3.heap.push {cls:=.type "slice",data:=.fields #[vl,vu,.none]}}:=I3.kept (t':=s3.toks) fun b ob q=>Heap.get?_push_of_some _ q
 obtain⟨T,id,hT,ht,hg⟩:=hr pins {s3 with heap:=s3.heap.push {cls:=.type "slice",data:=.fields #[vl,vu,.none]}} σ H3 x v vl vu l u s3.heap.objs.size Q I4 r1 (Heap.IsSliceOf.new ..) pl pu q3;show wpAny (model X.prog X.w) X.A (subscriptTail e (.Slice lo hi none p2) v (.ref s3.heap.objs.size)) (EP X pins σ Q) X.xe {s3 with heap:=s3.heap.push {cls:=.type "slice",data:=.fields #[vl,vu,.none]}};exact tail_any (ops:=[.ref s3.heap.objs.size,v]) ht hT hg (by with_unfolding_all rfl)
noncomputable def qdo(xs:List V)(lo hi:Option Int):List V:=(xs.drop (HT.sIx xs.length 0 lo)).take (HT.sIx xs.length xs.length hi-HT.sIx xs.length 0 lo)
theorem qdE(xs:List V)(lo hi:Option Int):(qdo xs lo hi).length≤xs.length:=by
 unfold qdo;rw [List.length_take,List.length_drop];lia
noncomputable def qsM(K:PySem.W.Frag):V→Option Int→Option Int→Hp→VK→Prop:=fun x lo hi H Q=>∃a xs,x=.ref a∧SqT K H a xs ∧
 ¬ (HT.sIx xs.length 0 lo=0∧HT.sIx xs.length xs.length hi=xs.length)∧∀p,H p=none→Q (.ref p) (upd H p (.tup (qdo xs lo hi)))
theorem qoA:SlR X (qsM X.K):=by
 intro pins s σ H x v vl vu lo hi sl Q I rx hs pl pu h;obtain⟨a,xs,rfl,hx,hw,q⟩:=h;cases rx;obtain⟨its,r,ht,hz⟩:=I.tuple hx;have hlen:its.toArray.size=xs.length:=by rw [List.size_toArray];exact r.length.symm
 refine⟨"tuple",_,PyProof.Rows.slot_tuple_getitem.lookup,ht.typeIs,?_⟩;refine HT.qdy ht hs pl pu (by rw [hlen];exact hw) ?_ (by rw [hlen];exact hz);rw [hlen];refine⟨.ref s.heap.objs.size,_,I.laid (t':=s.toks) (o:=.tup (qdo xs lo hi)) (fun b ob q=>Heap.get?_push_of_some _ q) (Nat.le_refl _) ?_,rfl,q _ (I.hok.fresh (Nat.le_refl _))⟩;exact⟨Nat.le_trans (qdE xs lo hi) hz,_,(r.drop (HT.sIx xs.length 0 lo)).take (HT.sIx xs.length xs.length hi-HT.sIx xs.length 0 lo),IsTup.new _ _⟩
noncomputable def qst(K:PySem.W.Frag):R2:=fun x y H Q=>∃a b ns ms,x=.ref a∧y=.ref b∧SqT K H a (ns.map V.int)∧SqT K H b (ms.map V.int)∧Q (.bl (HT.lexLt ns ms)) H
theorem qqk(hu:X.A.units<cLine):OpR X (compareOp .Lt) (qst X.K):=by
 intro pins s σ H x y v u Q I rx ry h;obtain⟨a,b,ns,ms,rfl,rfl,ha,hb,q⟩:=h;cases rx;cases ry;obtain⟨its,r1,p1,_⟩:=I.tuple ha;obtain⟨its2,r2,p2,_⟩:=I.tuple hb;have i1:IntsAre its.toArray.toList ns:=intsAre_of r1;have i2:IntsAre its2.toArray.toList ms:=intsAre_of r2;exact HT.qiY p1 p2 i1 i2 hu ⟨.bl (HT.lexLt ns ms),H,I,rfl,q⟩
noncomputable def qrP(K:PySem.W.Frag):R2:=fun x y H Q=>∃a b xs ys,x=.ref a∧y=.ref b∧SqT K H a xs∧SqT K H b ys∧xs≠[]∧xs.length+ys.length≤sizeLine ∧
 (ys=[]→Q (.ref a) H)∧(ys≠[]→∀p,H p=none→Q (.ref p) (upd H p (.tup (xs++ys))))
theorem Vals.nil_iff{xs:List V}{us:List Value}(r:Vals xs us):us=[]↔xs=[]:=by
 cases r with
 |nil=>simp
 |cons _ _=>simp
theorem qop:OpR X (binaryOp .Add) (qrP X.K):=by
 intro pins s σ H x y v u Q I rx ry h;obtain⟨a,b,xs,ys,rfl,rfl,ha,hb,hx,hz,q1,q2⟩:=h;cases rx;cases ry;obtain⟨its,r1,p1,_⟩:=I.tuple ha;obtain⟨its2,r2,p2,_⟩:=I.tuple hb;refine HT.qnO p1 p2 (fun z=>hx (r1.nil_iff.mp z)) (fun z=>⟨.ref a,H,I,rfl,q1 (r2.nil_iff.mp z)⟩) (fun z=>?_) (by rw [←r1.length,←r2.length];exact hz);refine⟨.ref s.heap.objs.size,_,I.laid (t':=s.toks) (o:=.tup (xs++ys)) (fun b ob q=>Heap.get?_push_of_some _ q) (Nat.le_refl _) ?_,rfl,q2 (fun w=>z (r2.nil_iff.mpr w)) _ (I.hok.fresh (Nat.le_refl _))⟩;exact⟨by rw [List.length_append];exact hz,_,r1.append r2,IsTup.new _ _⟩
end
noncomputable def ixN(n:Nat)(i:Int):Option Nat:=if 0≤i then (if i<n then some i.toNat else none)else if -(n:Int)≤i then some (i+n).toNat else none
noncomputable def atI{α:Type}(xs:List α)(i:Int):Option α:=(ixN xs.length i).bind fun j=>xs[j]?
theorem qiy{n:Nat}{i:Int}{j:Nat}(h:ixN n i=some j):seqIndex? i n=some j∧j<n∧-(n:Int)≤i∧i<n:=by
 unfold ixN at h;by_cases h0:0≤i
 ·rw [if_pos h0]at h;by_cases h1:i<n
  ·rw [if_pos h1]at h;have e:i.toNat=j:=Option.some.inj h;exact⟨by rw [seqIndex_of h0 h1,e],by lia,by lia,h1⟩
  ·rw [if_neg h1]at h;cases h
 ·rw [if_neg h0]at h;by_cases h1:-(n:Int)≤i
  ·rw [if_pos h1]at h;have e:(i+n).toNat=j:=Option.some.inj h;exact⟨by rw [seqIndex_neg (by lia) h1,e],by lia,h1,by lia⟩
  ·rw [if_neg h1]at h;cases h
theorem qiB{α:Type}{xs:List α}{i:Int}{v:α}(h:atI xs i=some v):∃j,seqIndex? i xs.length=some j∧xs[j]? = some v∧j<xs.length∧-(xs.length:Int)≤i∧i<xs.length:=by
 unfold atI at h;cases e:ixN xs.length i with
 |none=>rw [e]at h;cases h
 |some j=>
  rw [e]at h;obtain⟨h1,h2,h3,h4⟩:=qiy e;exact⟨j,h1,h,h2,h3,h4⟩
noncomputable def qiC(b:Expr):Prop:=∀o i,subscripted b false o i=operate [o,i] (getItem o i)
noncomputable def IxR(X:Cx)(r:R2):Prop:=
 ∀(value slice:Expr) (pins:List (Addr×Obj)) (s:Shared) (σ:St) (H:Hp) (x y:V) (v u:Value) (Q:VK),Inv X pins σ H s→RelV x v→RelV y u→r x y H Q →
  subscripted slice false v u=operate [v,u] (getItem v u)→wpAny (model X.prog X.w) X.A (subscriptTail value slice v u) (EP X pins σ Q) X.xe s
noncomputable def MtR(X:Cx)(id:String)(r:V→List V→Hp→VK→Prop):Prop:=
 ∀(pins:List (Addr×Obj)) (s:Shared) (σ:St) (H:Hp) (x:V) (xs:List V) (v:Value) (us:List Value) (Q:VK),Inv X pins σ H s→RelV x v→Vals xs us→r x xs H Q →
  wpAny (model X.prog X.w) X.A (call (.builtin id) (v::us)) (EP X pins σ Q) X.xe s
section
variable{X:Cx}{a b:Expr}{ta tb:TE}{pos:Pos}
theorem IxR.or{r r':R2}(h:IxR X r)(h':IxR X r'):IxR X (fun x y H Q=>r x y H Q∨r' x y H Q):=by
 intro value slice pins s σ H x y v u Q I rx ry q hs;rcases q with q|q
 ·exact h value slice pins s σ H x y v u Q I rx ry q hs
 ·exact h' value slice pins s σ H x y v u Q I rx ry q hs
theorem qrl{r:R2}(hr:IxR X r)(ha:PE X a ta)(hb:PE X b tb)(hs:qiC b):PE X (.Subscript a b pos) (tOp r ta tb):=by
 intro pins s σ H Q I h;exact Subscript_ (qmA ha hb I h fun v u s2 x y H2 I2 rx ry q=>hr a b pins s2 σ H2 x y v u Q I2 rx ry q (hs _ _))
noncomputable def qqj(K:PySem.W.Frag):R2:=fun x y H Q=>∃p xs i v,x=.ref p∧y=.int i∧SqL K H p xs∧atI xs i=some v∧Q v H
noncomputable def qoY(K:PySem.W.Frag):R2:=fun x y H Q=>∃p xs i v,x=.ref p∧y=.int i∧SqT K H p xs∧atI xs i=some v∧Q v H
theorem qtp:IxR X (qqj X.K):=by
 intro value slice pins s σ H x y v u Q I rx ry h hs;obtain⟨p,xs,i,z,rfl,rfl,hq,he,q⟩:=h;cases rx;obtain⟨t,rfl⟩:=ry;obtain⟨its,r,pl,hz⟩:=I.list hq;obtain⟨j,h1,h2,h3,h4,h5⟩:=qiB he;obtain⟨w,ew,rw'⟩:=r.get h2;have hl:=r.length;have hn:=qcI;have fin:EP X pins σ Q w s:=⟨z,H,I,rw',q⟩
 by_cases h0:0≤i
 ·have hj:i.toNat=j:=by
   rw [seqIndex_of h0 h5]at h1;exact Option.some.inj h1
  exact item_listR pl.isList h0 (by lia) (by rw [hj];simpa using ew) fin hs
 ·have hj:(i+(its.toArray.size:Int)).toNat=j:=by
   rw [seqIndex_neg (by lia) h4]at h1;rw [List.size_toArray,←hl];exact Option.some.inj h1
  exact subscriptTail_builtinR (x:=w) pl.isList.typeIs slot_list_getitem.lookup
   (wpAny_getItem_list_neg (Q:=fun r s'=>r=w∧EP X pins σ Q r s') pl.isList (by lia) (by rw [List.size_toArray]<;>lia) (by lia) (by rw [hj];simpa using ew) ⟨rfl,fin⟩) hs
theorem qpl:IxR X (qoY X.K):=by
 intro value slice pins s σ H x y v u Q I rx ry h hs;obtain⟨p,xs,i,z,rfl,rfl,hq,he,q⟩:=h;cases rx;obtain⟨t,rfl⟩:=ry;obtain⟨its,r,pl,hz⟩:=I.tuple hq;obtain⟨j,h1,h2,h3,h4,h5⟩:=qiB he;obtain⟨w,ew,rw'⟩:=r.get h2;have hl:=r.length;have hn:=qcI;have fin:EP X pins σ Q w s:=⟨z,H,I,rw',q⟩
 exact subscriptTail_builtinR (x:=w) pl.typeIs slot_tuple_getitem.lookup
  (getItem_tuple (j:=j) (Q:=fun r s'=>r=w∧EP X pins σ Q r s') pl (by lia) (by lia) (by rw [List.size_toArray,←hl];exact h1) (by simpa using ew) ⟨rfl,fin⟩) hs
theorem qiP(its:List Value)(n j:Nat)(u:Value):Obj.mapSeq (·.setIfInBounds j u) {cls:=.type "list",data:=.seq its.toArray n}={cls:=.type "list",data:=.seq (its.set j u).toArray n}:=by
 simp [Obj.mapSeq]
theorem Inv.lst{pins:List (Addr×Obj)}{σ:St}{H:Hp}{s:Shared}{p:Addr}{xs:List V}(I:Inv X pins σ H s)(h:H p=some (.lst xs)) :
  ∃(its:List Value) (n:Nat),Vals xs its∧s.heap.get? p=some {cls:=.type "list",data:=.seq its.toArray n}∧xs.length≤sizeLine:=by
 obtain⟨z,its,n,r,e⟩:=I.hok p _ h;exact⟨its,n,r,e,z⟩
theorem Inv.lstUpd{pins:List (Addr×Obj)}{σ:St}{H:Hp}{s:Shared}{p:Addr}{xs ys:List V}{its its':List Value}{n n':Nat}{f:Obj→Obj}(I:Inv X pins σ H s)(h:H p=some (.lst xs))
  (ho:s.heap.get? p=some {cls:=.type "list",data:=.seq its.toArray n}) (hf:f {cls:=.type "list",data:=.seq its.toArray n}={cls:=.type "list",data:=.seq its'.toArray n'}) (r:Vals ys its') (hz:ys.length≤sizeLine) (t:Nat) :
  Inv X pins σ (upd H p (.lst ys)) {s with heap:=s.heap.update p f,toks:=t}:=by
 have e:(s.heap.update p f).get? p=some {cls:=.type "list",data:=.seq its'.toArray n'}:=by
  rw [Heap.get?_update_self f ho (by rw [hf]<;>rfl),hf]
 refine I.write (x:=p) (e:=p) (by rw [h];trivial) (.inl rfl) (fun b u hb q=>(Heap.get?_update_other _ _ (Ne.symm hb)).trans q) ⟨_,e⟩ ?_;exact⟨hz,its',n',r,e⟩
noncomputable def qmE:V→V→V→Hp→(Hp→Prop)→Prop:=fun o i v H Q=>∃p xs k j,o=.ref p∧i=.int k∧H p=some (.lst xs)∧ixN xs.length k=some j∧Q (upd H p (.lst (xs.set j v)))
theorem set_list:qqW X qmE:=by
 intro pins s σ H o i v ov iv u Q I ro ri rv h;obtain⟨p,xs,k,j,rfl,rfl,hp,hj,q⟩:=h;cases ro;obtain⟨t,rfl⟩:=ri;obtain⟨its,n,r,ho,hz⟩:=I.lst hp;obtain⟨h1,h2,h3,h4⟩:=qiy hj;have hl:=r.length;have hn:=qcI;have I':Inv X pins σ (upd H p (.lst (xs.set j v))) {s with heap:=s.heap.update p (Obj.mapSeq (·.setIfInBounds j u))}:=
  I.lstUpd hp ho (qiP its n j u) (r.set rv j) (by rw [List.length_set];exact hz) s.toks
 by_cases h0:0≤k
 ·have hk:k.toNat=j:=by
   rw [seqIndex_of h0 h4]at h1;exact Option.some.inj h1
  exact PySem.W.ki_setAt ho h0 (by lia) (by rw [List.size_toArray,←hl];exact h4) (by rw [hk];exact⟨_,I',q⟩)
 ·have hk:(k+(its.toArray.size:Int)).toNat=j:=by
   rw [seqIndex_neg (by lia) h3]at h1;rw [List.size_toArray,←hl];exact Option.some.inj h1
  exact PySem.W.ki_setBack ho (by lia) (by rw [List.size_toArray,←hl];exact h3) (by lia) (by rw [hk];exact⟨_,I',q⟩)
theorem qhn(lo hi:Option Int)(n:Nat):(sliceBounds lo hi none n).1=((HT.sIx n 0 lo:Nat):Int)∧(sliceBounds lo hi none n).2.1=((HT.sIx n n hi:Nat):Int)∧(sliceBounds lo hi none n).2.2=1:=by
 refine⟨?_,?_,rfl⟩
 ·cases lo with
  |none=>simp [sliceBounds,HT.sIx]
  |some i=>
   simp only [sliceBounds,HT.sIx,Option.getD_none,show (1:Int)>0 by decide,if_true];by_cases h:i<0
   ·simp only [h,if_true]<;>lia
   ·simp only [h,if_false]<;>lia
 ·cases hi with
  |none=>simp [sliceBounds,HT.sIx]
  |some i=>
   simp only [sliceBounds,HT.sIx,Option.getD_none,show (1:Int)>0 by decide,if_true];by_cases h:i<0
   ·simp only [h,if_true]<;>lia
   ·simp only [h,if_false]<;>lia
theorem qgc(its:List Value)(lo hi:Option Int):slicePick its.toArray lo hi none=((its.drop (HT.sIx its.length 0 lo)).take (HT.sIx its.length its.length hi-HT.sIx its.length 0 lo)).toArray:=by
 obtain⟨h1,h2,h3⟩:=qhn lo hi its.toArray.size;unfold slicePick;rw [h1,h2,h3];simp only [sliceRange_one,pick_run,List.size_toArray]<;>rfl
noncomputable def qsq(K:PySem.W.Frag):V→Option Int→Option Int→Hp→VK→Prop:=fun x lo hi H Q=>∃a xs,x=.ref a∧SqL K H a xs∧∀p,H p=none→Q (.ref p) (upd H p (.lst (qdo xs lo hi)))
theorem qoj:SlR X (qsq X.K):=by
 intro pins s σ H x v vl vu lo hi sl Q I rx hs pl pu h;obtain⟨a,xs,rfl,hx,q⟩:=h;cases rx;obtain⟨its,r,ht,hz⟩:=I.list hx;have hlen:=r.length;refine⟨"list",_,slot_list_getitem.lookup,ht.isList.typeIs,?_⟩;refine wpAny_getItem_list_slice ht.isList hs pl pu .none (by simp) ?_ (by rw [List.size_toArray]<;>lia);rw [qgc,←hlen];refine⟨.ref s.heap.objs.size,_,I.laid (t':=s.toks) (o:=.lst (qdo xs lo hi)) (fun b ob q=>Heap.get?_push_of_some _ q) (Nat.le_refl _) ?_,rfl,q _ (I.hok.fresh (Nat.le_refl _))⟩;exact⟨Nat.le_trans (qdE xs lo hi) hz,_,0,(r.drop (HT.sIx xs.length 0 lo)).take (HT.sIx xs.length xs.length hi-HT.sIx xs.length 0 lo),Heap.get?_push_size _ rfl⟩
theorem qhd:qT X (.builtin "len") (fun xs H Q=>∃p ys,xs=[.ref p]∧(SqL X.K H p ys∨SqT X.K H p ys)∧Q (.int ys.length) H):=by
 intro pins s σ H xs us Q I r h;obtain⟨p,ys,rfl,hq,q⟩:=h;obtain⟨u,rfl,rx⟩:=vals1 r;cases rx;have hn:=qcI;rcases hq with hq|hq
 ·obtain⟨its,r',pl,hz⟩:=I.list hq;have hlen:=r'.length;exact Calls.call_len_list pl.isList (by simp only [List.size_toArray]<;>lia) ⟨.int ys.length,H,I.tok _,⟨s.toks+1,by rw [List.size_toArray,hlen]⟩,q⟩
 ·obtain⟨its,r',pl,hz⟩:=I.tuple hq;have hlen:=r'.length;exact len_tuple pl (by simp only [List.size_toArray]<;>lia) ⟨.int ys.length,H,I.tok _,⟨s.toks+1,by rw [List.size_toArray,hlen]⟩,q⟩
theorem qT.or{f:Value}{r r':List V→Hp→VK→Prop}(h:qT X f r)(h':qT X f r'):qT X f (fun xs H Q=>r xs H Q∨r' xs H Q):=by
 intro pins s σ H xs us Q I rs q;rcases q with q|q
 ·exact h pins s σ H xs us Q I rs q
 ·exact h' pins s σ H xs us Q I rs q
theorem qgI:qT X (.type "list") (fun xs H Q=>∃p ys,xs=[.ref p]∧(SqL X.K H p ys∨SqT X.K H p ys)∧∀l,H l=none→Q (.ref l) (upd H l (.lst ys))):=by
 intro pins s σ H xs us Q I r h;obtain⟨p,ys,rfl,hq,q⟩:=h;obtain⟨u,rfl,rx⟩:=vals1 r;cases rx;have fin:∀(its:List Value),Vals ys its→ys.length≤sizeLine→∀(h':Heap) (c':Nat),(∀b o',s.heap.get? b=some o'→h'.get? b=some o') →
   h'.get? s.heap.objs.size=some {cls:=.type "list",dict:=none,data:=.seq its.toArray c',slots:=#[]}→EP X pins σ Q (.ref s.heap.objs.size) {s with heap:=h'}:=fun its r' hz h' c' kp e=>
  ⟨.ref s.heap.objs.size,_,I.laid (t':=s.toks) kp (Nat.le_refl _) (show zH X.prog X.w _ h' _ (.lst ys)from ⟨hz,its,c',r',e⟩),rfl,q _ (I.hok.fresh (Nat.le_refl _))⟩
 rcases hq with hq|hq
 ·obtain⟨its,r',pl,hz⟩:=I.list hq;have hlen:=r'.length;obtain⟨o,ho,hc,n,hd⟩:=pl.isList;exact call_list_seq p (.inl rfl) ho hc hd (fun h' c' kp e=>fin its r' hz h' c' kp e) (by simp only [List.size_toArray]<;>lia)
 ·obtain⟨its,r',pl,hz⟩:=I.tuple hq;have hlen:=r'.length;obtain⟨o,ho,hc,n,hd⟩:=pl;exact call_list_seq p (.inr rfl) ho hc hd (fun h' c' kp e=>fin its r' hz h' c' kp e) (by simp only [List.size_toArray]<;>lia)
theorem qgd:qT X (.type "tuple") (fun xs H Q=>∃p ys,xs=[.ref p]∧((SqL X.K H p ys∧∀l,H l=none→Q (.ref l) (upd H l (.tup ys)))∨(SqT X.K H p ys∧Q (.ref p) H))):=by
 intro pins s σ H xs us Q I r h;obtain⟨p,ys,rfl,h⟩:=h;obtain⟨u,rfl,rx⟩:=vals1 r;cases rx;rcases h with ⟨hq,q⟩|⟨hq,q⟩
 ·obtain⟨its,r',pl,hz⟩:=I.list hq;have hlen:=r'.length;refine call_tuple_list pl.isList (fun h' kp=>?_) (by simp only [List.size_toArray]<;>lia);have I1:Inv X pins σ H {s with heap:=h'}:=I.kept (t':=s.toks) kp;have I2:Inv X pins σ (upd H h'.objs.size (.tup ys)) {s with heap:=h'.push {cls:=.type "tuple",data:=.seq its.toArray}}:=
   I1.laid (t':=s.toks) (fun b o e=>Heap.get?_push_of_some _ e) (Nat.le_refl _) (show zH X.prog X.w _ _ _ (.tup ys)from ⟨hz,its,r',IsTup.new _ _⟩)
  exact⟨.ref h'.objs.size,_,I2,rfl,q _ (I1.hok.fresh (Nat.le_refl _))⟩
 ·obtain⟨its,r',pl,hz⟩:=I.tuple hq;exact call_tuple_same pl ⟨.ref p,H,I,rfl,q⟩
noncomputable def tyV(K:PySem.W.Frag)(T:String)(x:V)(H:Hp):Prop:=match x with
 | .str _=>T = "str"
 | .int _=>T = "int"
 | .ref p=>(T = "list"∧∃xs,SqL K H p xs)∨(T = "tuple"∧∃o,K.lookup p=some o∧o.cls=.type "tuple"∧o.dict=none) ∨
   (T = "dict"∧((∃kvs,H p=some (.dK kvs))∨∃kvs,H p=some (.dT kvs)))∨(T = "set"∧∃S n,H p=some (.set S n))
 |_=>False
theorem qpZ{pins:List (Addr×Obj)}{σ:St}{H:Hp}{s:Shared}{T:String}{x:V}{v:Value}(I:Inv X pins σ H s)(r:RelV x v)(ty:tyV X.K T x H) :
  s.TypeIs v T∧∀a,v=.ref a→∃ob,s.heap.get? a=some ob∧ob.dict=none:=by
 cases x with
 |str z=>
  obtain⟨t,rfl⟩:=r;cases (show T = "str" from ty);exact⟨typeIs_str s z t,fun _ e=>nomatch e⟩
 |int i=>
  obtain⟨t,rfl⟩:=r;cases (show T = "int" from ty);exact⟨typeIs_int s i t,fun _ e=>nomatch e⟩
 |ref p=>
  cases r;rcases ty with ⟨rfl,xs,hq⟩|⟨rfl,o,hk,hc,hd⟩|⟨rfl,hk⟩|⟨rfl,S,n,hk⟩
  ·obtain⟨its,_,pl,_⟩:=I.list hq;refine⟨pl.isList.typeIs,fun a e=>?_⟩;cases e;obtain⟨o,n,e,c,hd,_⟩:=pl;exact⟨o,e,hd⟩
  ·refine⟨⟨o,I.kIn p o hk,hc⟩,fun a e=>?_⟩;cases e;exact⟨o,I.kIn _ o hk,hd⟩
  ·have z:∃o,s.heap.get? p=some o∧o.ExactDict:=by
    rcases hk with ⟨kvs,hk⟩|⟨kvs,hk⟩
    ·obtain⟨_,_,_,_,o,_,_,e,ex,_⟩:=I.hok p _ hk;exact⟨o,e,ex⟩
    ·obtain⟨_,_,_,_,o,_,_,e,ex,_⟩:=I.hok p _ hk;exact⟨o,e,ex⟩
   obtain⟨o,e,ex⟩:=z;refine⟨⟨o,e,ex.1⟩,fun a e2=>?_⟩;cases e2;exact⟨o,e,ex.2.1⟩
  ·obtain⟨o,_,_,_,e,ex,_⟩:=I.hok p _ hk;refine⟨⟨o,e,ex.1⟩,fun a e2=>?_⟩;cases e2;exact⟨o,e,ex.2.1⟩
 |_=>exact False.elim ty
noncomputable def tBM(K:PySem.W.Frag)(T:String)(r:V→List V→Hp→VK→Prop)(to:TE)(t:TA):TE:=fun σ H Q=>to σ H fun x H1=>tyV K T x H1∧t σ H1 fun xs H2=>r x xs H2 Q
variable{o e:Expr}{es:List Expr}{to:TE}{t:TA}{name:Str}{apos cpos:Pos}{T id:String}{r:V→List V→Hp→VK→Prop}
theorem qmK(pa:PlainAttrs T)(slot:Slot T name id)(hty:typeOf (.builtin id)=pure (.type "method_descriptor"))(hm:MtR X id r)(ho:PE X o to)(ha:PA X (e::es) t)
  (hbase:attributeBase o name X.env (eval o X.env)=eval o X.env:=by rfl)
  (hfew:((backTo cpos (starEach (e::es) X.env)).all (fun x=>!x.1)&&(backToKw cpos (keywordEach [] X.env)).all (fun x=>x.1.isSome)
   && decide ((e::es).length+([]:List Keyword).length+(if ([]:List Keyword).isEmpty then 0 else 1)<30))=true:=by rfl)
  (hline:(apos.endLine==cpos.line)=true:=by rfl) (hs:starEach (e::es) X.env=(false,eval e X.env)::starEach es X.env:=by rfl) (hplain:(backTo cpos (starEach es X.env)).any (·.1)=false:=by rfl) :
  PE X (.Call (.Attribute o name apos) (e::es) [] cpos) (tBM X.K T r to t):=by
 intro pins s σ H Q I h;refine wpAny_Call_method_late hbase hfew hline rfl (thn (ho pins s σ H _ I h) fun v s1 ⟨x,H1,I1,r1,ty,q1⟩=>?_);obtain⟨h1,h2⟩:=qpZ I1 r1 ty;refine⟨T,id,pa,slot,hty,h1,h2,?_⟩;have hA:=ha cpos pins s1 σ H1 _ I1 q1;rw [hs]at hA ⊢;refine Calls.callWith_builtin (by show (false||(backTo cpos (starEach es X.env)).any (·.1))=false;rw [hplain]<;>rfl) (Calls.evalArgs_plain ?_);exact thn hA fun us s2 ⟨vs,H2,I2,r2,q2⟩=>hm pins s2 σ H2 x vs v us Q I2 r1 r2 q2
/- xs.append(e), list.index on a module's tuple .. are MtR facts of 06m -/
end
noncomputable def MtM(X:Cx)(id:String)(r:V→List V→Hp→VK→Prop):Prop:=
 ∀(pins:List (Addr×Obj)) (s:Shared) (σ:St) (H:Hp) (x:V) (xs:List V) (v:Value) (us:List Value) (Q:VK),Inv X pins σ H s→RelV x v→Vals xs us→r x xs H Q →
  wpAny (model X.prog X.w) X.A (call (.builtin id) (v::us)) (EP X pins σ Q) X.xe s
theorem Vals.one{x:V}{us:List Value}(h:Vals [x] us):∃u,us=[u]∧RelV x u:=by
 cases h with
 |cons r h=>cases h;exact⟨_,rfl,r⟩
theorem Vals.two{x y:V}{us:List Value}(h:Vals [x,y] us):∃u v,us=[u,v]∧RelV x u∧RelV y v:=by
 cases h with
 |cons r h=>cases h with
  |cons q h=>cases h;exact⟨_,_,rfl,r,q⟩
theorem Vals.zero:∀{us:List Value},Vals [] us→us=[]
 |_,.nil=>rfl
section
variable{X:Cx}{pins:List (Addr×Obj)}{σ:St}{H:Hp}{s:Shared}{l b:Addr}{xs ys zs:List V}
theorem Inv.lset{its its':List Value}{n:Nat}{f:Array Value→Array Value}{t':Nat}(I:Inv X pins σ H s)(hH:H l=some (.lst xs))
  (e:s.heap.get? l=some {cls:=.type "list",data:=.seq its.toArray n}) (hf:f its.toArray=its'.toArray) (hv:Vals ys its') (hz:ys.length≤sizeLine) :
  Inv X pins σ (upd H l (.lst ys)) {s with heap:=s.heap.update l (Obj.mapSeq f),toks:=t'}:=by
 have q:=PySem.IsL.update e f;rw [hf]at q;refine I.write (x:=l) (e:=l) (by rw [hH];exact trivial) (.inl rfl) (fun b' u hb hu=>(Heap.get?_update_other s.heap (Obj.mapSeq f) (Ne.symm hb)).trans hu) ⟨_,q⟩ ?_;exact⟨hz,its',_,hv,q⟩
theorem Inv.lnew{its:List Value}{t':Nat}(I:Inv X pins σ H s)(hv:Vals ys its)(hz:ys.length≤sizeLine) :
  Inv X pins σ (upd H s.heap.objs.size (.lst ys)) {s with heap:=s.heap.push {cls:=.type "list",data:=.seq its.toArray},toks:=t'}:=
 I.laid (fun _ _ q=>Heap.get?_push_of_some _ q) (Nat.le_refl _) ⟨hz,its,0,hv,Heap.get?_push_size _ rfl⟩
theorem Inv.fresh(I:Inv X pins σ H s):H s.heap.objs.size=none:=I.hok.fresh (Nat.le_refl _)
theorem Inv.lstM(I:Inv X pins σ H s)(hH:H l=some (.lst xs)):xs.length≤sizeLine∧∃(its:List Value) (n:Nat),Vals xs its∧xs.length=its.length∧s.heap.get? l=some {cls:=.type "list",data:=.seq its.toArray n}:=by
 obtain⟨z,its,n,r,e⟩:=I.hok l _ hH;exact⟨z,its,n,r,r.length,e⟩
end
section
variable{X:Cx}
noncomputable def qnq:V→List V→Hp→VK→Prop:=fun x vs H Q=>∃l xs y,x=.ref l∧vs=[y]∧H l=some (.lst xs)∧xs.length<sizeLine∧Q .non (upd H l (.lst (xs++[y])))
theorem qfm:MtM X "list.append" qnq:=by
 intro pins s σ H x vs v us Q I rx rv h;obtain⟨l,xs,y,rfl,rfl,hH,hz,q⟩:=h;cases rx;obtain⟨u,rfl,ru⟩:=rv.one;obtain⟨z,its,n,r,hl,e⟩:=I.lstM hH;refine call_meets F.slot_list_append ⟨_,e,rfl⟩ F.entry_list_append (F.args_list_append_2 _ _) (PySem.list_append l its.toArray n u (by rw [List.size_toArray];lia)) ⟨e,?_⟩;refine⟨.non,_,I.lset (its':=its++[u]) hH e (by simp) (r.append (.cons ru .nil)) ?_,rfl,q⟩;rw [List.length_append,List.length_singleton];lia
end
section
variable{prog:Program}{w:World}{A:Around}{E:Value→Shared→Prop}{s:Shared}
set_option maxRecDepth 100000 in
end
section
variable{X:Cx}
end
end L2
namespace Att
open PySem PySem.W PySem.Calls PyProof.Rows
theorem qek{P:Params}{h:Heap}:∀(ns:List Int) (vs:List Value),WellAll P h vs (ns.map WData.int)→IntsAre vs ns:=by
 intro ns
 induction ns with
 |nil=>
  intro vs w;rw [List.map_nil]at w;cases w;exact .nil
 |cons n ns ih=>
  intro vs w;rw [List.map_cons]at w;cases w with
  |cons a b=>
   cases a;exact .cons _ _ (ih _ b)
theorem qlh{l:OpenLaw}{n:Nat}(hn:l.most=some n){P:Params}{h:Heap}{args:List WData}{vals:List Value}
  (hpre:l.row.toRowW.claim.pre args=true) (hwl:WellAll P h vals args) :
  ∃a vs ns,vals=[Value.ref a]∧args=[WData.list (ns.map WData.int)]∧h.get? a=some {cls:=.type "list",data:=.seq vs.toArray}∧IntsAre vs ns∧ns.length≤n:=by
 have hsh:WShape.hasAll [] args [.list .int]=true:=(pre_splitW hpre).1;have hc:l.pre.holds [] {args:=args}=true:=(pre_splitW hpre).2;obtain⟨d,r,rfl,h1,h2⟩:=hasAllW_cons hsh;obtain rfl:=hasAllW_nil h2;obtain⟨xs,rfl,h3⟩:=hasW_list h1;obtain⟨ns,rfl⟩:=items_int h3;have hlen:ns.length≤n:=by
  unfold OpenLaw.pre at hc;have h4:(WTm.not (.lt (.lit (.int (n:Int))) (.len (.arg 0)))).holds [] {args:=[.list (ns.map .int)]}=true:=by
   have h4:=(holds_andW hc).1;rw [hn]at h4;exact h4
  have h5:=condW_of h4 (w_not (w_lt w_lit (w_len_list (w_arg rfl))));rw [List.length_map]at h5;refine Nat.le_of_not_lt fun q=>?_
  have q':(n:Int)<((ns.length:Nat):Int):=by lia
  first
   | (rw [decide_eq_true q']at h5;exact absurd h5 (by decide))
   | (simp at h5;lia)
 cases hwl with
 |cons w1 w2=>
  cases w2;cases w1 with
  |list ho hall=>exact⟨_,_,ns,rfl,rfl,ho,qek ns _ hall,hlen⟩
theorem qkm(l:OpenLaw)(args:List WData):l.row.toRowW.claim.post args (.bool true) args=true:=
 postW_of (r:=l.row.toRowW) (X:=(true==true))
  (show WShape.has [] (.bool true) .bool=true by first|rfl|decide|simp [WShape.has,WShape.arms,WShape.armsAll])
  (show (WTm.eq .res (.lit (.bool true))).value [] {args:=args,res:=some (.bool true),after:=args}=some (.bool (true==true))from w_eq_bool (w_res rfl) w_lit) rfl
theorem qhN{l:OpenLaw}{n:Nat}{q:Program}{loose:List Str}{XP:(Str→Option Value)→Heap→Prop}{YP:World→Heap→Prop}{d:DefRec}
  (hn:l.most=some n) (hdf:d.params.defaults=[])
  (call:∀(w:World) (s₀ s₁:Shared) (mg mb:Str→Option Value) (fa:Addr) (o:Obj) (pm cd doc:Value) (a:Addr) (vs:List Value) (ns:List Int),
   Ground q loose [] XP w s₀ mg mb s₁.heap→YP w s₁.heap →
   s₁.heap.get? fa=some o→o.data=.func (docDef d.name d.params d.body d.scope pm cd doc)→s₁.heap.CodeRec cd d.name→mg d.name=some (.ref fa) →
   s₁.heap.get? a=some {cls:=.type "list",data:=.seq vs.toArray}→IntsAre vs ns→ns.length≤n→s₁.gens = #[] →
   codeAny (model l.prog w) callerA (.call (.ref fa) ⟨[.ref a],[]⟩) (fun r s'=>r=.ok (.ret (.bool true))∧OldK s₁.heap s'.heap∧s'.os=s₁.os∧AllBare s'.gens) s₁) :
  WalkO q loose XP YP l.row.toRowW d [] (fun f vs=>PySem.call f vs):=by
 intro w s₀ s₁ mg mb G Y fa o pm cd doc dV kV ho hd hcd hD hmg hg args vals as hpre hlay hrd hwl hlo;obtain rfl:dV=.none:=Dflts.none hD hdf;obtain rfl:kV=.none:=Dflts.noKw hD;obtain⟨a,vs,ns,rfl,rfl,hobj,hints,hlen⟩:=qlh hn hpre hwl;refine enter_call (codeAny_mono (call w s₀ s₁ mg mb fa o pm cd doc a vs ns G Y ho (fd_plain hd) hcd hmg hobj hints hlen hg) fun r s' hq=>?_);obtain⟨rfl,h2,h3,h4⟩:=hq;exact⟨.inl ⟨.bool true,.bool true,[],rfl,fun _=>rfl,.bool true,qkm l _,fun _=>⟨List.Pairwise.nil,fun _ hm=>(nomatch hm)⟩⟩,h2,h3,h4⟩
section
variable{prog:Program}{w:World}{A:Around}{E:Value→Shared→Prop}{s:Shared}{K:Frag}
end
end Att
namespace L2
open PySem PySem.Spec PyProof.Rows
theorem qfn:∀{vs:List Value}{ns:List Int},IntsAre vs ns→Vals (ns.map V.int) vs
 |_,_,.nil=>.nil
 |_,_,.cons n t h=>.cons ⟨t,rfl⟩ (qfn h)
noncomputable def qmm(H:Hp):Prop:=∀b,H b=none∨∃o xs,H b=some (.frz o (.lst xs))
theorem qmp{P:Program}{w:World}{K:PySem.W.Frag}{mg mb:Str→Option Value}{CX:CXT}{k:Nat}{fa a:Addr}{fd:FuncData}{x:Str}{sp:Sp}{s₁:Shared}{vs:List Value}{ns:List Int}
  (KX:K.In s₁.heap) (hns:s₁.heap.Ns mainGlobals mg) (hb:s₁.heap.Ns builtinsNs mb) (hbb:∀x:Str,x≠"__name__"→mb x=bootBuiltins x) (hlim:s₁.heap.NoLimit) (hg:s₁.gens = #[])
  (ha:s₁.heap.get? a=some {cls:=.type "list",data:=.seq vs.toArray}) (hi:IntsAre vs ns) (hl:ns.length≤sizeLine) (hr:qaY k callerA)
  (F:∀base:Heap,K.In base→base.Ns mainGlobals mg→qdf P w K mg base CX k fa fd [x] sp) (hbind:∀(s:Shared) (u:Value),BindsTo s fd ⟨[u],[]⟩ [(x,u)])
  (hsp:∀H:Hp,qmm H→SqL K H a (ns.map V.int)→sp [.ref a] H (fun v _=>v=.bl true) fun _ _ _=>False)
  (hCX:∀H e s',CX [] H s₁ (fun _ _ _=>False) e s'→False) :
  codeAny (model P w) callerA (.call (.ref fa) ⟨[.ref a],[]⟩) (fun r s'=>r=.ok (.ret (.bool true))∧OldK s₁.heap s'.heap∧s'.os=s₁.os∧AllBare s'.gens) s₁:=by
 have rv:=qfn hi;have lenV:=hi.length
 -- from an abstract heap in which nothing but the script may be tracked
 have core:∀H:Hp,qmm H→SqL K H a (ns.map V.int)→HOk P w H s₁.heap→(∀b,H b≠none→b=a)→(H a≠none→K.lookup a=none) →
   codeAny (model P w) callerA (.call (.ref fa) ⟨[.ref a],[]⟩) (fun r s'=>r=.ok (.ret (.bool true))∧OldK s₁.heap s'.heap∧s'.os=s₁.os∧AllBare s'.gens) s₁:=by
  intro H hO hS hok hA hK;have base_of:∀{b:Addr}{o:Obj},s₁.heap.get? b=some o→H b=none→(qcR s₁.heap H).get? b=some o:=fun e n=>qlH e n
  have noA:∀{b:Addr}{o:Obj}{es:Array DictEntry}{ep:Nat},s₁.heap.get? b=some o→o.data=.dict es ep→H b=none:=fun {b o es ep} e d=>by
   cases q:H b with
   |none=>rfl
   |some u=>
    have e':b=a:=hA b (by rw [q];simp);subst e';rw [ha]at e;cases e;have d':Data.seq vs.toArray _=Data.dict es ep:=d;cases d'
  have nsK:∀{b:Addr}{m:Str→Option Value},s₁.heap.Ns b m→(qcR s₁.heap H).Ns b m:=fun {b m} ⟨o,es,ep,e,d,r⟩=>⟨o,es,ep,base_of e (noA e d),d,r⟩
  have hKb:K.In (qcR s₁.heap H):=fun b o e=>base_of (KX b o e) (by
   cases q:H b with
   |none=>rfl
   |some u=>
    have e':b=a:=hA b (by rw [q];simp);subst e';rw [hK (by rw [q];simp)]at e;cases e)
  have hM:Mod K mg (qcR s₁.heap H):=⟨hKb,nsK hns,⟨mb,nsK hb,hbb⟩,let ⟨mc,h1,h2⟩:=hlim;⟨mc,nsK h1,h2⟩⟩
  have e0:qhy P w K mg (qcR s₁.heap H) callerA [] s₁ H:=⟨rfl,hM,fun b o e=>qnm e,Nat.le_of_eq (qkS _ _),trivial,fun b hb=>absurd (show b∈([]:List Addr)from hb) (by simp),hok,.of_eq hg⟩
  refine codeAny_mono ((F _ hKb (nsK hns)).run callerA [] s₁ H ⟨[.ref a],[]⟩ [.ref a] [.ref a] _ _ hr e0 (hbind s₁ (.ref a)) (.cons rfl .nil) (hsp H hO hS)) fun r s' h=>?_
  cases r with
  |error e=>exact(hCX H e s' h).elim
  |ok fl=>
   cases fl with
   |next=>exact False.elim h
   |brk=>exact False.elim h
   |cont=>exact False.elim h
   |ret u=>
    obtain⟨v,H',os,bare,un,hok',r',q⟩:=h;have q':v=.bl true:=q;subst q';obtain rfl:u=Value.bool true:=r';refine⟨rfl,OldK.of_keep fun b o e=>?_,os,bare⟩;cases q:H b with
    |none=>exact un.keep b o e q (by intro z;exact absurd (show b∈([]:List Addr)from z) (by simp)) (by simp)
    |some u=>
     rcases hO b with z|⟨ob,xs,z⟩
     ·rw [q]at z;cases z
     ·have z2:=un.frzs b ob _ z;obtain⟨e1,_⟩:=hok b _ z;obtain⟨e2,_⟩:=hok' b _ z2;rw [e]at e1;cases e1;exact e2
 cases hk:K.lookup a with
 |some o=>
  -- the script is one of the module's own objects
  have e:=KX a o hk;rw [ha]at e;cases e;refine core (fun _=>none) (fun _=>.inl rfl) (.inr ⟨_,vs.toArray,_,hk,rfl,rfl,rfl,by rw [List.size_toArray,lenV];exact hl,by simpa using rv⟩) (fun b u z=>by have z':(none:Option HO)=some u:=z;cases z') (fun b z=>absurd rfl z) fun z=>absurd rfl z
 |none=>
  refine core (fun b=>if b=a then some (.frz {cls:=.type "list",data:=.seq vs.toArray} (.lst (ns.map V.int)))else none) (fun b=>?_) (.inl (.inr ⟨{cls:=.type "list",data:=.seq vs.toArray},if_pos rfl⟩)) (fun b u z=>?_) (fun b z=>?_) fun _=>hk
  ·by_cases hb:b=a
   ·exact .inr ⟨_,_,if_pos hb⟩
   ·exact .inl (if_neg hb)
  ·by_cases hb:b=a
   ·have z':=(if_pos hb).symm.trans z;cases z';subst hb;exact⟨ha,by rw [List.length_map];exact hl,vs,_,rv,ha⟩
   ·have z':=(if_neg hb).symm.trans z;cases z'
  ·by_cases hb:b=a
   ·exact hb
   ·exact absurd (if_neg hb) z
theorem qol{l:PySem.W.OpenLaw}{n k:Nat}{q:Program}{loose:List Str}{XP:(Str→Option Value)→Heap→Prop}{YP:World→Heap→Prop}{d:DefRec}{K:Params→PySem.W.Frag}{CX:World→CXT}{sp:World→Sp}{x:Str}
  (hn:l.most=some n) (hn2:n≤sizeLine) (hdf:d.params.defaults=[]) (hr:qaY k callerA)
  (hY:∀(w:World) (h:Heap),YP w h→(K w.params).In h)
  (F:∀(w:World) (mg:Str→Option Value) (fa:Addr) (h:Heap),(K w.params).In h→h.Ns mainGlobals mg→mg d.name=some (.ref fa) →
   ∃fd:FuncData,(∀(s:Shared) (u:Value),BindsTo s fd ⟨[u],[]⟩ [(x,u)]) ∧
    ∀base:Heap,(K w.params).In base→base.Ns mainGlobals mg→qdf l.prog w (K w.params) mg base (CX w) k fa fd [x] (sp w))
  (hsp:∀(w:World) (H:Hp) (a:Addr) (ns:List Int),ns.length≤n→qmm H→SqL (K w.params) H a (ns.map V.int)→sp w [.ref a] H (fun v _=>v=.bl true) fun _ _ _=>False)
  (hCX:∀(w:World) (H:Hp) (s:Shared) (e:Value) (s':Shared),CX w [] H s (fun _ _ _=>False) e s'→False) :
  PySem.W.WalkO q loose XP YP l.row.toRowW d [] (fun f vs=>PySem.call f vs):=by
 refine Att.qhN hn hdf fun w s₀ s₁ mg mb fa o pm cd doc a vs ns G Y ho hd hcd hmg hobj hints hlen hg=>?_
 have KX:=hY w _ Y;obtain⟨fd,hb,hF⟩:=F w mg fa _ KX G.T.g hmg;exact qmp KX G.T.g G.T.b G.T.builtins G.T.nolimit hg hobj hints (Nat.le_trans hlen hn2) hr hF hb (fun H hO hS=>hsp w H a ns hlen hO hS) fun H e s'=>hCX w H s₁ e s'
end L2
/- THE LAST THEOREM (shape; LID, My.* are yours):
   My.Adr: a structure of the addresses that your layer names (classes, functions); My.Txt K t: a structure (Prop) of the equations over K;
   My.txt_mk : {K} {implicit addresses ..} (e1 : nsIn K mainGlobals "law" = some (some (.ref f))) (e2 : K.lookup f = some ⟨oc, od, .func (fnOf "law" "law" params body scope dV kV doc pm an cdv ct), sl⟩) (e3 : codeIn K cdv "law" = true) .. : ∃ t, My.Txt K t
set_option maxRecDepth 100000 in
set_option maxHeartbeats 0 in
theorem PySem.Challenge.cw_LID_holds : PySem.Challenge.rw_LID.Holds := by
 w_on; o_law; k_head; (case hw => w_witness2)
 k_fill
 refine L2.walk_of (l := PySem.Challenge.rw_LID) (n := 63) (k := 40) (x := "script") (CX := fun w => ..) (sp := fun _ => My.sp_law) rfl (by decide) rfl ⟨rfl, by decide, by decide⟩ (fun w h Y => PySem.W.kIn_of Y) ?F ?S ?C
 case F =>
  intro w mg fa h KX G hmg;have T : ∃ t, My.Txt (L2.KOf KX) t := by
   dsimp only [L2.KOf]                          -- K must stand as «<heap const> w.params» for k_is
   refine' My.txt_mk ?e1 ?e2 ?e3 ..
   (case e1 => PySem.W.k_is)                    -- in the order: a name -> its address -> its object -> its parts
   (case e2 => PySem.W.k_is)
   ..
  obtain ⟨t, T⟩ := T;have e0 := hmg.symm.trans (PySem.W.mg_of KX G T.law);cases e0                                       -- fa is the law's own address
  exact ⟨_, fun s u => .of_eq rfl, fun base kb nb => My.law_fn T kb nb⟩     -- if «.of_eq rfl» comes too early: refine' ⟨_, ?b, fun base kb nb => My.law_fn T kb nb⟩; exact fun s u => .of_eq rfl
 case S => exact fun w H a ns hl hO hS => ..
 case C => exact ..
(the tactic k_is has no namespace: write k_is) -/
namespace L2
open PySem PySem.Spec PyProof.Rows
noncomputable def zk(s:Stmt):Arguments:=match s with
 | .FunctionDef _ a _ _ _ _ _ _ _ _=>a
 |_=>{posonlyargs:=[],args:=[],vararg:=none,kwonlyargs:=[],kw_defaults:=[],kwarg:=none,defaults:=[]}
noncomputable def qah(s:Stmt):List Stmt:=match s with
 | .FunctionDef _ _ b _ _ _ _ _ _ _=>b
 |_=>[]
noncomputable def zj(s:Stmt):Scope:=match s with
 | .FunctionDef _ _ _ _ _ _ sc _ _ _=>sc
 |_=>{kind:=.function,names:=[],isGenerator:=false,isCoroutine:=false}
abbrev E0:XK:=fun _ _ _=>False
structure Fun(K:PySem.W.Frag)(x qual:Str)(st:Stmt)(f:Addr)(fd:FuncData):Prop where
 ex:∃(oc:Value) (od:Option Addr) (kV doc pm:Value) (an:Option Addr) (cdv ct:Value) (osl:Array (Option Value)),
  fd=PySem.W.fnOf x qual (zk st) (qah st) (zj st) .none kV doc pm an cdv ct∧K.lookup f=some ⟨oc,od,.func fd,osl⟩∧PySem.W.codeIn K cdv qual=true
 kp:PySem.W.keepIn K (.ref f)=true
section
variable{P:Program}{w:World}{K:PySem.W.Frag}{mg:Str→Option Value}{base:Heap}
theorem Fun.binds{x qual:Str}{st:Stmt}{f:Addr}{fd:FuncData}{ps:List Str}(F:Fun K x qual st f fd)
  (h:∀(kV doc pm:Value) (an:Option Addr) (cdv ct:Value) (us:List Value),us.length=ps.length→bindArgs (PySem.W.fnOf x qual (zk st) (qah st) (zj st) .none kV doc pm an cdv ct) ⟨us,[]⟩=pure (ps.zip us)):Binds K fd ps []:=by
 obtain⟨oc,od,kV,doc,pm,an,cdv,ct,osl,rfl,lk,hcd⟩:=F.ex;exact .all (h kV doc pm an cdv ct)
theorem qkq{x qual:Str}{st:Stmt}{f:Addr}{oc:Value}{od an:Option Addr}{osl:Array (Option Value)}{kV doc pm cdv ct:Value}(l:K.lookup f=some ⟨oc,od,.func (PySem.W.fnOf x qual (zk st) (qah st) (zj st) .none kV doc pm an cdv ct),osl⟩)
  (c:PySem.W.codeIn K cdv qual=true) (k:PySem.W.keepIn K (.ref f)=true):Fun K x qual st f (PySem.W.fnOf x qual (zk st) (qah st) (zj st) .none kV doc pm an cdv ct):=⟨⟨oc,od,kV,doc,pm,an,cdv,ct,osl,rfl,l,c⟩,k⟩
end
section
variable{X:Cx}
end
noncomputable def qc(H H':Hp):Prop:=∀b o,H b=some o→H' b=some o
theorem qc.refl(H:Hp):qc H H:=fun _ _ h=>h
theorem qc.trans{H H1 H2:Hp}(a:qc H H1)(b:qc H1 H2):qc H H2:=fun c o h=>b c o (a c o h)
theorem qc.free{H H':Hp}(e:qc H H'){l:Addr}(h:H' l=Option.none):H l=Option.none:=by
 cases q:H l with
 |none=>rfl
 |some o=>
  rw [e l o q]at h;cases h
theorem qc.seq{K:PySem.W.Frag}{H H':Hp}{a:Addr}{xs:List V}(e:qc H H')(h:SqL K H a xs):SqL K H' a xs:=by
 rcases h with (h|⟨o,h⟩)|h
 ·exact .inl (.inl (e _ _ h))
 ·exact .inl (.inr ⟨o,e _ _ h⟩)
 ·exact .inr h
noncomputable def zO(elt:Expr)(gens:List Comprehension)(scope:Scope)(pos:Pos)(d:Nat)(acc:Value)(env:Env):Sem Unit:=
 match gens[d+1]? with
 |some g'=>do
  let x ←eval g'.iter env
  standAt g'.iter.pos
  let x ←foldedSetIterable g'.iter env x
  let _ ←runOwn (.compStart (.ListComp elt gens scope pos) (d+1) (←holding [x] (pyIter x)) acc env) env
  pure ()
 |none=>do
  let _ ←call (.builtin "list.append") [acc,←eval elt env]
  pure ()
theorem qhs{elt:Expr}{gens:List Comprehension}{scope:Scope}{pos:Pos}{d:Nat}{g:Comprehension}{it acc:Value}{env:Env}(hg:gens[d]? = some g)(ha:g.is_async=0)
  (hn:∀g',gens[d+1]? = some g'→g'.is_async=0) :
  compTurn (.ListComp elt gens scope pos) d it acc env=(do
   standAt g.iter.pos
   match ←pyNext it with
   |none=>pure (.done .next)
   |some v=>
    letOwnedTupleGo g.target it v
    assign g.target env v
    let ok ←(forIn g.ifs true fun c r=>if r=true then do let ok ←isTrue c env (eval c env);pure (ForInStep.yield ok)else pure (ForInStep.yield r))
    if ok then
     zO elt gens scope pos d acc env
     again (.compLoop (.ListComp elt gens scope pos) d it acc env)
    else again (.compLoop (.ListComp elt gens scope pos) d it acc env)):=by
 unfold compTurn;cases e:gens[d+1]? with
 |none=>
  simp only [hg,ha,e,zO]
  rfl
 |some g'=>
  have ha':=hn g' e;simp only [hg,ha,e,ha',zO];simp only [bne_self_eq_false,Bool.false_eq_true,if_false,bind_assoc,pure_bind]
  rfl
theorem qbe{prog:Program}{w:World}{A:Around}{R:Result→Shared→Prop}{s:Shared}{elt:Expr}{gens:List Comprehension}{scope:Scope}{pos:Pos}{d:Nat}{g:Comprehension}{it acc:Value}{env:Env}
  (hg:gens[d]? = some g) (ha:g.is_async=0)
  (h0:codeAny (model prog w) A (.compLoop (.ListComp elt gens scope pos) d it acc env) R s)
  (h:wpAny (model prog w) A (pyIter it) (fun it' s'=>codeAny (model prog w) A (.compLoop (.ListComp elt gens scope pos) d it' acc env) R s')
   (notedBy (model prog w) A env fun x s'=>R (.error x) s') s) :
  codeAny (model prog w) A (.compStart (.ListComp elt gens scope pos) d it acc env) R s:=by
 refine codeAny_of_tree ?_;show wpAny _ _ ((compStart (.ListComp elt gens scope pos) d it acc env).onRaise (fun x=>do noteFrame x env;standAt theWindowsPlace)) _ _ s;refine wpAny_notedAt ?_;unfold compStart;have e2:(clausesOf (.ListComp elt gens scope pos))[d]? = some g:=hg;simp only [e2];rw [if_neg (by show ¬ (g.is_async != 0)=true;simp [ha])];show wpAny _ _ (ask>>=_) _ _ s;refine wpAny_bind (wpAny_askSetting (wpAny_ite ?_));split
 ·first
   |exact wpAny_bind (wpAny_pure (wpAny_pure (And.intro rfl h0)))
   |exact wpAny_pure (And.intro rfl h0)
 ·first
   |exact wpAny_bind (wpAny_rule (wpAny_bind (wpAny_standAt (wpAny_bind (wpAny_mono h (fun it' s' h'=>wpAny_pure (And.intro rfl h')) fun _ _ x=>x)))))
   | (refine wpAny_bind (wpAny_rule ?_);show wpAny _ _ (standAt g.iter.pos>>=_) _ _ s;exact wpAny_bind (wpAny_standAt (wpAny_bind (wpAny_mono h (fun it' s' h'=>wpAny_pure (And.intro rfl h')) fun _ _ x=>x))))
noncomputable def PTs(Y:Cx)(ifs:List Expr)(t:TT):Prop:=
 ∀(pins:List (Addr×Obj)) (s:Shared) (σ:St) (H:Hp) (Q:Bool→Hp→Prop),Inv Y pins σ H s→t σ H Q →
  wpAny (model Y.prog Y.w) Y.A (forIn ifs true fun c r=>if r=true then do let ok ←isTrue c Y.env (eval c Y.env);pure (ForInStep.yield ok)else pure (ForInStep.yield r)) (TP Y pins σ Q) Y.xe s
noncomputable def qpB:TT:=fun _ H Q=>Q true H
theorem qiq{Y:Cx}:PTs Y [] qpB:=fun _ _ _ H _ I h=>wpAny_tests_nil ⟨H,I,h⟩
theorem qnz{Y:Cx}{c:Expr}{t:TT}(hc:PT Y c t):PTs Y [c] t:=fun pins s σ H Q I h=>wpAny_tests_one (hc pins s σ H Q I h)
noncomputable def PB(Y:Cx)(m:Sem Unit)(t:TS):Prop:=
 ∀(pins:List (Addr×Obj)) (s:Shared) (σ:St) (H:Hp) (D:Ends),Inv Y pins σ H s→t D σ H →
  wpAny (model Y.prog Y.w) Y.A m (fun _ s'=>∃σ' H',Inv Y pins σ' H' s'∧D.nx σ' H') Y.xe s
section
variable{Y:Cx}{elt:Expr}{gens:List Comprehension}{scope:Scope}{pos:Pos}{d:Nat}
noncomputable def qcM(acc:Addr)(te:TE):TS:=fun D σ H=>te σ H fun y H1=>∃xs,H1 acc=some (.lst xs)∧xs.length<sizeLine∧D.nx σ (upd H1 acc (.lst (xs++[y])))
theorem qeT{acc:Addr}{te:TE}(hn:gens[d+1]? = none)(he:PE Y elt te):PB Y (zO elt gens scope pos d (.ref acc) Y.env) (qcM acc te):=by
 intro pins s σ H D I h;unfold zO;rw [hn];refine wpAny_bind (thn (he pins s σ H _ I h) fun u s1 ⟨y,H1,I1,r1,xs,hx,hz,q⟩=>?_);refine wpAny_bind (thn (qfm pins s1 σ H1 (.ref acc) [y] (.ref acc) [u] (fun _ H'=>D.nx σ H') I1 rfl (.cons r1 .nil) ⟨acc,xs,y,rfl,rfl,hx,hz,q⟩) fun _ s2 ⟨_,H2,I2,_,q2⟩=>?_);exact wpAny_pure ⟨σ,H2,I2,q2⟩
theorem qfR{g:Comprehension}{it:Addr}{acc:Value}{fp:List Addr}{tn:Nat→Heap→Prop}{J:It}{tg:TG}{tt:TT}{tb:TS}(hc:Y.calm=true)(hx:∀e s,¬ Y.xe e s)(hg:gens[d]? = some g)(ha:g.is_async=0)
  (hn:∀g',gens[d+1]? = some g'→g'.is_async=0) (T:Turn Y.prog Y.w Y.K g.target J fp it tn) (pg:PG Y g.target tg) (pt:PTs Y g.ifs tt) (pb:PB Y (zO elt gens scope pos d acc Y.env) tb)
  {pins:List (Addr×Obj)}{s:Shared}{σ:St}{H:Hp}{D:Ends} (I:Inv Y pins σ H s) (st:tn 0 s.heap) (fr:∀b∈fp,qbp Y pins H b)
  (h:∃W:Nat→Nat→St→Hp→Prop,(∃m,W 0 m σ H)∧∀i m σ H,W i m σ H →
   (J.stop i H∧D.nx σ H)∨(J.go i H∧∃N:St→Hp→Prop,(∀σ' H',N σ' H'→∃m',m'<m∧W (i+1) m' σ' H')∧∀x H',J.yld i H x H'→tg x σ H' fun σ2 H2=>qdg tt tb qbL {D with nx:=N,ct:=N,bk:=D.nx} σ2 H2)) :
  codeAny (model Y.prog Y.w) Y.A (.compLoop (.ListComp elt gens scope pos) d (.ref it) acc Y.env) (fun r s'=>r=.ok .next∧∃σ' H',Inv Y pins σ' H' s'∧D.nx σ' H') s:=by
 obtain⟨W,⟨m0,w0⟩,turn⟩:=h;have stat:∀{H':Hp},(∀b∈fp,H' b=none)→∀b∈fp,qbp Y pins H' b:=fun hn b hb=>⟨hn b hb,(fr b hb).2⟩
 refine codeAny_loop rfl (fun n s'=>∃i σ' H',Inv Y pins σ' H' s'∧tn i s'.heap∧(∀b∈fp,H' b=none)∧W i n σ' H') ?_ m0 ⟨0,σ,H,I,st,fun b hb=>(fr b hb).1,w0⟩;rintro n s3 ⟨i,σ3,H3,I3,st3,fr3,w3⟩;show wpAny _ Y.A ((compTurn (.ListComp elt gens scope pos) d (.ref it) acc Y.env).onRaise (fun x=>do noteFrame x Y.env;theTreesLotGoes x)) _ _ s3;refine wpAny_noted ?_;rw [qhs hg ha hn];have nox:∀{E:Value→Shared→Prop} (e:Value) (s:Shared),Y.xe e s→E e s:=fun e s z=>absurd z (hx e s)
 refine wpAny_bind (wpAny_standAt ?_);rcases turn i n σ3 H3 w3 with ⟨stop,qn⟩|⟨go,N,hN,step⟩
 ·refine wpAny_bind (thn (T.done Y rfl rfl rfl hc i pins s3 σ3 H3 _ I3 (stat fr3) st3 stop) fun r s4 ⟨hr,I4⟩=>?_);subst hr;exact wpAny_pure ⟨rfl,σ3,H3,I4,qn⟩
 ·refine wpAny_bind (thn (T.item Y rfl rfl rfl hc i pins s3 σ3 H3 _ I3 (stat fr3) st3 go) fun r s4 ⟨u,hr,h4⟩=>?_);subst hr;refine wpAny_bind (thn h4 fun _ s5 ⟨x,H5,I5,r5,y5,st5,fr5⟩=>?_);have I5':=I5.pinned (stat fr5) (T.obj _ _ st5);refine wpAny_bind (wpAny_mono (pg _ s5 σ3 H5 x u _ I5' r5 (step x H5 y5)) (fun _ s6 ⟨σ6,H6,I6,q6⟩=>?_) nox);have again:∀{s7:Shared}{σ7:St}{H7:Hp},Inv Y (pins++qdi fp s5.heap) σ7 H7 s7→N σ7 H7→∃m,m<n∧∃i σ' H',Inv Y pins σ' H' s7∧tn i s7.heap∧(∀b∈fp,H' b=none)∧W i m σ' H':=fun {s7 σ7 H7} I7 n7=>by
   obtain⟨m',hm,w7⟩:=hN σ7 H7 n7;refine⟨m',hm,i+1,σ7,H7,I7.unpinned,T.keep _ _ _ st5 fun b hb o e=>(I7.pin (b,o) (List.mem_append_right _ (List.mem_append_right _ (qbD hb e)))).1,fun b hb=>?_,w7⟩;obtain⟨o,e,d⟩:=T.obj _ _ st5 b hb;exact(I7.pin (b,o) (List.mem_append_right _ (List.mem_append_right _ (qbD hb e)))).2.1
  refine wpAny_bind (wpAny_mono (pt _ s6 σ6 H6 _ I6 q6) (fun b s7 ⟨H7,I7,q7⟩=>?_) nox);cases b with
  |true=>
   rw [if_pos rfl];rw [if_pos rfl]at q7;refine wpAny_bind (wpAny_mono (pb _ s7 σ6 H7 _ I7 q7) (fun _ s8 ⟨σ8,H8,I8,q8⟩=>?_) nox);exact wpAny_pure ⟨rfl,again I8 q8⟩
  |false=>
   rw [if_neg Bool.false_ne_true];rw [if_neg Bool.false_ne_true]at q7;exact wpAny_pure ⟨rfl,again I7 q7⟩
theorem qom{g:Comprehension}{acc:Value}{wi:TI}{tg:TG}{tt:TT}{tb:TS}(hc:Y.calm=true)(hx:∀e s,¬ Y.xe e s)(hg:gens[d+1]? = some g)(ha:g.is_async=0)
  (hn:∀g',gens[d+1+1]? = some g'→g'.is_async=0) (hi:PI Y g.target g.iter wi) (pg:PG Y g.target tg) (pt:PTs Y g.ifs tt) (pb:PB Y (zO elt gens scope pos (d+1) acc Y.env) tb)
  (hs:∀x,foldedSetIterable g.iter Y.env x=pure x:=by intro _;rfl):PB Y (zO elt gens scope pos d acc Y.env) (qgs wi tg (qdg tt tb qbL)):=by
 intro pins s σ H D I h;unfold zO;rw [hg];refine wpAny_bind (thn (hi pins s σ H _ I h) fun v s1 h1=>?_);refine wpAny_bind (wpAny_standAt (wpAny_bind (wpAny_of_eq (hs v) (wpAny_bind (wpAny_holding (thn h1 fun itv s2 h2=>?_))))));obtain⟨it,fp,tn,J,H2,e,I2,T,st2,f2,q⟩:=h2;subst e;have L:=qfR hc hx hg ha hn T pg pt pb I2 st2 f2 q;refine wpAny_bind (wpAny_runOwn (codeAny_mono (qbe hg ha L (T.self _ 0 s2 _ _ st2 L)) fun r s' ⟨e,σ',H',I',q'⟩=>?_));subst e;exact wpAny_pure ⟨σ',H',I',q'⟩
end
theorem qcS{env:Env}:∀{names:List (Str×NameKind)}{cs:List (Str×Addr)},(∀x∈names,x.2=.free→∃c,env.cells.lookup x.1=some c) →
  ∃cl,(forIn names cs (fun(x:Str×NameKind) (cs:List (Str×Addr))=>if (x.2==NameKind.free)=true then do let c ←cellOf env x.1;pure (ForInStep.yield ((x.1,c)::cs))else pure (ForInStep.yield cs)):Sem (List (Str×Addr)))=pure cl ∧
   (∀x c,cl.lookup x=some c→env.cells.lookup x=some c∨cs.lookup x=some c)∧(∀x,(∃c,cs.lookup x=some c)→∃c,cl.lookup x=some c)∧∀x∈names,x.2=.free→∃c,cl.lookup x.1=some c
 | [],cs,_=>⟨cs,by rw [List.forIn_nil],fun _ _ h=>.inr h,fun _ h=>h,fun _ h=>nomatch h⟩
 | (n,k)::r,cs,h=>by
  rw [List.forIn_cons];by_cases hk:k=.free
  ·subst hk;obtain⟨c,hc⟩:=h (n,.free) List.mem_cons_self rfl;have e:cellOf env n=pure c:=by
    have hc':env.cells.lookup n=some c:=hc;unfold cellOf;rw [hc']
   obtain⟨cl,e1,e2,e3,e4⟩:=qcS (names:=r) (cs:=(n,c)::cs) fun x hx=>h x (List.mem_cons_of_mem _ hx)
   refine⟨cl,?_,fun x c' q=>?_,fun x q=>e3 x ?_,fun x hx hf=>?_⟩
   ·simp only [beq_self_eq_true,if_true,e,pure_bind];exact e1
   ·rcases e2 x c' q with z|z
    ·exact .inl z
    ·rw [List.lookup_cons]at z;by_cases hxn:(x==n)=true
     ·rw [hxn]at z;have:x=n:=by simpa using hxn
      subst this;cases z;exact .inl hc
     ·have hxn':(x==n)=false:=by simpa using hxn
      rw [hxn']at z;exact .inr z
   ·rw [List.lookup_cons];by_cases hxn:(x==n)=true
    ·rw [hxn];exact⟨c,rfl⟩
    ·have hxn':(x==n)=false:=by simpa using hxn
     rw [hxn'];exact q
   ·rcases List.mem_cons.mp hx with z|z
    ·subst z;exact e3 n ⟨c,by rw [List.lookup_cons,beq_self_eq_true]⟩
    ·exact e4 x z hf
  ·have hk':(k==NameKind.free)=false:=by simpa using hk
   obtain⟨cl,e1,e2,e3,e4⟩:=qcS (names:=r) (cs:=cs) fun x hx=>h x (List.mem_cons_of_mem _ hx)
   refine⟨cl,?_,e2,e3,fun x hx hf=>?_⟩
   ·simp only [hk',Bool.false_eq_true,if_false,pure_bind];exact e1
   ·rcases List.mem_cons.mp hx with z|z
    ·subst z;exact absurd hf hk
    ·exact e4 x z hf
theorem qcW{env:Env}{scope:Scope}(h:∀x∈scope.names,x.2=.free→∃c,env.cells.lookup x.1=some c) :
  ∃cl,closureFor scope env=pure cl∧(∀x c,cl.lookup x=some c→env.cells.lookup x=some c)∧∀x∈scope.names,x.2=.free→∃c,cl.lookup x.1=some c:=by
 obtain⟨cl,e1,e2,_,e4⟩:=qcS (env:=env) (names:=scope.names) (cs:=[]) h;refine⟨cl,?_,fun x c q=>(e2 x c q).elim (fun z=>z) (fun z=>by simp at z),e4⟩;have e:closureFor scope env=(forIn scope.names [] (fun(x:Str×NameKind) (cs:List (Str×Addr))=>if (x.2==NameKind.free)=true then do let c ←cellOf env x.1;pure (ForInStep.yield ((x.1,c)::cs))else pure (ForInStep.yield cs))>>=fun cs=>pure cs):=rfl;rw [e,e1,pure_bind]
theorem qaE{env:Env}:∀{names:List (Str×NameKind)}{x:Str}{k:NameKind},
  (names.map fun(n,k)=>if (k==NameKind.free&&env.scope.kind==.function&&env.kindOf n==some .cell)then (n,NameKind.cell)else (n,k)).lookup x=some k →
  names.lookup x=some k∨(k=.cell∧names.lookup x=some .free)
 | [],_,_,h=>by simp at h
 | (n,k')::r,x,k,h=>by
  have ih:=@qaE env r x k;have h':List.lookup x ((if (k'==NameKind.free&&env.scope.kind==.function&&env.kindOf n==some .cell)=true then (n,NameKind.cell)else (n,k'))::r.map (fun(n,k)=>if (k==NameKind.free&&env.scope.kind==.function&&env.kindOf n==some .cell)then (n,NameKind.cell)else (n,k)))=some k:=h;cases hx:x==n with
  |true=>
   by_cases hc:(k'==NameKind.free&&env.scope.kind==.function&&env.kindOf n==some .cell)=true
   ·rw [if_pos hc]at h';simp only [List.lookup_cons,hx]at h';cases h';have:k'=.free:=by
     have z:(k'==NameKind.free)=true:=by
      cases q:(k'==NameKind.free)with
      |true=>rfl
      |false=>rw [q]at hc;simp at hc
     simpa using z
    subst this;exact .inr ⟨rfl,by simp [List.lookup_cons,hx]⟩
   ·rw [if_neg hc]at h';simp only [List.lookup_cons,hx]at h';cases h';exact .inl (by simp [List.lookup_cons,hx])
  |false=>
   have h2:(r.map (fun(n,k)=>if (k==NameKind.free&&env.scope.kind==.function&&env.kindOf n==some .cell)then (n,NameKind.cell)else (n,k))).lookup x=some k:=by
    by_cases hc:(k'==NameKind.free&&env.scope.kind==.function&&env.kindOf n==some .cell)=true
    ·rw [if_pos hc]at h';simpa only [List.lookup_cons,hx]using h'
    ·rw [if_neg hc]at h';simpa only [List.lookup_cons,hx]using h'
   rcases ih h2 with z|z
   ·exact .inl (by simpa only [List.lookup_cons,hx]using z)
   ·exact .inr ⟨z.1,by simpa only [List.lookup_cons,hx]using z.2⟩
noncomputable def qeX(names:List (Str×NameKind)):List Str:=(names.filter fun y=>y.2==.cell).map (·.1)
theorem qbC:∀(names:List (Str×NameKind)) (n:Nat) (a b:List (Str×Addr)),cellsFrom n names (a++b)=cellsFrom n names a++b
 | [],_,_,_=>rfl
 | (x,k)::r,n,a,b=>by
  unfold cellsFrom;split
  ·exact qbC r (n+1) ((x,n)::a) b
  ·exact qbC r n a b
theorem qbz{x:Str}{c:Addr}:∀{names:List (Str×NameKind)}{n:Nat}{a:List (Str×Addr)},(x,c)∈cellsFrom n names a→(x,c)∈a∨(x,NameKind.cell)∈names
 | [],_,_,h=>.inl h
 | (y,k)::r,n,a,h=>by
  unfold cellsFrom at h;split at h
  ·rename_i hk
   rcases qbz h with z|z
   ·rcases List.mem_cons.mp z with q|q
    ·have hk:k=.cell:=by simpa using hk
     cases q;exact .inr (by rw [hk];exact List.mem_cons_self)
    ·exact .inl q
   ·exact .inr (List.mem_cons_of_mem _ z)
  ·rcases qbz h with z|z
   ·exact .inl z
   ·exact .inr (List.mem_cons_of_mem _ z)
theorem qdz{M:Model}{A:Around}{E:Value→Shared→Prop}{s:Shared}{scope:Scope}{globals:Addr}{cl:List (Str×Addr)}{qual:Str}{env:Env}{Q:Env→Shared→Prop}
  (hQ:∀h₁,h₁.Ns s.heap.objs.size (fun _=>none)→(∀b o,s.heap.get? b=some o→h₁.get? b=some o)→CellsOk h₁ (s.heap.objs.size+1) (cellsFrom (s.heap.objs.size+1) scope.names []) →
   Q (newEnv scope s.heap.objs.size globals (cellsFrom (s.heap.objs.size+1) scope.names []++cl) qual none .none (some env) builtinsNs) {s with heap:=h₁}) :
  wpAny M A (newFunctionEnv scope globals cl [] qual none .none (some env)) Q E s:=by
 simp only [newFunctionEnv,Option.isSome_some,if_true];refine wpAny_bind (wpAny_alloc ?_);refine wpAny_bind (wpAny_layCells _ (fun name kind cells=>by cases hkc:kind==NameKind.cell<;>simp [hkc]) _ _ _ _ ?_);have ok:=cellsFrom_ok scope.names (s.heap.push {cls:=.type "dict",data:=.dict #[]}) (s.heap.objs.size+1) [] ⟨fun _ _ hm=>(nomatch hm),List.Pairwise.nil⟩ (by rw [Heap.size_push];exact Nat.le_refl _);rw [Heap.size_push]at ok;rw [show ({s with heap:=s.heap.push {cls:=.type "dict",data:=.dict #[]}}:Shared).heap.objs.size=s.heap.objs.size+1 from Heap.size_push ..];rw [show cl=[]++cl from rfl,qbC];rw [List.forIn_nil];exact wpAny_bind (wpAny_pure (wpAny_pure (hQ _ ((Heap.Ns.new s.heap (.type "dict")).keeps (pushCells_keeps _ _)) (fun b o e=>pushCells_keeps _ _ b o (Heap.get?_push_of_some _ e)) ok)))
noncomputable def zr(X:Cx)(NY:List Str)(scope:Scope)(cl:List (Str×Addr))(C:Addr)(s₀:Shared)(H₀:Hp)(fp:List Addr):Cx where
 prog:=X.prog
 w:=X.w
 K:=X.K
 mg:=X.mg
 base:=X.base
 A:=X.A
 N:=NY
 s₀:=s₀
 H₀:=H₀
 env:=compEnvC scope (cellsFrom (C+1) scope.names []++cl) C X.env
 outer:=X.stack
 stack:=X.stack
 ex:=fp
 fn:=fun x=>(qeX scope.names).contains x
 calm:=X.calm
 pn:=[]
 xe:=fun _ _=>False
noncomputable def caps(cap:List (Option Nat))(σ:St):St:=cap.map fun o=>o.bind fun j=>(σ[j]?).join
noncomputable def qmX(X:Cx)(NY:List Str)(cap:List (Option Nat))(scope:Scope):Prop:=
 cap.length=NY.length∧∀(i j:Nat),cap[i]? = some (some j)→∃x,NY[i]? = some x∧X.N[j]? = some x∧scope.names.lookup x=some .free∧(X.env.kindOf x=some .cell∨X.env.kindOf x=some .free)
structure zz(X:Cx)(NY:List Str)(cap:List (Option Nat))(scope:Scope):Prop where
 kind:scope.kind=.function
 cells:∀y∈scope.names,y.2=.cell→scope.names.lookup y.1=some .cell
 names:∀y∈scope.names,y.2=.local→scope.names.lookup y.1=some .local
 free:∀y∈scope.names,y.2=.free→X.env.kindOf y.1=some .cell∨X.env.kindOf y.1=some .free
 cap:qmX X NY cap scope
theorem qlr{cap:List (Option Nat)}{σ:St}{i:Nat}{v:V}(h:(caps cap σ)[i]? = some (some v)):∃j,cap[i]? = some (some j)∧σ[j]? = some (some v):=by
 unfold caps at h;rw [List.getElem?_map]at h;cases e:cap[i]? with
 |none=>rw [e]at h;simp at h
 |some o=>
  rw [e]at h;cases o with
  |none=>simp at h
  |some j=>
   refine⟨j,rfl,?_⟩;have h':(σ[j]?).join=some v:=by simpa using h
   cases q:σ[j]? with
   |none=>rw [q]at h';cases h'
   |some z=>rw [q]at h';exact congrArg some h'
theorem qmh{X:Cx}{pins:List (Addr×Obj)}{σ:St}{H:Hp}{s:Shared}{NY:List Str}{cap:List (Option Nat)}{scope:Scope}{cl:List (Str×Addr)}{fp:List Addr}{h₁:Heap}{m:Str→Option Value}
  (I:Inv X pins σ H s) (S:zz X NY cap scope) (hsub:∀x c,cl.lookup x=some c→X.env.cells.lookup x=some c) (hall:∀x∈scope.names,x.2=.free→∃c,cl.lookup x.1=some c)
  (hf:∀b∈fp,qbp X pins H b) (hlt:∀b∈fp,b<s.heap.objs.size) (hn:h₁.Ns s.heap.objs.size m) (hk:∀b o,s.heap.get? b=some o→h₁.get? b=some o) (hcs:CellsOk h₁ (s.heap.objs.size+1) (cellsFrom (s.heap.objs.size+1) scope.names [])) {tk:Nat} :
  Inv (zr X NY scope cl s.heap.objs.size s H fp) [] (caps cap σ) H {s with heap:=h₁,toks:=tk}:=by
 have relx:∀x,(compEnvC scope (cellsFrom (s.heap.objs.size+1) scope.names []++cl) s.heap.objs.size X.env).kindOf x=some .cell∨(compEnvC scope (cellsFrom (s.heap.objs.size+1) scope.names []++cl) s.heap.objs.size X.env).kindOf x=some .free→scope.names.lookup x=some .free∨scope.names.lookup x=some .cell:=fun x hx=>by
  rcases hx with q|q
  ·rcases qaE (env:=X.env) (names:=scope.names) (x:=x) (k:=.cell) q with z|z
   ·exact .inr z
   ·exact .inl z.2
  ·rcases qaE (env:=X.env) (names:=scope.names) (x:=x) (k:=.free) q with z|z
   ·exact .inl z
   ·exact .inl z.2
 have cnew:∀x c,cl.lookup x=some c→c<s.heap.objs.size:=fun x c e=>by
  obtain⟨v,q⟩:=I.cell x c (hsub x c e);exact q.lt
 -- a cell is one of its own, or one from around
 have two:∀x c,(cellsFrom (s.heap.objs.size+1) scope.names []++cl).lookup x=some c→(x,c)∈cellsFrom (s.heap.objs.size+1) scope.names []∨cl.lookup x=some c:=fun x c e=>by
  rw [List.lookup_append]at e;cases q:(cellsFrom (s.heap.objs.size+1) scope.names []).lookup x with
  |none=>rw [q]at e;exact .inr e
  |some c'=>rw [q]at e;cases e;exact .inl (PySem.mem_of_lookup q)
 have own1:∀x c,(x,c)∈cellsFrom (s.heap.objs.size+1) scope.names []→scope.names.lookup x=some .cell:=fun x c e=>by
  rcases qbz e with z|z
  ·cases z
  ·exact S.cells _ z rfl
 have ownA:∀x c,(x,c)∈cellsFrom (s.heap.objs.size+1) scope.names []→s.heap.objs.size<c:=fun x c e=>(hcs.empty x c e).2
 have frl:∀x c,scope.names.lookup x=some .free→cl.lookup x=some c→(cellsFrom (s.heap.objs.size+1) scope.names []++cl).lookup x=some c:=fun x c e1 e2=>by
  rw [List.lookup_append];cases q:(cellsFrom (s.heap.objs.size+1) scope.names []).lookup x with
  |none=>rw [e2];rfl
  |some c'=>have:=own1 x c' (PySem.mem_of_lookup q);rw [e1]at this;cases this
 refine⟨⟨I.ok.mod,S.kind,I.ok.glob,I.ok.blt,Nat.le_refl _,fun x y c e1 e2=>?_,fun x hx=>?_,fun x c e e2=>?_,I.ok.hd,I.ok.frames,.inl rfl,fun b hb=>?_,fun b o e=>I.bs b o e,Nat.le_trans I.ok.bsz I.sz,fun b o e hb=>?_,fun b hb z=>?_,I.stack,I.stkFree⟩,
  rfl,I.bare,Un.kept hk,⟨m,hn,fun i x v e1 e2 e3=>?_⟩,fun x c e=>?_,I.hok.fresh (Nat.le_refl _),fun x c e=>?_,fun p hp=>absurd (show p∈([]:List (Addr×Obj))from hp) (by simp),I.hok.kept hk,?_⟩
 ·rcases two x c e1 with z1|z1<;>rcases two y c e2 with z2|z2
  ·exact name_of_addr hcs.apart z1 z2
  ·exact absurd (Nat.lt_trans (cnew y c z2) (ownA x c z1)) (Nat.lt_irrefl _)
  ·exact absurd (Nat.lt_trans (cnew x c z1) (ownA y c z2)) (Nat.lt_irrefl _)
  ·exact I.ok.inj x y c (hsub x c z1) (hsub y c z2)
 ·rcases relx x hx with z|z
  ·obtain⟨c,hc⟩:=hall (x,.free) (PySem.mem_of_lookup z) rfl;exact⟨c,frl x c z hc⟩
  ·obtain⟨c,hc⟩:=qcN (n:=s.heap.objs.size+1) z;refine⟨c,?_⟩;show (cellsFrom (s.heap.objs.size+1) scope.names []++cl).lookup x=some c;rw [List.lookup_append,hc];rfl
 ·have e:(qeX scope.names).contains x=true:=e;have hm:scope.names.lookup x=some .cell:=by
   simp only [qeX,List.contains_iff_mem,List.mem_map,List.mem_filter,beq_iff_eq]at e;obtain⟨y,⟨y1,y2⟩,rfl⟩:=e;exact S.cells y y1 y2
  rcases two x c e2 with z|z
  ·exact Nat.le_of_lt (ownA x c z)
  ·obtain⟨c',hc⟩:=qcN (n:=s.heap.objs.size+1) hm;have e2:(cellsFrom (s.heap.objs.size+1) scope.names []++cl).lookup x=some c:=e2;rw [List.lookup_append,hc]at e2;cases e2;exact Nat.le_of_lt (ownA x _ (PySem.mem_of_lookup hc))
 ·obtain⟨f0,f1,f2,f3,f4,f5⟩:=hf b hb;refine⟨Nat.ne_of_lt (hlt b hb),fun x c e=>?_⟩;rcases two x c e with z|z
  ·exact fun w=>absurd (Nat.lt_trans (ownA x c z) (w▸hlt b hb)) (Nat.lt_irrefl _)
  ·exact f4 x c (hsub x c z)
 ·obtain⟨f0,f1,f2,f3,f4,f5⟩:=hf b hb;rcases f3 with z|z
  ·exact I.ok.noex b o e z
  ·exact absurd (Nat.lt_of_lt_of_le (Heap.lt_size e) (Nat.le_trans I.ok.bsz z)) (Nat.lt_irrefl _)
 ·obtain⟨f0,f1,f2,f3,f4,f5⟩:=hf b hb;rcases List.mem_cons.mp (I.stkSub b z)with q|q
  ·exact f1 q
  ·exact f2 q
 ·obtain⟨j,c1,c2⟩:=qlr e2;obtain⟨x',n1,n2,n3,n4⟩:=S.cap.2 i j c1;have ex:x'=x:=Option.some.inj (n1.symm.trans e1);subst ex;obtain⟨m',_,hl⟩:=I.loc;obtain⟨u,r,l⟩:=hl j x' v n2 c2 (n4.elim (fun z=>.inr (.inl z)) fun z=>.inr (.inr z));refine⟨u,r,.inr ⟨?_,?_⟩⟩
  ·rcases e3 with z|z|z
   ·rcases qaE (env:=X.env) (names:=scope.names) (x:=x') (k:=.local) z with q|q
    ·rw [n3]at q;cases q
    ·cases q.1
   ·exact .inl z
   ·exact .inr z
  ·rcases l with ⟨kk,_⟩|⟨_,c,ec,ic⟩
   ·rcases n4 with z|z
    ·rw [kk]at z;cases z
    ·rw [kk]at z;cases z
   ·obtain⟨c',ec'⟩:=hall (x',.free) (PySem.mem_of_lookup n3) rfl;have:=hsub x' c' ec';rw [ec]at this;cases this;obtain⟨o,ho,hd⟩:=ic;exact⟨c,frl x' c n3 ec',o,hk _ _ ho,hd⟩
 ·rcases two x c e with z|z
  ·exact⟨_,(hcs.empty x c z).1⟩
  ·obtain⟨v,o,ho,hd⟩:=I.cell x c (hsub x c z);exact⟨v,o,hk _ _ ho,hd⟩
 ·rcases two x c e with z|z
  ·exact I.hok.fresh (Nat.le_of_lt (ownA x c z))
  ·exact I.freeC x c (hsub x c z)
 ·show (caps cap σ).length=NY.length;unfold caps;rw [List.length_map];exact S.cap.1
noncomputable def qgm(cap:List (Option Nat))(wi:TI)(tg:TG)(tt:TT)(tb:Addr→TS):TE:=fun σ H Q=>wi σ H fun J H1=>∀acc,H1 acc=none →
 ∃W:Nat→Nat→St→Hp→Prop,(∃m,W 0 m (caps cap σ) (upd H1 acc (.lst [])))∧∀i m τ H,W i m τ H →
  (J.stop i H∧(Ends.mk (fun _ H=>Q (.ref acc) H) (fun _ _=>False) (fun _ _=>False) (fun _ _=>False)).nx τ H)∨(J.go i H∧∃N:St→Hp→Prop,(∀σ' H',N σ' H'→∃m',m'<m∧W (i+1) m' σ' H')∧∀x H',J.yld i H x H' →
   tg x τ H' fun σ2 H2=>qdg tt (tb acc) qbL {(Ends.mk (fun _ H=>Q (.ref acc) H) (fun _ _=>False) (fun _ _=>False) (fun _ _=>False))with nx:=N,ct:=N,bk:=(Ends.mk (fun _ H=>Q (.ref acc) H) (fun _ _=>False) (fun _ _=>False) (fun _ _=>False)).nx} σ2 H2)
structure Loose(X:Cx)(pins:List (Addr×Obj))(C:Addr):Prop where
 loc:C≠X.env.locals
 cell:∀x c,X.env.cells.lookup x=some c→c≠C
 up:X.s₀.heap.objs.size≤C
 pin:∀p∈X.pn++pins,p.1≠C
theorem Loose.turn{X:Cx}{pins:List (Addr×Obj)}{C:Addr}{σ:St}{H:Hp}{s:Shared}{h':Heap}(L:Loose X pins C)(I:Inv X pins σ H s)(hn:H C=none)(hs:Heap.SameBut C s.heap h'):Inv X pins σ H {s with heap:=h'}:=
 I.turned (t':=s.toks) (it:=C) (fun b o hb e=>(hs.2 b hb).trans e) hn L.loc (.inr L.up) L.cell L.pin
section
variable{X:Cx}{elt tgt it:Expr}{ifs:List Expr}{gs:List Comprehension}{scope:Scope}{pos:Pos}{NY:List Str}{cap:List (Option Nat)}{wi:TI}{tg:TG}{tt:TT}{tb:Addr→TS}
theorem qet{Q:VK}{pins:List (Addr×Obj)}{σ:St}{H:Hp}{s s2:Shared}{cl:List (Str×Addr)}{itv:Value}{E:Value→Shared→Prop}{use:Option (Value→Sem Unit)}{QQ:Value→Shared→Prop}
  (hc:X.calm=true) (S:zz X NY cap scope) (hng:∀g'∈gs,g'.is_async=0)
  (hsub:∀x c,cl.lookup x=some c→X.env.cells.lookup x=some c) (hall:∀x∈scope.names,x.2=.free→∃c,cl.lookup x.1=some c)
  (hb:∀cl C s₀ H₀ fp,PG (zr X NY scope cl C s₀ H₀ fp) tgt tg∧PTs (zr X NY scope cl C s₀ H₀ fp) ifs tt∧∀acc,PB (zr X NY scope cl C s₀ H₀ fp) (zO elt (⟨tgt,it,ifs,0⟩::gs) scope pos 0 (.ref acc) (zr X NY scope cl C s₀ H₀ fp).env) (tb acc))
  (h2:PIE X pins σ tgt (fun J H1=>∀acc,H1 acc=none →
   ∃W:Nat→Nat→St→Hp→Prop,(∃m,W 0 m (caps cap σ) (upd H1 acc (.lst [])))∧∀i m τ H,W i m τ H →
    (J.stop i H∧(Ends.mk (fun _ H=>Q (.ref acc) H) (fun _ _=>False) (fun _ _=>False) (fun _ _=>False)).nx τ H)∨(J.go i H∧∃N:St→Hp→Prop,(∀σ' H',N σ' H'→∃m',m'<m∧W (i+1) m' σ' H')∧∀x H',J.yld i H x H' →
     tg x τ H' fun σ2 H2=>qdg tt (tb acc) qbL {(Ends.mk (fun _ H=>Q (.ref acc) H) (fun _ _=>False) (fun _ _=>False) (fun _ _=>False))with nx:=N,ct:=N,bk:=(Ends.mk (fun _ H=>Q (.ref acc) H) (fun _ _=>False) (fun _ _=>False) (fun _ _=>False)).nx} σ2 H2)) itv s2)
  (fin:∀(acc C:Addr) (s':Shared) (m:Str→Option Value) (H':Hp),s'.heap.Ns C m→Loose X pins C→Inv X pins σ H' s'→H' C=none→Q (.ref acc) H'→compPost (model X.prog X.w) X.A E use QQ (.ref acc) C (.ok .next) s') :
  wpAny (model X.prog X.w) X.A (newList []) (fun acc s₃=>wpAny (model X.prog X.w) X.A (newFunctionEnv scope X.env.globals cl [] X.env.qual none .none (some X.env)) (fun cenv s₄=>
   codeAny (model X.prog X.w) X.A (.compStart (.ListComp elt (⟨tgt,it,ifs,0⟩::gs) scope pos) 0 itv acc {cenv with scope:=relabel scope X.env}) (compPost (model X.prog X.w) X.A E use QQ acc cenv.locals) s₄) E s₃) E s2:=by
 obtain⟨ia,fp,tn,J,H2,e,I2,T,st2,f2,q⟩:=h2;subst e;have hlt2:∀b∈fp,b<s2.heap.objs.size:=fun b hb=>by
  obtain⟨o,ho,_⟩:=T.obj _ _ st2 b hb;exact Heap.lt_size ho
 refine wpAny_newObj_type ?_;have hacc:H2 s2.heap.objs.size=none:=I2.hok.fresh (Nat.le_refl _);have I3:Inv X pins σ (upd H2 s2.heap.objs.size (.lst [])) {s2 with heap:=s2.heap.push {cls:=.type "list",dict:=none,data:=.seq ([]:List Value).toArray}}:=
  I2.laid (t':=s2.toks) (fun b u e=>Heap.get?_push_of_some _ e) (Nat.le_refl _) ⟨Nat.zero_le _,[],0,.nil,Heap.get?_push_size _ rfl⟩
 have hsz3:(s2.heap.push {cls:=.type "list",dict:=none,data:=.seq ([]:List Value).toArray}).objs.size=s2.heap.objs.size+1:=Heap.size_push ..;generalize hs3:({s2 with heap:=s2.heap.push {cls:=.type "list",dict:=none,data:=.seq ([]:List Value).toArray}}:Shared)=s3 at I3 ⊢;have hsz:s3.heap.objs.size=s2.heap.objs.size+1:=by rw [←hs3];exact hsz3
 have st3:tn 0 s3.heap:=T.keep _ _ _ st2 fun b hb o e=>by rw [←hs3];exact Heap.get?_push_of_some _ e
 have f3:∀b∈fp,qbp X pins (upd H2 s2.heap.objs.size (.lst [])) b:=fun b hb=>⟨by rw [qm (Nat.ne_of_lt (hlt2 b hb))];exact(f2 b hb).1,(f2 b hb).2⟩
 have hlt3:∀b∈fp,b<s3.heap.objs.size:=fun b hb=>by rw [hsz];exact Nat.lt_succ_of_lt (hlt2 b hb)
 refine qdz fun h₁ hns₁ hk1 hcs=>?_
 have IY:=qmh (tk:=s3.toks) I3 S hsub hall f3 hlt3 hns₁ hk1 hcs;have stY:tn 0 h₁:=T.keep _ _ _ st3 fun b hb o e=>hk1 b o e
 obtain⟨pg,pt,pb⟩:=hb cl s3.heap.objs.size s3 (upd H2 s2.heap.objs.size (.lst [])) fp;have fY:∀b∈fp,qbp (zr X NY scope cl s3.heap.objs.size s3 (upd H2 s2.heap.objs.size (.lst [])) fp) [] (upd H2 s2.heap.objs.size (.lst [])) b:=fun b hb=>by
  obtain⟨g0,g1,g2,g3,g4,g5⟩:=f3 b hb;refine⟨g0,Nat.ne_of_lt (hlt3 b hb),fun z=>?_,.inl hb,(IY.ok.exf b hb).2,fun p hp=>absurd (show p∈([]:List (Addr×Obj))from hp) (by simp)⟩;rcases List.mem_cons.mp (I3.stkSub b z)with w|w
  ·exact g1 w
  ·exact g2 w
 have L:=qfR (elt:=elt) (gens:=⟨tgt,it,ifs,0⟩::gs) (scope:=scope) (pos:=pos) (d:=0) (Y:=zr X NY scope cl s3.heap.objs.size s3 (upd H2 s2.heap.objs.size (.lst [])) fp) (acc:=.ref s2.heap.objs.size) hc (fun _ _ z=>z) rfl rfl
  (fun g' hg'=>hng g' (List.mem_of_getElem? (i:=0) (by simpa using hg'))) T pg pt (pb s2.heap.objs.size) IY stY fY (q s2.heap.objs.size hacc)
 refine codeAny_mono (qbe (elt:=elt) (gens:=⟨tgt,it,ifs,0⟩::gs) (scope:=scope) (pos:=pos) (d:=0) (env:=compEnvC scope (cellsFrom (s3.heap.objs.size+1) scope.names []++cl) s3.heap.objs.size X.env) rfl rfl L (T.self _ 0 _ _ _ stY L)) fun r s' ⟨e,τ',H',I',q'⟩=>?_
 subst e;obtain⟨m',hn',_⟩:=id I'.loc;have hLne:s3.heap.objs.size≠X.env.locals:=Nat.ne_of_gt I3.lt;have hCne:∀x c,X.env.cells.lookup x=some c→c≠s3.heap.objs.size:=fun x c e z=>by
  obtain⟨v,qv⟩:=I3.cell x c e;exact absurd qv.lt (by rw [z];exact Nat.lt_irrefl _)
 have J1:Inv X pins σ H' s':=by
  refine I3.call' (ch:=fp) I'.os I'.base I'.hok I'.bare fun b hb=>?_
  obtain⟨g0,g1,g2,g3,g4,g5⟩:=f3 b hb;exact⟨g3,g1,g4,g5⟩
 refine fin s2.heap.objs.size s3.heap.objs.size s' m' H' hn' ⟨hLne,hCne,I3.sz,fun p hp z=>?_⟩ J1 I'.free q';have:=Heap.lt_size (I3.pin p hp).1;rw [z]at this;exact Nat.lt_irrefl _ this
theorem qik(hc:X.calm=true)(S:zz X NY cap scope)(hi:PI X tgt it wi)
  (hb:∀cl C s₀ H₀ fp,PG (zr X NY scope cl C s₀ H₀ fp) tgt tg∧PTs (zr X NY scope cl C s₀ H₀ fp) ifs tt∧∀acc,PB (zr X NY scope cl C s₀ H₀ fp) (zO elt (⟨tgt,it,ifs,0⟩::gs) scope pos 0 (.ref acc) (zr X NY scope cl C s₀ H₀ fp).env) (tb acc))
  (hng:∀g'∈gs,g'.is_async=0:=by simp)
  (hs:∀x,foldedSetIterable it X.env x=pure x:=by intro _;rfl):PE X (.ListComp elt (⟨tgt,it,ifs,0⟩::gs) scope pos) (qgm cap wi tg tt tb):=by
 intro pins s σ H Q I h;obtain⟨cl,hcl,hsub,hall⟩:=qcW (env:=X.env) (scope:=scope) fun x hx hf=>I.ok.has x.1 (S.free x hx hf)
 rw [eval_ListComp];refine wpAny_comprehension_free (use:=none) rfl hs hcl S.kind S.names (thn (hi pins s σ H _ I h) fun v s1 h1=>thn h1 fun itv s2 h2=>?_);exact qet (s:=s) (H:=H) (use:=none) hc S hng hsub hall hb h2 fun acc C s' m H' hn L I' hC q=>⟨m,hn,fun h' hs'=>⟨.ref acc,H',L.turn I' hC hs',rfl,q⟩⟩
theorem qiW{i:Nat}{x:Str}{pos' spos:Pos}(hN:X.N.Nodup)(hix:X.N[i]? = some x)(hx:Loc X.env.scope x)(hc:X.calm=true)(S:zz X NY cap scope)(hi:PI X tgt it wi)
  (hb:∀cl C s₀ H₀ fp,PG (zr X NY scope cl C s₀ H₀ fp) tgt tg∧PTs (zr X NY scope cl C s₀ H₀ fp) ifs tt∧∀acc,PB (zr X NY scope cl C s₀ H₀ fp) (zO elt (⟨tgt,it,ifs,0⟩::gs) scope pos 0 (.ref acc) (zr X NY scope cl C s₀ H₀ fp).env) (tb acc))
  (hng:∀g'∈gs,g'.is_async=0:=by simp)
  (hsw:swapsWith (.ListComp elt (⟨tgt,it,ifs,0⟩::gs) scope pos) (some (.Name x pos')) spos.line X.env=pure true:=by rfl)
  (hf:X.fn x=true∨X.env.scope.names.lookup x=some .local:=by first|exact .inl rfl|exact .inr rfl|assumption)
  (hs:∀x,foldedSetIterable it X.env x=pure x:=by intro _;rfl) :
  PS X (.Assign [.Name x pos'] (.ListComp elt (⟨tgt,it,ifs,0⟩::gs) scope pos) spos) (qiN (qgm cap wi tg tt tb) (qci i)):=by
 intro pins s σ H D I h;obtain⟨cl,hcl,hsub,hall⟩:=qcW (env:=X.env) (scope:=scope) fun x hx hf=>I.ok.has x.1 (S.free x hx hf)
 rw [exec_Assign_Name_used _ _ _ _ hsw];refine wpAny_bind (wpAny_standAt (wpAny_bind ?_));show wpAny _ _ (do let _ ←comprehension (.ListComp elt (⟨tgt,it,ifs,0⟩::gs) scope pos) scope X.env _ (newList []) false (eval it X.env) (some (assign (.Name x pos') X.env))) _ _ s;refine wpAny_bind (wpAny_mono (wpAny_comprehension_free (use:=some (assign (.Name x pos') X.env)) (Q:=fun _ s'=>SP X pins D .next s') rfl hs hcl S.kind S.names (thn (hi pins s σ H _ I h) fun v s1 h1=>thn h1 fun itv s2 h2=>?_)) (fun _ s' q=>wpAny_pure (wpAny_pure q)) fun _ _ e=>e);refine qet (s:=s) (H:=H) (Q:=fun x H1=>qci i x σ H1 D.nx) (use:=some (assign (.Name x pos') X.env)) hc S hng hsub hall hb h2 fun acc C s' m H' hn L I1 hC q1=>?_
 show wpAny _ _ (assign (.Name x pos') X.env (.ref acc)) _ _ _;refine wpAny_assign_Name (qfK (v:=.ref acc) I1 hN hix hx rfl (fun s3 I3 ⟨a,hsa,ha⟩=>?_) hf);have hCa:C≠a:=by
  rcases ha with z|z
  ·rw [z];exact L.loc
  ·exact Ne.symm (L.cell x a z)
 exact⟨m,hn.sameBut hsa hCa,fun h' hsb=>⟨_,H',L.turn I3 hC hsb,q1⟩⟩
end
theorem zH.there{P:Program}{w:World}{H:Hp}{h:Heap}{a:Addr}{o:HO}(x:zH P w H h a o):∃u,h.get? a=some u:=by
 cases o with
 |lst xs=>obtain⟨_,_,_,_,e⟩:=x;exact⟨_,e⟩
 |tup xs=>obtain⟨_,_,_,o,e,_⟩:=x;exact⟨_,e⟩
 |dK kvs=>obtain⟨_,_,_,_,o,_,_,e,_⟩:=x;exact⟨_,e⟩
 |dT kvs=>obtain⟨_,_,_,_,o,_,_,e,_⟩:=x;exact⟨_,e⟩
 |set S n=>obtain⟨o,_,_,_,e,_⟩:=x;exact⟨_,e⟩
 |ins C dx fs=>obtain⟨_,_,_,e,_⟩:=x;exact⟨_,e⟩
 |own y=>obtain⟨_,e⟩:=x;exact⟨_,e⟩
 |xd fs=>obtain⟨_,⟨_,_,_,e,_⟩,_⟩:=x;exact⟨_,e⟩
 |rng lo hi=>obtain⟨_,_,_,e⟩:=x;exact⟨_,e⟩
 |frz ob u=>obtain⟨e,_⟩:=x;exact⟨_,e⟩
 |tbl ps=>exact⟨_,(show h.get? a=some _ from x)⟩
 |met f y=>exact⟨_,(show h.get? a=some _ from x)⟩
 |ext φ=>obtain⟨_,e,_⟩:=x;exact e
theorem HOk.free_of{P:Program}{w:World}{H:Hp}{h:Heap}{a:Addr}(x:HOk P w H h)(e:h.get? a=none):H a=none:=by
 cases q:H a with
 |none=>rfl
 |some o=>obtain⟨u,z⟩:=(x a o q).there;rw [e]at z;cases z
structure Apart(X:Cx)(pins:List (Addr×Obj))(H:Hp)(b:Addr):Prop where
 new:X.s₀.heap.get? b=none
 free:H b=none
 pin:∀p∈X.pn++pins,p.1≠b
structure qjj(X:Cx)(pins:List (Addr×Obj))(H:Hp)(h:Heap)(x:Addr)(cls:Value):Prop where
 me:Apart X pins H x
 tr:∃oe vs T oT ts a0,h.get? x=some oe∧oe.cls=cls∧vs[0]? = some a0∧oe.data=.fields vs∧vs[1]? = some (.ref T)∧T≠x∧h.get? T=some oT∧oT.data=.fields ts∧ts[3]? = some .none∧Apart X pins H T
structure Fly(h₀ h:Heap)(H:Hp)(x:Addr)(cls:Value):Prop where
 new:h₀.get? x=none
 free:H x=none
 tr:∃oe vs T oT ts a0,h.get? x=some oe∧oe.cls=cls∧vs[0]? = some a0∧oe.data=.fields vs∧vs[1]? = some (.ref T)∧T≠x∧h.get? T=some oT∧oT.data=.fields ts∧ts[3]? = some .none∧h₀.get? T=none∧H T=none
noncomputable def CX1(P:Program)(w:World):CXT:=fun outer H s E e s'=>
 ∃x cls H',e=.ref x∧s'.os=s.os∧AllBare s'.gens∧Un (frs outer) [] H H' s.heap s'.heap∧HOk P w H' s'.heap∧Fly s.heap s'.heap H' x cls∧E cls none H'
section
variable{X:Cx}{pins:List (Addr×Obj)}{σ:St}{H:Hp}{s:Shared}{x T:Addr}{cls:Value}
theorem Inv.stepN{h':Heap}{t':Nat}{ch:List Addr}(I:Inv X pins σ H s)(hex:X.ex=[])(hch:∀b∈ch,Apart X pins H b∧b≠X.env.locals∧(∀x c,X.env.cells.lookup x=some c→c≠b)∧b∉X.fs)
  (keep:∀b o,b∉frs X.stack→b≠X.env.locals→b∉X.fs→b∉ch→s.heap.get? b=some o→h'.get? b=some o)
  (slot:∀b o,(b∈frs X.stack∨b=X.env.locals∨b∈X.fs)→s.heap.get? b=some o→∃sl,h'.get? b=some {o with slots:=sl}) (there:∀b o,b∉ch→s.heap.get? b=some o→∃o',h'.get? b=some o') :
  Inv X pins σ H {s with heap:=h',toks:=t'}:=by
 have sub:∀b,b∈frs X.stack→b=X.env.locals∨b∈X.fs:=fun b hb=>List.mem_cons.mp (I.stkSub b hb)
 have keep':∀b o,b≠X.env.locals→b∉X.fs→b∉ch→s.heap.get? b=some o→h'.get? b=some o:=fun b o h1 h2 h3 e=>keep b o (fun z=>(sub b z).elim h1 h2) h1 h2 h3 e
 have neL:∀b o,X.s₀.heap.get? b=some o→b≠X.env.locals:=fun b o e=>Nat.ne_of_lt (Nat.lt_of_lt_of_le (Heap.lt_size e) I.ok.above)
 have neC:∀b o,X.s₀.heap.get? b=some o→b∉ch:=fun b o e hb=>by
  have:=(hch b hb).1.new;rw [e]at this;cases this
 have cellK:∀x c,X.env.cells.lookup x=some c→∀v,s.heap.IsCell c v→h'.IsCell c v:=fun x c e v ⟨o,ho,hd⟩=>by
  have nch:c∉ch:=fun z=>(hch c z).2.2.1 x c e rfl
  by_cases hc:c∈X.fs
  ·obtain⟨sl,q⟩:=slot c o (.inr (.inr hc)) ho;exact⟨_,q,hd⟩
  ·exact⟨o,keep' c o (I.cne x c e) hc nch ho,hd⟩
 have nex:∀b,b∉X.ex:=fun b=>by rw [hex];simp
 refine⟨I.ok,I.os,I.bare,⟨fun b o e n hb hx=>?_,fun b o e n hb hx=>?_,I.base.free,fun b o e hx=>?_,I.base.tups,I.base.frzs,I.base.tbls⟩,?_,fun x c e=>?_,I.free,I.freeC,fun p hp=>?_,fun b u e=>?_,I.len⟩
 ·exact keep' b o (neL b o e) hb (neC b o e) (I.base.keep b o e n hb hx)
 ·obtain⟨sl,e1⟩:=I.base.slot b o e n hb hx;obtain⟨sl',e2⟩:=slot b _ (.inr (.inr hb)) e1;exact⟨sl',e2⟩
 ·obtain⟨o',e1⟩:=I.base.there b o e hx;exact there b o' (neC b o e) e1
 ·obtain⟨m,hn,hl⟩:=I.loc;obtain⟨oL,es,ep,hoL,hdL,r⟩:=id hn;obtain⟨sl,eL⟩:=slot _ _ (.inr (.inl rfl)) hoL;refine⟨m,⟨_,es,ep,eL,hdL,r⟩,fun i x v e1 e2 e3=>?_⟩;obtain⟨u,ru,l⟩:=hl i x v e1 e2 e3;refine⟨u,ru,?_⟩;rcases l with l|⟨k,c,e,z⟩
  ·exact .inl l
  ·exact .inr ⟨k,c,e,cellK x c e _ z⟩
 ·obtain⟨v,z⟩:=I.cell x c e;exact⟨v,cellK x c e v z⟩
 ·obtain⟨e,n,ne,nf,d⟩:=I.pin p hp;exact⟨keep' p.1 p.2 ne nf (fun z=>(hch p.1 z).1.pin p hp rfl) e,n,ne,nf,d⟩
 ·have nfr:∀b,(∃u,H b=some u)→b≠X.env.locals∧b∉X.fs∧b∉ch:=fun b ⟨u,e⟩=>by
   refine⟨fun z=>?_,fun z=>?_,fun z=>?_⟩
   ·rw [z,I.free]at e;cases e
   ·obtain⟨_,o,ho,_⟩:=I.ok.funs.mem z;have:=I.base.free b o ho (I.ok.frf b z) (nex b);rw [e]at this;cases this
   ·have:=(hch b z).1.free;rw [e]at this;cases this
  refine(I.hok b u e).stay (fun c v hc q=>?_) (fun _ q=>q) fun _ _ q=>q
  have hc':∃u,H c=some u:=by
   rcases hc with z|z
   ·exact⟨u,by rw [z];exact e⟩
   ·exact⟨_,z⟩
  obtain⟨n1,n2,n3⟩:=nfr c hc';exact keep' c v n1 n2 n3 q
theorem Inv.rec_ne(I:Inv X pins σ H s){b:Addr}{o:Obj}{vs:Array Value}(e:s.heap.get? b=some o)(d:o.data=.fields vs):b≠X.env.locals∧(∀x c,X.env.cells.lookup x=some c→c≠b)∧b∉X.fs∧b∉frs X.stack:=by
 have h1:b≠X.env.locals:=fun z=>by
  obtain⟨m,⟨o',es,ep,ho,hd,_⟩,_⟩:=I.loc;rw [←z,e]at ho;cases ho;rw [d]at hd;cases hd
 have h3:b∉X.fs:=fun z=>by
  obtain⟨_,o',ho,hn⟩:=I.funs.mem z;rw [e]at ho;cases ho;exact hn vs d
 refine⟨h1,fun x c ec z=>?_,h3,fun z=>(List.mem_cons.mp (I.stkSub b z)).elim h1 h3⟩;obtain⟨v,o',ho,hd⟩:=I.cell x c ec;rw [z,e]at ho;cases ho;rw [d]at hd;cases hd
theorem qjj.flying(I:Inv X pins σ H s)(F:qjj X pins H s.heap x cls):∃T oT ts a0,Heap.FlyingW (PySem.W.hideAll s.heap (x::T::frs X.stack)) X.stack x cls a0 s.heap∧s.heap.get? T=some oT∧oT.data=.fields ts∧Apart X pins H T:=by
 obtain⟨oe,vs,T,oT,ts,a0,e1,e2,e3,e4,e5,e6,e7,e8,e9,e10⟩:=F.tr;refine⟨T,oT,ts,a0,⟨fun b o q=>PySem.W.of_hideAll _ q,PySem.W.hideAll_none _ List.mem_cons_self,?_,oe,vs,T,oT,ts,e1,⟨e2,e3⟩,e4,e5,PySem.W.hideAll_none _ (List.mem_cons_of_mem _ List.mem_cons_self),e6,e7,e8,e9⟩,e7,e8,e10⟩;exact PySem.W.funFrames_hide I.stack fun env he a ha=>List.mem_cons_of_mem _ (List.mem_cons_of_mem _ (List.mem_filterMap.mpr ⟨env,he,ha⟩))
theorem qjj.back(I:Inv X pins σ H s)(hex:X.ex=[])(me:Apart X pins H x){ox:Obj}{vs:Array Value}(hx:s.heap.get? x=some ox)(hxd:ox.data=.fields vs){oT:Obj}{ts:Array Value}(hT:s.heap.get? T=some oT)(hTd:oT.data=.fields ts)(aT:Apart X pins H T)
  {l:List Env}{a0:Value}{h':Heap} (W:Heap.FlyingW (PySem.W.hideAll s.heap (x::T::frs X.stack)) l x cls a0 h') (u:s.heap.UpToSlots h') :
  Inv X pins σ H {s with heap:=h'}∧qjj X pins H h' x cls:=by
 obtain⟨w1,w2,w3,oe',vs',T',oT',ts',f1,⟨f2,f3⟩,f4,f5,f6,f7,f8,f9,f10⟩:=W;obtain⟨nx1,nx2,nx3,nx4⟩:=I.rec_ne hx hxd;obtain⟨nt1,nt2,nt3,nt4⟩:=I.rec_ne hT hTd;have frd:∀b o,(b∈frs X.stack∨b=X.env.locals∨b∈X.fs)→s.heap.get? b=some o→∀ws,o.data≠.fields ws:=fun b o hb e ws d=>by
  obtain⟨n1,n2,n3,n4⟩:=I.rec_ne e d;rcases hb with z|z|z
  ·exact n4 z
  ·exact n1 z
  ·exact n3 z
 have nch:∀b,b∉[x,T]→b∉frs X.stack→b∉(x::T::frs X.stack):=fun b h1 h2 h3=>by
  rcases List.mem_cons.mp h3 with z|h3
  ·exact h1 (by simp [z])
  ·rcases List.mem_cons.mp h3 with z|h3
   ·exact h1 (by simp [z])
   ·exact h2 h3
 refine⟨?_,me,oe',vs',T',oT',ts',a0,f1,f2,f3,f4,f5,f7,f8,f9,f10,?_⟩
 ·refine I.stepN (t':=s.toks) (ch:=[x,T]) hex (fun b hb=>?_) (fun b o h1 h2 h3 h4 e=>w1 b o (PySem.W.hideAll_get _ e (nch b h4 h1))) (fun b o hb e=>u b o e (frd b o hb e)) fun b o h4 e=>?_
  ·rcases List.mem_cons.mp hb with z|hb
   ·subst z;exact⟨me,nx1,nx2,nx3⟩
   ·have z:b=T:=by simpa using hb
    subst z;exact⟨aT,nt1,nt2,nt3⟩
  ·by_cases hb:b∈frs X.stack
   ·obtain⟨sl,q⟩:=u b o e (frd b o (.inl hb) e);exact⟨_,q⟩
   ·exact⟨o,w1 b o (PySem.W.hideAll_get _ e (nch b h4 hb))⟩
 ·by_cases hTT:T'=T
  ·rw [hTT];exact aT
  ·by_cases hTf:T'∈frs X.stack
   ·obtain⟨_,o,ho,hn⟩:=I.stack.mem hTf;obtain⟨sl,q⟩:=u T' o ho hn;rw [q]at f8;have z:({o with slots:=sl}:Obj)=oT':=Option.some.inj f8;subst z;exact absurd f9 (hn ts')
   ·have hnone:s.heap.get? T'=none:=by
     cases q:s.heap.get? T' with
     |none=>rfl
     |some o=>
      have:(PySem.W.hideAll s.heap (x::T::frs X.stack)).get? T'=some o:=PySem.W.hideAll_get _ q (nch T' (by simp [f7,hTT]) hTf);rw [f6]at this;cases this
    refine⟨?_,I.hok.free_of hnone,fun p hp z=>?_⟩
    ·cases q:X.s₀.heap.get? T' with
     |none=>rfl
     |some o=>
      obtain⟨o',e'⟩:=I.base.there T' o q (by rw [hex];simp);rw [hnone]at e';cases e'
    ·have:=(I.pin p hp).1;rw [z,hnone]at this;cases this
theorem qnN{P:Program}{w:World}(hP:X.prog=P)(hw:X.w=w)(I:Inv X pins σ H s)(hex:X.ex=[]){E:XK}{e:Value}{s':Shared}(h:CX1 P w X.stack H s E e s') :
  ∃x cls H',e=.ref x∧Inv X pins σ H' s'∧qjj X pins H' s'.heap x cls∧E cls none H':=by
 subst hP hw;obtain⟨x,cls,H',rfl,os,bare,un,hok,F,q⟩:=h;have ap:∀b,s.heap.get? b=none→H' b=none→Apart X pins H' b:=fun b h1 h2=>by
  refine⟨?_,h2,fun p hp z=>?_⟩
  ·cases q:X.s₀.heap.get? b with
   |none=>rfl
   |some o=>
    obtain⟨o',e'⟩:=I.base.there b o q (by rw [hex];simp);rw [h1]at e';cases e'
  ·have:=(I.pin p hp).1;rw [z,h1]at this;cases this
 obtain⟨oe,vs,T,oT,ts,a0,e1,e2,e3,e4,e5,e6,e7,e8,e9,e10,e11⟩:=F.tr;exact⟨x,cls,H',rfl,I.call' (ch:=[]) os un hok bare (fun b z=>absurd z (by simp)),⟨ap x F.new F.free,oe,vs,T,oT,ts,a0,e1,e2,e3,e4,e5,e6,e7,e8,e9,ap T e10 e11⟩,q⟩
theorem qjj.leaves(I:Inv X pins σ H s)(hex:X.ex=[]){env:Env}{outer:List Env}(hst:X.stack=X.env::X.outer)(hfr:X.env.frame=some X.env.locals)(F:qjj X pins H s.heap x cls){E:XK}(q:E cls none H)
  {EE:Value→Shared→Prop}:wpAny (model X.prog X.w) X.A (leaving X.env (.ref x)) (fun _ s''=>CX1 X.prog X.w X.outer X.H₀ X.s₀ E (.ref x) s'') EE s:=by
 obtain⟨oe,vs,_,_,_,_,e1,_,_,e4,_⟩:=id F.tr;obtain⟨T,oT,ts,a0,W,hT,hTd,aT⟩:=qjj.flying I F;have hfrm:=I.ok.frames;rw [hst]at hfrm W;refine wpAny_leaves_onW hfrm hfr W fun h' W' u=>?_
 rw [←hst]at W';obtain⟨I',F'⟩:=qjj.back I hex F.me e1 e4 hT hTd aT W' u;obtain⟨oe',vs',T',oT',ts',a0',f1,f2,f3,f4,f5,f6,f7,f8,f9,f10⟩:=F'.tr;have hb:=I'.base;rw [hex]at hb;exact⟨x,cls,H,rfl,I'.os,I'.bare,hb,I'.hok,⟨F'.me.new,F'.me.free,oe',vs',T',oT',ts',a0',f1,f2,f3,f4,f5,f6,f7,f8,f9,f10.new,f10.free⟩,q⟩
end
section
variable{P:Program}{w:World}{K:PySem.W.Frag}{mg:Str→Option Value}{base:Heap}{N:List Str}{qual:Str}{scope:Scope}{f:Addr}{cd:Value}{A:Around}{outer:List Env}{s₀:Shared}{H₀:Hp}{E:XK}
theorem qrv:Passes (CX1 P w) (qcV (CX1 P w) P w K mg base N qual scope f cd A outer s₀ H₀ E) E:=by
 intro pins σ H s e s' I h;obtain⟨x,cls,H',rfl,I',F,q⟩:=qnN rfl rfl I rfl h;exact qjj.leaves (env:=(qcV (CX1 P w) P w K mg base N qual scope f cd A outer s₀ H₀ E).env) (outer:=outer) I' rfl rfl rfl F q
theorem qkB{X:Cx}(hP:X.prog=P)(hw:X.w=w):Passes (CX1 P w) X E0:=by
 intro pins σ H s e s' I h;obtain⟨x,cls,H',rfl,_,_,_,_,_,q⟩:=h;exact q.elim
noncomputable def Throws(X:Cx)(E:XK):Prop:=∀(pins:List (Addr×Obj)) (σ:St) (H:Hp) (s:Shared) (h':Heap) (e:Addr) (cls:Value) (args:List Value),Inv X pins σ H s→Heap.MadeExcOf s.heap h' e cls args→E cls none H→X.xe (.ref e) {s with heap:=h'}
end
abbrev qcn:List Value:=[.type "ValueError",.type "Exception",.type "BaseException",.type "object"]
noncomputable def qkb(K:PySem.W.Frag)(C:Addr):Prop:=PySem.W.excIn K C qcn "ValueError.__new__" = true
section
variable{X:Cx}{C:Addr}{x:Str}{E:XK}{t:TA}{e:Expr}{es:List Expr}{np cpos pos:Pos}
end
structure qew(k:Nat)(A:Around):Prop where
 dp:A.depth+3 * k+5<recursionLimit
 un:A.units+16 * k+200<cLine
theorem qaY.u{k:Nat}{A:Around}(r:qaY k A):qew k A:=⟨r.dp,r.un⟩
structure qja(P:Program)(w:World)(K:PySem.W.Frag)(mg:Str→Option Value)(base:Heap)(CX:CXT)(k:Nat)(f:Addr)(fd:FuncData)(ps:List Str)(sp:Sp):Prop where
 len:∀vs H Q E,sp vs H Q E→vs.length=ps.length
 run:∀(A:Around) (outer:List Env) (s:Shared) (H:Hp) (args:Args) (us:List Value) (vs:List V) (Q:VK) (E:XK),qew k A→qhy P w K mg base A outer s H→BindsTo s fd args (ps.zip us)→Vals vs us→sp vs H Q E →
  codeAny (model P w) A (.call (.ref f) args) (CR CX outer P w H s Q E) s
section
variable{CX:CXT}{P:Program}{w:World}{K:PySem.W.Frag}{mg:Str→Option Value}{base:Heap}{k:Nat}{f:Addr}{fd:FuncData}{ps:List Str}{sp:Sp}
end
section
variable{X:Cx}{CX:CXT}{k:Nat}{f:Addr}{fd:FuncData}{ps:List Str}{sp:Sp}{dvs:List V}{ds:List Value}{E:XK}{x:Str}{p pos:Pos}{e:Expr}{es:List Expr}{t:TA}
theorem qnW{pins:List (Addr×Obj)}{σ:St}{H:Hp}{s:Shared}{Q:VK}{us:List Value}{vs:List V}(F:qja X.prog X.w X.K X.mg X.base CX k f fd ps sp)(hr:qew k X.A)(hb:Binds X.K fd ps ds)(hd:Vals dvs ds)(hx:Passes CX X E)
  (I:Inv X pins σ H s) (r:Vals vs us) (h:sp (vs++dvs) H Q E):wpAny (model X.prog X.w) X.A (call (.ref f) us) (EP X pins σ Q) X.xe s:=by
 have r2:Vals (vs++dvs) (us++ds):=r.append hd;have hl:(us++ds).length=ps.length:=by rw [←r2.length];exact F.len _ _ _ _ h
 refine wpAny_call (codeAny_mono (F.run X.A X.stack s H ⟨us,[]⟩ (us++ds) (vs++dvs) Q E hr I.env0 (hb s us I.kIn hl) r2 h) fun r s' hq=>?_);cases r with
 |error e=>exact hx pins σ H s e s' I hq
 |ok fl=>
  cases fl with
  |ret u=>exact I.after hq
  |next=>exact False.elim hq
  |brk=>exact False.elim hq
  |cont=>exact False.elim hq
theorem qlP(F:qja X.prog X.w X.K X.mg X.base CX k f fd ps sp)(hr:qew k X.A)(hg:Gl X x)(hm:X.mg x=some (.ref f))(hk:PySem.W.keepIn X.K (.ref f)=true)(hb:Binds X.K fd ps ds)(hd:Vals dvs ds)(hx:Passes CX X E)
  (ha:PA X (e::es) t) (hdb:(x==("__debug__" : Str))=false:=by decide) (he:starEach (e::es) X.env=(false,eval e X.env)::starEach es X.env:=by rfl) (hpl:(backTo pos (starEach es X.env)).any (·.1)=false:=by rfl) :
  PE X (.Call (.Name x p) (e::es) [] pos) (qjE sp dvs E t):=by
 intro pins s σ H Q I h;refine wpAny_Call_Name_kw (qeJ I hg hm ?_ hdb);refine PySem.W.callWith_K (h₀:=X.base) I.ok.mod.kin hk (thn (ha pos pins s σ H _ I h) fun us s1 ⟨vs,H1,I1,r,q⟩=>⟨I1.kIn,?_⟩) he hpl;exact qnW F hr hb hd hx I1 r q
end
noncomputable def qml(x:Addr)(cls:Value):HO:=.ext fun h=>∃o vs,h.get? x=some o∧o.cls=cls∧o.data=.fields vs
section
variable{X:Cx}{pins:List (Addr×Obj)}{σ:St}{H:Hp}{s:Shared}
end
end L2
namespace L2
open PySem PySem.Spec PyProof.Rows PySem.W PySem.Calls Builtin Builtin.ObjectAttr Builtin.Getset_descriptor
structure qaz(K:Frag)(C:Addr):Prop where
 ga:findIn K (.ref C) "__getattribute__" = some (some (.builtin "BaseException.__getattribute__"))
 gt:findIn K (.ref C) "__getattr__" = some none
 gc:findIn K (.ref C) "__class__" = some (some (.builtin "object.__class__"))
 mb:mroIn K C (.type "BaseException")=some true
 mo:mroIn K C (.type "object")=some true
 cl:∃c dd cd sl,K.lookup C=some ⟨c,dd,.cls cd,sl⟩
section
variable{prog:Program}{w:World}{A:Around}{E:Value→Shared→Prop}{h:Heap}{g:Array GenState}{d:Drawn}{t:Nat}{os:OsState}{x C:Addr}{K:Frag}
theorem qfW{R:Result→Shared→Prop}{tp:Value}(Z:K.In h)(S:qaz K C)(L0:Looks (model prog w) h (typeOf (.ref x)) (.ref C))(hx:∃o,h.get? x=some o∧o.cls=.ref C)(hq:R (.ok (.ret (.ref C))) ⟨h,g,d,t,os⟩) :
  codeAny (model prog w) A (.call (.builtin "getset_descriptor.__get__") ⟨[.builtin "object.__class__",.ref x,tp],[]⟩) R ⟨h,g,d,t,os⟩:=by
 have L1:=looks_mroIn (M:=model prog w) Z S.mo;obtain⟨o,ho,hc⟩:=hx;refine codeAny_call_builtin KF.slot_gs.plain KF.entry_gs (KF.slot_gs.check _ _ _ _ _ _ _ _ KF.type_class (KF.args_gs _ _ _) ?_);unfold Builtin.«getset_descriptor.__get__» descrGet;rw [dga_obj];refine wpAny_bind (wpAny_pure ?_);unfold descrGetter descrCheckInstance descrNameAndClass isInstance;simp only [KF.owner_class]
 repeat lk
 refine⟨Code.quiet_builtin _ (by decide +kernel),codeAny_builtin KF.entry_class ?_⟩;unfold Builtin.«object.__class__» shownTypeOf
 repeat lk
 exact hq
theorem qgA{M:Model}{nameV:Value}{Q:Unit→Shared→Prop}(Z:K.In h)(S:qaz K C)(L0:Looks M h (typeOf (.ref x)) (.ref C))(hq:Q () ⟨h,g,d,t,os⟩) :
  wpAny M A (checkBuiltinCall "BaseException.__getattribute__" ⟨[.ref x,nameV],[]⟩) Q E ⟨h,g,d,t,os⟩:=by
 have hk:builtinKind "BaseException.__getattribute__" = some .slot:=by decide +kernel
 have hsplit:splitId "BaseException.__getattribute__" = some ("BaseException","__getattribute__"):=by decide +kernel
 have L1:=looks_mroIn (M:=M) Z S.mb;have ha:=F.args_bexc_ga (.ref x) nameV;simp only [checkBuiltinCall,hk,hsplit];refine wpAny_bind ?_;unfold isInstance
 repeat (first|assumption|lk|wp_step)
theorem qki{tk:Tok}{Q:Fin→Shared→Prop}(Z:K.In h)(S:qaz K C)(L0:Looks (model prog w) h (typeOf (.ref x)) (.ref C))(hx:∃o,h.get? x=some o∧o.cls=.ref C)(hq:Q (.done (.ret (.ref C))) ⟨h,g,d,t,os⟩) :
  wpAny (model prog w) A (Builtin.«object.__getattribute__» ⟨[.ref x,.str "__class__" tk],[]⟩) Q E ⟨h,g,d,t,os⟩:=by
 have hT5:(⟨h,g,d,t,os⟩:Shared).TypeIs (.builtin "object.__class__") "getset_descriptor":=F.typeOf_object_class;have L2:=looks_findIn (M:=model prog w) Z S.gc;have f5:=F.typeOf_object_class;have f6:=F.slot_gs_get.lookup;have f7:=F.slot_gs_set.lookup
 repeat (any_goals (first|assumption|with_reducible refine L0.at ?_|with_reducible refine wpAny_bind (L0.at ?_)|with_reducible refine L2.at ?_|with_reducible refine wpAny_bind (L2.at ?_)|wp_step))
 refine qfW Z S L0 hx ?_
 repeat (any_goals (first|assumption|wp_step))
theorem qqw{tk:Tok}{Q:Value→Shared→Prop}(Z:K.In h)(S:qaz K C)(L0:Looks (model prog w) h (typeOf (.ref x)) (.ref C))(hx:∃o,h.get? x=some o∧o.cls=.ref C)(hq:Q (.ref C) ⟨h,g,d,t,os⟩) :
  wpAny (model prog w) A (getAttrBy (.ref x) (.str "__class__" tk) false) Q E ⟨h,g,d,t,os⟩:=by
 have f3:=F.attr_ValueError.ga.bind (.ref x);have hx2:(Value.builtin "BaseException.__getattribute__" == Value.builtin "object.__getattribute__")=false:=by decide +kernel
 have hx1:(onTheHeap (Value.ref C)&&Value.builtin "BaseException.__getattribute__" == Value.builtin "object.__getattribute__")=false:=by rw [hx2];rfl
 have L2:=looks_findIn (M:=model prog w) Z S.ga;have L3:=looks_findIn (M:=model prog w) Z S.gt
 repeat (any_goals (first|assumption|with_reducible refine L0.at ?_|with_reducible refine wpAny_bind (L0.at ?_)|with_reducible refine L2.at ?_|with_reducible refine wpAny_bind (L2.at ?_)|with_reducible refine L3.at ?_|with_reducible refine wpAny_bind (L3.at ?_)|wp_step))
 refine codeAny_call_builtin F.attr_ValueError.ga.plain F.entry_bexc_ga (qgA Z S L0 (qki Z S L0 hx ?_))
 repeat (any_goals (first|assumption|wp_step))
theorem qlK{Q:Option Value→Shared→Prop}(Z:K.In h)(S:qaz K C)(L0:Looks (model prog w) h (typeOf (.ref x)) (.ref C))(hx:∃o,h.get? x=some o∧o.cls=.ref C)(hq:Q (some (.ref C)) ⟨h,g,d,t+1,os⟩) :
  wpAny (model prog w) A (getAttr? (.ref x) "__class__") Q E ⟨h,g,d,t,os⟩:=by
 unfold getAttr? getAttrBy?
 repeat (any_goals (first|assumption|with_reducible apply qqw Z S L0 hx|wp_step))
end
end L2
namespace L2
open PySem PySem.Spec PyProof.Rows
structure qtu(prog:Program)(w:World)(xs:Array Value)(i l:Addr)(P:Nat→Heap→Prop):Prop where
 fr:∀k h h',P k h→(∀o,h.get? i=some o→h'.get? i=some o)→(∀o,h.get? l=some o→h'.get? l=some o)→P k h'
 nx:∀{A:Around} (k:Nat) (x:Value) (s:Shared) (Q:Value→Shared→Prop) (E:Value→Shared→Prop),P k s.heap→xs[k]? = some x→(∀h',P (k+1) h'→Heap.SameBut i s.heap h'→Q x {s with heap:=h'})→wpAny (model prog w) A (Builtin.SmallTypes.nextOf (.ref i)) Q E s
 en:∀{A:Around} (k:Nat) (s:Shared) (Q:Value→Shared→Prop) (E:Value→Shared→Prop),A.handled=none→P k s.heap→xs[k]? = none →
  (∀h' e,Heap.ExtBut i s.heap h'→(∃o,h'.get? e=some o∧o.cls=.type "StopIteration")→E (.ref e) {s with heap:=h'})→wpAny (model prog w) A (Builtin.SmallTypes.nextOf (.ref i)) Q E s
 at_:∀k h,P k h→∃o,h.get? i=some o∧∃vs,o.data=.fields vs
section
variable{prog:Program}{w:World}{A:Around}{E:Value→Shared→Prop}{s:Shared}
end
section
variable{prog:Program}{w:World}{A:Around}{E:Value→Shared→Prop}{s:Shared}{z TI TO i1 i2 l1 l2:Addr}{k:Nat}{xs ys:Array Value}{P1 P2:Nat→Heap→Prop}
structure ZAp(z TI TO i1 i2 l1 l2:Addr):Prop where
 d:ZipApart z TI TO i1 i2 l1 l2
end
section
variable{X:Cx}{pins:List (Addr×Obj)}{σ:St}{H:Hp}{s:Shared}{h':Heap}{tk:Nat}
theorem Inv.turnNew{ch:List Addr}{p:Addr}{vs:List V}{its:List Value}(I:Inv X pins σ H s)(hf:∀b∈ch,qbp X pins H b)(k:∀b o,b∉ch→s.heap.get? b=some o→h'.get? b=some o)
  (hp:s.heap.objs.size≤p) (ht:IsTup h' p its.toArray) (r:Vals vs its) (hz:vs.length≤sizeLine):Inv X pins σ (upd H p (.tup vs)) {s with heap:=h',toks:=tk}:=by
 have hpn:H p=none:=I.hok.fresh hp;have nch:∀b u,H b=some u→b∉ch:=fun b u e z=>by have:=(hf b z).1;rw [e]at this;cases this
 have np:∀b u,H b=some u→b≠p:=fun b u e z=>by rw [z,hpn]at e;cases e
 refine I.step (g':=s.gens) (d':=s.drawn) (ch:=ch) (fun b hb=>?_) (fun b o _ _ hc e _=>k b o hc e) (fun b o _ _ hc e _=>⟨o.slots,k b o hc e⟩) (fun b o hc e n=>?_) (fun b o hc e=>⟨o,k b o hc e⟩)
  (fun b xs e=>by rw [qm (np b _ e)];exact e) (fun b o u e=>by rw [qm (np b _ e)];exact e) (fun b ps e=>⟨#[],by rw [qm (np b _ e),e];simp⟩) (fun m hm=>?_) (fun b u e=>?_) I.bare
 ·obtain⟨f0,f1,f2,f3,f4,f5⟩:=hf b hb;exact⟨f3,f1,f4,f5⟩
 ·rw [qm (Nat.ne_of_lt (Nat.lt_of_lt_of_le (Heap.lt_size e) hp))];exact n
 ·obtain⟨o,es,ep,ho,r⟩:=hm;exact⟨o,es,ep,k _ o (fun z=>(hf _ z).2.1 rfl) ho,r⟩
 ·by_cases hb:b=p
  ·subst hb;rw [zm]at e;cases e;exact⟨hz,its,r,ht⟩
  ·rw [qm hb]at e;refine(I.hok b u e).stay (fun c v hc q=>k c v ?_ q) (fun c q=>by rw [qm (np c _ q)];exact q) fun c xs q=>by rw [qm (np c _ q)];exact q
   rcases hc with z|z
   ·rw [z];exact nch b u e
   ·exact nch c _ z
theorem Inv.turnAll{ch:List Addr}(I:Inv X pins σ H s)(hf:∀b∈ch,qbp X pins H b)(k:∀b o,b∉ch→s.heap.get? b=some o→h'.get? b=some o):Inv X pins σ H {s with heap:=h',toks:=tk}:=by
 have nch:∀b u,H b=some u→b∉ch:=fun b u e z=>by have:=(hf b z).1;rw [e]at this;cases this
 refine I.step (g':=s.gens) (d':=s.drawn) (ch:=ch) (fun b hb=>?_) (fun b o _ _ hc e _=>k b o hc e) (fun b o _ _ hc e _=>⟨o.slots,k b o hc e⟩) (fun b o hc e n=>n) (fun b o hc e=>⟨o,k b o hc e⟩)
  (fun b xs e=>e) (fun b o u e=>e) (fun b ps e=>⟨#[],by rw [e];simp⟩) (fun m hm=>?_) (fun b u e=>?_) I.bare
 ·obtain⟨f0,f1,f2,f3,f4,f5⟩:=hf b hb;exact⟨f3,f1,f4,f5⟩
 ·obtain⟨o,es,ep,ho,r⟩:=hm;exact⟨o,es,ep,k _ o (fun z=>(hf _ z).2.1 rfl) ho,r⟩
 ·refine(I.hok b u e).stay (fun c v hc q=>k c v ?_ q) (fun c q=>q) fun c xs q=>q
  rcases hc with z|z
  ·rw [z];exact nch b u e
  ·exact nch c _ z
end
section
variable{prog:Program}{w:World}{A:Around}{E:Value→Shared→Prop}{s:Shared}
end
theorem qlx{K:PySem.W.Frag}{x C:Addr}(S:qaz K C):PySem.W.KitX K (.ref x) (.ref C) (fun h=>∃o,h.get? x=some o∧o.cls=.ref C) where
 ty:=fun M h _ ⟨o,e,c⟩=>c▸(PySem.W.Looks.ld e).andThen .now
 it:=fun _ _ Z _=>by
  obtain⟨c,dd,cd,sl,e⟩:=S.cl;intro A' Q' E' s' k q;unfold isType loadHead;exact wpAny_bind (wpAny_loadPart (k _ _ (Z _ _ e)) (wpAny_pure q))
 ne:=fun h tp dd its n sl Z htp=>by
  obtain⟨c,dd',cd,sl',e⟩:=S.cl;refine Bool.eq_false_iff.mpr fun q=>?_
  have e1:C=tp:=Value.ref.inj (beq_iff_eq.mp q);subst e1;have z:=(Z _ _ e).symm.trans htp;cases z
 ca:=fun {prog w A E Q s} Z ⟨o,e,c⟩ k=>by
  obtain⟨hh,g,d,t,os⟩:=s;exact qlK Z S (c▸(PySem.W.Looks.ld e).andThen .now) ⟨o,e,c⟩ k
noncomputable def qlC:V→Option Value
 | .ty n=>some (.type n)
 | .ref a=>some (.ref a)
 |_=>none
noncomputable def TyX(K:PySem.W.Frag)(H:Hp)(x:V)(t:Value):Prop:=qbn K H x t∨∃a C,x=.ref a∧t=.ref C∧H a=some (qml a (.ref C))∧qaz K C
theorem qlO{X:Cx}:qT X (.builtin "isinstance") (fun xs H Q=>∃x c cv t b,xs=[x,c]∧qlC c=some cv∧TyX X.K H x t∧PySem.W.kitOne X.K t cv=some b∧Q (.bl b) H):=by
 intro pins s σ H xs us Q I r h;obtain⟨x,c,cv,t,b,rfl,hc,ty,hk,q⟩:=h;obtain⟨u,cu,rfl,rx,rc⟩:=r.two;have e:cu=cv:=by
  cases c with
  |ty n=>cases hc;exact rc
  |ref a=>cases hc;exact rc
  |_=>cases hc
 subst e;rcases ty with ty|⟨a,C,rfl,rfl,ha,S⟩
 ·exact qaP I rx ty hk fun tk=>⟨.bl b,H,I.tok tk,rfl,q⟩
 ·cases rx;obtain⟨⟨o,vs,e1,e2,e3⟩,_⟩:=(show zH X.prog X.w H s.heap a (qml a (.ref C))from I.hok a _ ha)
  exact PySem.W.kia_one (qlx S) I.kIn ⟨o,e1,e2⟩ hk (fun z=>nomatch z) fun tk=>⟨.bl b,H,I.tok tk,rfl,q⟩
theorem qoR{K:PySem.W.Frag}{T:String}:PySem.W.kitOne K (.type T) (.type T)=some true:=by unfold PySem.W.kitOne;rw [if_pos (by simp)]
theorem qoL{K:PySem.W.Frag}{a T:String}{b:Bool}(hne:(Value.type a==Value.type T)=false)(hm:PySem.W.kitMeta T=true)(hf:(fastBuiltinMro a).map (·.contains (.type T))=some b):PySem.W.kitOne K (.type a) (.type T)=some b:=by
 unfold PySem.W.kitOne PySem.W.kitCls PySem.W.subIn;rw [if_neg (by rw [hne];exact Bool.false_ne_true)];dsimp only;rw [if_pos hm];exact hf
noncomputable def qdK(a T:String):Bool:=a==T||(a == "bool" && T == "int")
theorem qoV{K:PySem.W.Frag}{a T:String}(ha:a∈["NoneType","bool","int","str","list","tuple","dict"])(hT:T∈["int","bool","str","list","tuple"]):PySem.W.kitOne K (.type a) (.type T)=some (qdK a T):=by
 simp only [List.mem_cons,List.not_mem_nil,or_false]at ha hT;rcases ha with rfl|rfl|rfl|rfl|rfl|rfl|rfl<;>rcases hT with rfl|rfl|rfl|rfl|rfl<;>first|exact qoR|exact qoL (by decide +kernel) (by decide +kernel) (by decide +kernel)
noncomputable def ltP(p q:Int×Int):Bool:=if p.1=q.1 then decide (p.2<q.2)else decide (p.1<q.1)
section
variable{prog:Program}{w:World}{A:Around}{E:Value→Shared→Prop}{s:Shared}
end
theorem qnl{h:Heap}{a:Addr}{m m':Str→Option Value}(x:h.Ns a m)(y:h.Ns a m'):m=m':=by
 obtain⟨o,es,ep,e1,e2,_,e4⟩:=x;obtain⟨o',es',ep',f1,f2,_,f4⟩:=y;rw [e1]at f1;cases f1;rw [e2]at f2;cases f2;funext n;rw [←e4,←f4]
theorem Inv.newList{X:Cx}{pins:List (Addr×Obj)}{σ:St}{H:Hp}{s s':Shared}{D:Addr}{out:List V}{its:List Value}{c:Nat}(I:Inv X pins σ H s)(hos:s'.os=s.os)(hg:s'.gens=s.gens)
  (k:∀b o,b≠X.env.locals→s.heap.get? b=some o→s'.heap.get? b=some o) (ns:∀m,s.heap.Ns X.env.locals m→s'.heap.Ns X.env.locals m) (hD:s.heap.get? D=none) (hDL:D≠X.env.locals)
  (hl:s'.heap.get? D=some {cls:=.type "list",data:=.seq its.toArray c}) (r:Vals out its) (hz:out.length≤sizeLine):Inv X pins σ (upd H D (.lst out)) s':=by
 obtain⟨h',g',d',t',o'⟩:=s';have eo:o'=s.os:=hos;have eg:g'=s.gens:=hg;subst eo eg;have hpn:H D=none:=I.hok.free_of hD;have np:∀b u,H b=some u→b≠D:=fun b u e z=>by rw [z,hpn]at e;cases e
 obtain⟨m0,n0,_⟩:=id I.loc;obtain⟨oL,es,ep,hoL,_⟩:=id n0;obtain⟨oL',es',ep',hoL',_⟩:=ns _ n0;refine I.step (g':=s.gens) (d':=d') (ch:=[]) (fun b hb=>absurd hb (by simp)) (fun b o hL _ _ e _=>k b o hL e) (fun b o hL _ _ e _=>⟨o.slots,k b o hL e⟩) (fun b o _ e n=>?_) (fun b o _ e=>?_)
  (fun b xs e=>by rw [qm (np b _ e)];exact e) (fun b o u e=>by rw [qm (np b _ e)];exact e) (fun b ps e=>⟨#[],by rw [qm (np b _ e),e];simp⟩) ns (fun b u e=>?_) I.bare
 ·rw [qm (fun z=>by rw [z,hD]at e;cases e)];exact n
 ·by_cases hL:b=X.env.locals
  ·exact⟨oL',by rw [hL];exact hoL'⟩
  ·exact⟨o,k b o hL e⟩
 ·by_cases hb:b=D
  ·subst hb;rw [zm]at e;cases e;exact⟨hz,its,c,r,hl⟩
  ·rw [qm hb]at e;have nl:∀c,(∃u,H c=some u)→c≠X.env.locals:=fun c ⟨u,e⟩ z=>by rw [z,I.free]at e;cases e
   refine(I.hok b u e).stay (fun c v hc q=>k c v (nl c ?_) q) (fun c q=>by rw [qm (np c _ q)];exact q) fun c xs q=>by rw [qm (np c _ q)];exact q
   rcases hc with z|z
   ·exact⟨u,by rw [z];exact e⟩
   ·exact⟨_,z⟩
section
variable{prog:Program}{w:World}{A:Around}{E:Value→Shared→Prop}{s:Shared}
theorem qjP{a:Addr}{vs:List Value}{P:Fin→Shared→Prop}(hoL:s.heap.get? a=some (seqObj "list" vs.toArray 0))(h2:vs.length<2)(h:P (.done (.ret .none)) {s with heap:=sortedHeap s.heap a vs vs.toArray}) :
  wpAny (model prog w) A (Builtin.«list.sort» ⟨[.ref a],[]⟩) P E s:=by
 rw [list_sort_plain];refine wpAny_bind (listItems_at  hoL rfl ?_);refine wpAny_bind (listUpdate_at  hoL rfl ?_ (by rw [List.size_toArray,sizeLine_eq];lia) (Nat.zero_le _));obtain⟨e1,ho1⟩:∃e1,(s.heap.update a (Obj.mapSeq fun _=>#[])).get? a=some (seqObj "list" #[] e1):=⟨_,get?_update_seq hoL (fun _=>#[])⟩
 refine wpAny_bind (seqEpoch_at ho1 rfl ?_);refine wpAny_bind (wpAny_newTuple ?_ (by show vs.length≤_;rw [sizeLine_eq];lia));refine wpAny_bind (wpAny_newList ?_ (Nat.zero_le _));refine wpAny_holding ?_;have hlt:a<s.heap.objs.size:=Heap.lt_size hoL;have ho6:(((s.heap.update a (Obj.mapSeq fun _=>#[])).push (seqObj "tuple" vs.toArray 0)).push (seqObj "list" #[] 0)).get? a=some (seqObj "list" #[] e1):=by
  rw [Heap.get?_push_ne _ _ _ (by rw [size_push',Heap.size_update];exact Nat.ne_of_lt (Nat.lt_succ_of_lt hlt)),Heap.get?_push_ne _ _ _ (by rw [Heap.size_update];exact Nat.ne_of_lt hlt)];exact ho1
 show wpAny (model prog w) _ _ _ _ {s with heap:=((s.heap.update a (Obj.mapSeq fun _=>#[])).push (seqObj "tuple" vs.toArray 0)).push (seqObj "list" #[] 0)};dsimp only;have h2':vs.toArray.size<2:=by rw [List.size_toArray];exact h2
 rw [if_pos h2',if_pos h2'];refine wpAny_bind (wpAny_pure ?_);rw [StateT.run_pure];refine wpAny_bind (wpAny_pure ?_);dsimp only;refine wpAny_bind (seqEpoch_at ho6 rfl ?_);have hout:(arrOf (SortSt.mk' general' (vs.toArray.zip vs.toArray) #[] 7 none)).map (·.2)=vs.toArray:=by
  show (vs.toArray.zip vs.toArray).map (·.2)=vs.toArray;apply Array.toList_inj.mp;simp [List.map_snd_zip]
 refine wpAny_bind (listUpdate_at ho6 rfl ?_ (Nat.zero_le _) (by rw [hout,List.size_toArray,sizeLine_eq];lia));simp only [bne_self_eq_false,Bool.false_eq_true,if_false];refine wpAny_pure ?_;rw [hout];exact h
theorem qiL{l:Addr}{vs:List Value}{Q:Value→Shared→Prop}(hl:s.heap.IsList l vs.toArray)(h2:vs.length<2)(h:Q (.ref (s.heap.objs.size+1)) {s with heap:=sortedAll s.heap vs vs.toArray}):wpAny (model prog w) A (call (.builtin "sorted") [.ref l]) Q E s:=by
 refine Calls.call_function_entry kind_sorted plain_sorted entry_sorted (args_sorted1 _) ?_;unfold Builtin.«sorted»;refine wpAny_bind (m:=checkCount "sorted" 1 1 _) (wpAny_pure ?_);refine wpAny_bind (collect_list hl ?_ (by rw [sizeLine_eq];lia));refine wpAny_bind (wpAny_newList ?_ (by rw [sizeLine_eq];lia));have hsz:((s.heap.push (seqObj "list" #[] 0)).update s.heap.objs.size (Obj.mapSeq (· ++ vs.toArray))).objs.size=s.heap.objs.size+1:=by rw [Heap.size_update,size_push']
 have hoL:(((s.heap.push (seqObj "list" #[] 0)).update s.heap.objs.size (Obj.mapSeq (· ++ vs.toArray))).push (seqObj "list" vs.toArray 0)).get? (s.heap.objs.size+1)=some (seqObj "list" vs.toArray 0):=by rw [←hsz];exact Heap.get?_push_size _ rfl
 show wpAny _ _ _ _ _ {s with heap:=((s.heap.push (seqObj "list" #[] 0)).update s.heap.objs.size (Obj.mapSeq (· ++ vs.toArray))).push (seqObj "list" vs.toArray 0)};rw [hsz];refine wpAny_bind (wpAny_holding (wpAny_call_entry slot_list_sort ⟨_,hoL,rfl⟩ entry_list_sort ?body (args_list_sort _)))
 case body=>
  exact qjP hoL h2 ⟨_,rfl,wpAny_pure ⟨_,rfl,h⟩⟩
end
section
variable{X:Cx}{pins:List (Addr×Obj)}{σ:St}{H:Hp}{s:Shared}
theorem Inv.big(I:Inv X pins σ H s):sysModules<s.heap.objs.size:=by
 obtain⟨o,_,_,e,_⟩:=I.mod.glob;exact Nat.lt_of_le_of_lt (by decide) (Heap.lt_size (I.bk _ _ e))
theorem qlY{pos:Pos}:PE X (.Dict [] [] pos) (fun _ H Q=>∀p,H p=none→Q (.ref p) (upd H p (.dK []))):=fun pins s σ H Q I h=>
 wpAny_Dict_empty ⟨.ref s.heap.objs.size,_,I.laid (a:=s.heap.objs.size) (o:=.dK []) (t':=s.toks) (fun _ _ q=>Heap.get?_push_of_some _ q) (Nat.le_refl _) ⟨Nat.zero_le _,beq_eq_false_iff_ne.mpr (Ne.symm (Nat.ne_of_lt I.big)),[],.nil,Heap.DictOf.new s.heap⟩,rfl,h _ (I.hok.fresh (Nat.le_refl _))⟩
theorem qnP{A:Around}{bs:List Bool}{us:List Value}(r:Vals (bs.map V.bl) us):us=bs.map Value.bool:=by
 induction bs generalizing us with
 |nil=>cases r;rfl
 |cons b bs ih=>cases r with
  |cons h t=>rw [ih t,show _=Value.bool b from h];rfl
end
section
variable{X:Cx}
noncomputable def qii(r r' r'':R2)(ta tb tc td:TE):TE:=fun σ H Q=>ta σ H fun x H1=>tb σ H1 fun y H2=>r x y H2 fun z H3=>∃k,z=.bl k ∧
 (if k=true then tc σ H3 fun w' H4=>r' y w' H4 fun z H5=>∃k,z=.bl k∧(if k=true then td σ H5 fun w'' H6=>r'' w' w'' H6 Q else Q (.bl false) H5)else Q (.bl false) H3)
theorem qjY{a b c d:Expr}{ta tb tc td:TE}{pos:Pos}{op op' op'':CmpOp}{r r' r'':R2}(ho:OpR X (compareOp op) r)(ho':OpR X (compareOp op') r')(ho'':OpR X (compareOp op'') r'')(ha:PE X a ta)(hb:PE X b tb)(hc:PE X c tc)(hd:PE X d td)
  (hm:lastMarks [op,op',op''] [b,c,d]=false:=by with_unfolding_all rfl):PE X (.Compare a [op,op',op''] [b,c,d] pos) (qii r r' r'' ta tb tc td):=by
 intro pins s σ H Q I h;refine Compare_chain (thn (ha pins s σ H _ I h) fun v s1 ⟨x,H1,I1,r1,q1⟩=>chain_link (thn (hb pins s1 σ H1 _ I1 q1) fun u s2 ⟨y,H2,I2,r2,q2⟩=>
  thn (ho pins s2 σ H2 x y v u _ I2 r1 r2 q2) fun d s3 ⟨z,H3,I3,r3,k,e,q3⟩=>?_)) hm
 subst e;cases r3;refine wpAny_truthy_bool ?_;cases k with
 |false=>exact ite_ff ⟨.bl false,H3,I3,rfl,q3⟩
 |true=>
  refine ite_tt (chain_link (thn (hc pins s3 σ H3 _ I3 q3) fun w' s4 ⟨z',H4,I4,r4,q4⟩=>thn (ho' pins s4 σ H4 y z' u w' _ I4 r2 r4 q4) fun d' s5 ⟨z2,H5,I5,r5,k2,e2,q5⟩=>?_));subst e2;cases r5;refine wpAny_truthy_bool ?_;cases k2 with
  |false=>exact ite_ff ⟨.bl false,H5,I5,rfl,q5⟩
  |true=>exact ite_tt (chain_last (thn (hd pins s5 σ H5 _ I5 q5) fun w'' s6 ⟨z3,H6,I6,r6,q6⟩=>ho'' pins s6 σ H6 z' z3 w' w'' Q I6 r4 r6 q6))
noncomputable def qrN(K:PySem.W.Frag):R2:=fun x y H Q=>∃a b xs ys,x=.ref a∧y=.ref b∧SqT K H a xs∧SqT K H b ys∧xs.length+ys.length≤sizeLine ∧
 (xs=[]→Q (.ref b) H)∧(xs≠[]→ys=[]→Q (.ref a) H)∧(xs≠[]→ys≠[]→∀p,H p=none→Q (.ref p) (upd H p (.tup (xs++ys))))
theorem qtm:OpR X (binaryOp .Add) (qrN X.K):=by
 intro pins s σ H x y v u Q I rx ry h;obtain⟨a,b,xs,ys,rfl,rfl,ha,hb,hz,q0,q1,q2⟩:=h;by_cases hx:xs=[]
 ·subst hx;cases rx;cases ry;obtain⟨its,r1,p1,_⟩:=I.tuple ha;obtain⟨its2,r2,p2,_⟩:=I.tuple hb;cases r1;obtain⟨⟨cls,dd,data,sl⟩,ho,hc,n,hd⟩:=id p1;obtain⟨⟨cls2,dd2,data2,sl2⟩,ho2,hc2,n2,hd2⟩:=id p2;simp only at hc hd hc2 hd2;subst hc hd hc2 hd2;exact concat_meets ⟨_,ho,rfl⟩ ⟨_,ho2,rfl⟩ noFill_tuple_add seq_tuple_add PySem.F.slot_tuple_add PySem.F.entry_tuple_add (PySem.F.args_tuple_add_2 _ _)
   (tuple_addW0 a b _ its2.toArray n n2 dd dd2 sl sl2 (by simp)) ⟨ho,ho2,⟨.ref b,H,I,rfl,q0 rfl⟩⟩
 ·exact qop pins s σ H (.ref a) (.ref b) v u Q I rx ry ⟨a,b,xs,ys,rfl,rfl,ha,hb,hx,hz,q1 hx,q2 hx⟩
end
noncomputable def Ite(K:PySem.W.Frag)(l:Addr):It:=
 ⟨fun i H=>∃xs x,SqL K H l xs∧xs[i]? = some x,
  fun i H v H'=>∃p x,H p=none∧v=.ref p∧H'=upd H p (.tup [.int i,x])∧∀xs,SqL K H l xs→xs[i]? = some x,
  fun i H=>∃xs,SqL K H l xs∧xs.length≤i⟩
theorem qkx{P:Program}{w:World}{K:PySem.W.Frag}{es:List Expr}{ek:Nat}{epos:Pos}{e it l:Addr}(n1:e≠it)(n2:l≠e)(n3:l≠it) :
  Turn P w K (.Tuple es ek epos) (Ite K l) [e,it] e (fun i h=>(∃old,IsEnum h e it ((i:Nat):Int) old)∧h.IsListIter it l i) where
 mem:=by simp
 obj:=fun i h st b hb=>by
  obtain⟨⟨old,hz⟩,o1,e1,_,d1⟩:=st;have hb':b=e∨b=it:=by simpa using hb
  rcases hb' with q|q
  ·subst q;exact⟨_,hz,fun v q=>by cases q⟩
  ·subst q;exact⟨o1,e1,fun v q=>by rw [d1]at q;cases q⟩
 keep:=fun i h h' st k=>by
  obtain⟨⟨old,hz⟩,h1⟩:=st;exact⟨⟨old,k e (by simp) _ hz⟩,h1.at fun o q=>k it (by simp) o q⟩
 item:=by
  intro X hP hw hK hc i pins s σ H E I hf st hg;subst hP hw hK;obtain⟨⟨old,hz⟩,h1⟩:=st;obtain⟨xs,x,q1,hx⟩:=hg;obtain⟨its,r1,p1,z1⟩:=I.list q1;obtain⟨u1,hu1,ru1⟩:=r1.get hx;refine wpAny_pyNext_enum_item hz h1 p1.isList (x:=u1) (by simpa using hu1) n1 fun h' a1 a2 a3 a4 hk=>?_
  have hkc:∀b o,b∉[e,it]→s.heap.get? b=some o→h'.get? b=some o:=fun b o hb q=>hk b o (fun z=>hb (by simp [z])) (fun z=>hb (by simp [z])) q
  have I1:Inv X pins σ (upd H s.heap.objs.size (.tup [.int i,x])) {s with heap:=h',toks:=s.toks+1}:=I.turnNew (tk:=s.toks+1) (its:=[.int i s.toks,u1]) hf hkc (Nat.le_refl _) ⟨_,a3,rfl,_,rfl⟩ (.cons ⟨_,rfl⟩ (.cons ru1 .nil)) (by show 2≤sizeLine;decide);have hpn:H s.heap.objs.size=none:=I.hok.fresh (Nat.le_refl _);have hfp:∀b∈[e,it],b≠s.heap.objs.size:=fun b hb q=>by
   have hb':b=e∨b=it:=by simpa using hb
   obtain⟨o1,e1,_,d1⟩:=h1;have:b<s.heap.objs.size:=by
    rcases hb' with q|q
    ·subst q;exact Heap.lt_size hz
    ·subst q;exact Heap.lt_size e1
   rw [q]at this;exact Nat.lt_irrefl _ this
  have hnone:∀b∈[e,it],(upd H s.heap.objs.size (.tup [.int i,x])) b=none:=fun b hb=>by rw [qm (hfp b hb)];exact(hf b hb).1
  refine⟨_,rfl,?_⟩;refine wpAny_letOwnedTupleGo_enum (s:={s with heap:=h',toks:=s.toks+1}) a1 fun h2' hz' hs'=>?_
  obtain⟨f0,f1,f2,f3,f4,f5⟩:=hf e (by simp);refine⟨.ref s.heap.objs.size,_,I1.turned (t':=s.toks+1) (it:=e) (fun b o hb q=>(hs'.2 b hb).trans q) (hnone e (by simp)) f1 f3 f4 f5,rfl,⟨_,x,hpn,rfl,rfl,fun zs hq=>by rw [I.list_inj hq q1];exact hx⟩,⟨⟨u1,?_⟩,a2.at fun o q=>(hs'.2 it (Ne.symm n1)).trans q⟩,hnone⟩
  ·have:((i+1:Nat):Int)=(i:Int)+1:=by push_cast;rfl
   rw [this];exact hz'
 done:=by
  intro X hP hw hK hc i pins s σ H E I hf st hg;subst hP hw hK;obtain⟨⟨old,hz⟩,h1⟩:=st;obtain⟨xs,q1,hx⟩:=hg;obtain⟨its,r1,p1,z1⟩:=I.list q1;have hl:=r1.length;exact wpAny_pyNext_enum_end (I.ok.hd hc) hz h1 p1.isList (by simp;lia) fun h' eb=>⟨rfl,I.turnAll (tk:=s.toks) hf fun b o hb q=>eb b o (fun z=>hb (by simp [z])) q⟩
 self:=fun _ _ _ _ _ st h=>by
  obtain⟨⟨old,hz⟩,_⟩:=st;exact wpAny_pyIter_enum hz h
noncomputable def qrH(K:PySem.W.Frag)(ta:TA):TI:=fun σ H R=>ta σ H fun vs H1=>∃(l:Addr),vs=[.ref l]∧(∃xs,SqL K H1 l xs)∧R (Ite K l) H1
theorem qon{X:Cx}{es:List Expr}{ek:Nat}{epos p pos:Pos}{a:Expr}{ta:TA}(hg:Gl X "enumerate")(hm:X.mg "enumerate" = none)(hv:bootBuiltins "enumerate" = some (.type "enumerate"))(ha:PA X [a] ta)
  (hs:starEach [a] X.env=[(false,eval a X.env)]:=by rfl):PI X (.Tuple es ek epos) (.Call (.Name "enumerate" p) [a] [] pos) (qrH X.K ta):=by
 intro pins s σ H R I h;refine Call_ (qbg I hg hm hv (PyProof.Rows.callWith_type1 (thn (ha pos pins s σ H _ I h) fun us s1 ⟨vs,H1,I1,r1,q1⟩=>?_) (by rw [hs];rfl) (by rfl)));obtain⟨l,e,⟨xs,q2⟩,q⟩:=q1;subst e;cases r1 with
 |cons r rr=>
  cases rr;cases r;obtain⟨its1,v1,p1,_⟩:=I1.list q2;have lt1:l<s1.heap.objs.size:=by obtain⟨_,e,_⟩:=p1.isList;exact Heap.lt_size e
  refine call_enumerate_list p1.isList fun h' hE hI hsz k=>?_
  have I2:Inv X pins σ H1 {s1 with heap:=h'}:=I1.kept (t':=s1.toks) k;refine wpAny_pyIter_enum hE ?_;refine⟨_,_,_,_,H1,rfl,I2,qkx (P:=X.prog) (w:=X.w) (K:=X.K) (e:=s1.heap.objs.size+1) (it:=s1.heap.objs.size) (l:=l) (Nat.succ_ne_self _) (Nat.ne_of_lt (Nat.lt_succ_of_lt lt1)) (Nat.ne_of_lt lt1),⟨⟨_,hE⟩,hI⟩,fun b hb=>?_,q⟩;have hb':b=s1.heap.objs.size+1∨b=s1.heap.objs.size:=by simpa using hb
  have:s1.heap.objs.size≤b:=by
   rcases hb' with q|q
   ·rw [q];exact Nat.le_succ _
   ·rw [q];exact Nat.le_refl _
  exact I1.fpOk this (I1.hok.fresh this)
end L2
namespace L2
open PySem PySem.Spec PyProof.Rows PySem.SeqAt
mutual
inductive qaK(K:PySem.W.Frag)(H:Hp):V→PyData→Prop
 |non:qaK K H .non .none
 |bl (b:Bool):qaK K H (.bl b) (.bool b)
 |int (i:Int):qaK K H (.int i) (.int i)
 |str (x:Str):qaK K H (.str x) (.str x)
 |lst {a:Addr}{xs:List V}{ds:List PyData}:SqL K H a xs→qbN K H xs ds→qaK K H (.ref a) (.list ds)
 |tup {a:Addr}{xs:List V}{ds:List PyData}:SqT K H a xs→qbN K H xs ds→qaK K H (.ref a) (.tuple ds)
inductive qbN(K:PySem.W.Frag)(H:Hp):List V→List PyData→Prop
 |nil:qbN K H [] []
 |cons {x:V}{xs:List V}{d:PyData}{ds:List PyData}:qaK K H x d→qbN K H xs ds→qbN K H (x::xs) (d::ds)
end
section
variable{X:Cx}{pins:List (Addr×Obj)}{σ:St}{H:Hp}{s:Shared}
theorem Inv.reads(I:Inv X pins σ H s){x:V}{d:PyData}(h:qaK X.K H x d):∀{u:Value},RelV x u→∃as,Reads s.heap u d as:=
 h.rec (motive_1:=fun x d _=>∀{u:Value},RelV x u→∃as,Reads s.heap u d as) (motive_2:=fun xs ds _=>∀{us:List Value},Vals xs us→∃as,ReadsAll s.heap us ds as) (fun r=>by cases r;exact⟨_,.none⟩) (fun b _ r=>by cases r;exact⟨_,.bool b⟩) (fun i _ r=>by obtain⟨t,rfl⟩:=r;exact⟨_,.int i t⟩) (fun x _ r=>by obtain⟨t,rfl⟩:=r;exact⟨_,.str x t⟩)
  (fun h _ g _ r=>by
   cases r;obtain⟨its,rv,pl,_⟩:=I.list h;obtain⟨as,ra⟩:=g rv;obtain⟨o,ho,hc,n,hd⟩:=pl.isList;exact⟨_,Reads.list ho hc hd (by simpa using ra)⟩)
  (fun h _ g _ r=>by
   cases r;obtain⟨its,rv,pl,_⟩:=I.tuple h;obtain⟨as,ra⟩:=g rv;obtain⟨o,ho,hc,n,hd⟩:=pl;exact⟨_,Reads.tuple ho hc hd (by simpa using ra)⟩)
  (fun r=>by cases r;exact⟨_,.nil⟩) (fun _ _ a b _ r=>by
   cases r with
   |cons r1 r2=>
    obtain⟨as,ra⟩:=a r1;obtain⟨bs,rb⟩:=b r2;exact⟨_,.cons ra rb⟩)
end
section
variable{X:Cx}
end
end L2
namespace L2
open PySem PySem.Spec PyProof.Rows
section
variable{lt:Nat→Nat→Bool}
noncomputable def Asc(lt:Nat→Nat→Bool)(p:Array Nat)(m:Nat):Prop:=∀i j,i<j→j<m→lt (p.getD j 0) (p.getD i 0)=false
end
section
variable{lt:Nat→Nat→Bool}
structure Part(lt:Nat→Nat→Bool)(p:Array Nat)(r:Nat×Array Nat):Prop where
 perm:r.2.Perm p
 size:r.2.size=p.size
 lo:1≤r.1
 hi:r.1≤p.size
 asc:Asc lt r.2 r.1
end
end L2
namespace HT
open PySem PySem.Spec PyProof.Rows L2
section
variable{prog:Program}{w:World}{A:Around}{E:Value→Shared→Prop}{s:Shared}
theorem qhQ{t sl:Addr}{items:Array Value}{vl vu:Value}{lo hi:Option Int}{Q:Value→Shared→Prop}(ht:IsTup s.heap t items)(hs:s.heap.IsSliceOf sl vl vu .none)(pl:IsPart vl lo)(pu:IsPart vu hi)
  (h0:sIx items.size 0 lo=0) (h1:sIx items.size items.size hi=items.size) (h:Q (.ref t) s):wpAny (model prog w) A (getItem (.ref t) (.ref sl)) Q E s:=by
 have sk:s.TypeIs (.ref sl) "slice":=by obtain⟨o,a,b,_⟩:=id hs;exact⟨o,a,b⟩
 unfold getItem
 try with_reducible refine wpAny_holding ?_
 first|refine wpAny_bind (wpAny_pure ?_)|skip
 have ty:=ht.typeIs;apply wpAny_bind;apply wpAny_sequenceKey ty (by decide);apply wpAny_bind;apply wpAny_callSpecial?_slot (name:=Str.ofString "__getitem__") ty slot_tuple_getitem;refine wpAny_call_entry slot_tuple_getitem ty entry_tuple_getitem ?_ (args_tuple_getitem _ _);show wpAny _ _ (Builtin.Tuple.tupleItemsOf (.ref t)>>=_) _ _ s;apply wpAny_bind;apply tupleItemsOf_ ht;apply wpAny_bind;apply wpAny_typeOf sk;rw [if_pos (by decide)];apply wpAny_bind;apply qbV hs pl pu;have yes:(((sIx items.size 0 lo:Nat):Int)==0&&(1:Int)==1&&(sIx items.size items.size hi-sIx items.size 0 lo)==items.size)=true:=by
  rw [h0,h1];simp
 show wpAny _ _ (if (((sIx items.size 0 lo:Nat):Int)==0&&(1:Int)==1&&(sIx items.size items.size hi-sIx items.size 0 lo)==items.size)=true then _ else _) _ _ s;rw [if_pos yes];apply wpAny_bind;unfold Builtin.Tuple.tupleIsExact;refine wpAny_bind (wpAny_typeOf ty (wpAny_pure ?_));rw [if_pos (by rfl)];exact wpAny_bind (wpAny_rule (wpAny_pure ⟨_,rfl,wpAny_pure h⟩))
end
end HT
namespace L2
open PySem PySem.Spec PyProof.Rows
noncomputable def qsV(K:PySem.W.Frag):V→Option Int→Option Int→Hp→VK→Prop:=fun x lo hi H Q=>∃a xs,x=.ref a∧SqT K H a xs∧HT.sIx xs.length 0 lo=0∧HT.sIx xs.length xs.length hi=xs.length∧Q x H
theorem qlU{X:Cx}:SlR X (qsV X.K):=by
 intro pins s σ H x v vl vu lo hi sl Q I rx hs pl pu ⟨a,xs,e,hx,h0,h1,q⟩;subst e;have rx':=rx;cases rx;obtain⟨its,r,ht,hz⟩:=I.tuple hx;have hl:its.toArray.size=xs.length:=by rw [List.size_toArray];exact r.length.symm
 exact⟨"tuple",_,slot_tuple_getitem.lookup,ht.typeIs,HT.qhQ ht hs pl pu (by rw [hl];exact h0) (by rw [hl];exact h1) ⟨.ref a,H,I,rx',q⟩⟩
section
variable{X:Cx}
end
noncomputable def ItS(lo:Int)(st:Int)(n:Nat):It:=⟨fun i _=>i<n,fun i H x H'=>H'=H∧x=.int (lo+i * st),fun i _=>n≤i⟩
theorem qia{P:Program}{w:World}{K:PySem.W.Frag}{tg:Expr}(it:Addr)(lo st:Int)(n:Nat):Turn P w K tg (ItS lo st n) [it] it (fun i h=>IsRangeIter h it (lo+(i:Nat) * st) ((n:Int)-(i:Nat)) st) where
 mem:=by simp
 obj:=fun i h st b hb=>by
  have e:b=it:=by simpa using hb
  subst e;exact⟨_,st,fun v z=>by
   have z':Data.fields _=Data.cell v:=z;cases z'⟩
 keep:=fun i h h' st k=>k it (by simp) _ st
 item:=by
  intro X hP hw hK hc i pins s σ H E I hf st' hg;subst hP hw hK;obtain⟨f0,f1,f2,f3,f4,f5⟩:=hf it (by simp);have W:=Walks.range (prog:=X.prog) (w:=X.w) (I.ok.hd hc) it lo st n;refine W.item i s _ _ hg st' fun v h' tk hv st' kk=>?_
  obtain⟨t,rfl⟩:=hv;have I1:Inv X pins σ H {s with heap:=h',toks:=tk}:=I.turned (fun b o hb e=>kk b o (by simpa using hb) e) f0 f1 f3 f4 f5;exact⟨_,rfl,qgp (s:={s with heap:=h',toks:=tk}) (n:="range_iterator") st' rfl rfl (by decide) ⟨.int (lo+i * st),H,I1,⟨t,rfl⟩,⟨rfl,rfl⟩,st',fun b hb=>(hf b hb).1⟩⟩
 done:=by
  intro X hP hw hK hc i pins s σ H E I hf st' hg;subst hP hw hK;obtain⟨f0,f1,f2,f3,f4,f5⟩:=hf it (by simp);exact wpAny_pyNext_range_end (I.ok.hd hc) st' (by have:n≤i:=hg;lia) fun h' eb=>⟨rfl,I.turned (t':=s.toks) (fun b o hb e=>eb b o hb e) f0 f1 f3 f4 f5⟩
 self:=fun _ _ _ _ _ st h=>wpAny_pyIter_rangeiter st h
noncomputable def qaI(lo hi st:Int):Nat:=if lo<hi then ((hi-lo-1)/st+1).toNat else 0
theorem qfi{lo hi st:Int}(h:0<st):Builtin.Range.rangeSize lo hi st=(qaI lo hi st:Nat):=by
 unfold Builtin.Range.rangeSize qaI;rw [if_pos h];split
 ·have:0≤(hi-lo-1)/st:=Int.ediv_nonneg (by lia) (by lia);lia
 ·rfl
theorem qis{lo hi st:Int}(h:0<st)(h1:-1000000≤lo)(h2:hi≤1000000):qaI lo hi st≤2000001:=by
 unfold qaI;split
 ·have:(hi-lo-1)/st≤hi-lo-1:=Int.ediv_le_self _ (by lia);lia
 ·lia
theorem qgZ{a b c:Int}(hc:0<c)(hc':c≤1000000)(ha:-1000000≤a)(ha':a≤1000000)(hb:-1000000≤b)(hb':b≤1000000):Builtin.Range.small a b c=true:=by
 have h1:=qfi (lo:=a) (hi:=b) hc;have h2:=qis (lo:=a) (hi:=b) hc ha hb';unfold Builtin.Range.small;rw [h1];have hcc:(qaI a b c:Int) * c≤4000000 * 1000000:=by
  have e1:(qaI a b c:Int)≤4000000:=by lia
  exact Int.mul_le_mul e1 hc' (by lia) (by lia)
 have hc0:0≤(qaI a b c:Int) * c:=Int.mul_nonneg (by lia) (by lia);simp only [Builtin.Range.rangeFitsLong,Bool.and_eq_true,Bool.or_eq_true,decide_eq_true_eq,beq_iff_eq,hc,if_true];generalize hm:(qaI a b c:Int) * c=m at *;lia
section
variable{X:Cx}{tg:Expr}
theorem qlm{pins:List (Addr×Obj)}{σ:St}{H:Hp}{s:Shared}{R:It→Hp→Prop}{E:Value→Shared→Prop}{lo hi st:Int}{t u v:Tok}{tk:Nat}(I:Inv X pins σ H s)(hst:0<st)(hsm:Builtin.Range.small lo hi st=true)
  (q:R (ItS lo st (qaI lo hi st)) H):wpAny (model X.prog X.w) X.A (pyIter (.ref s.heap.objs.size)) (PIE X pins σ tg R) E {s with heap:=s.heap.push {cls:=.type "range",data:=.fields #[.int lo t,.int hi u,.int st v]},toks:=tk}:=by
 refine wpAny_pyIter_range (IsRange.new ..) hsm ?_;have I1:Inv X pins σ H {s with heap:=s.heap.push {cls:=.type "range",data:=.fields #[.int lo t,.int hi u,.int st v]},toks:=tk}:=I.kept fun b o e=>Heap.get?_push_of_some _ e
 refine⟨(s.heap.push {cls:=.type "range",data:=.fields #[.int lo t,.int hi u,.int st v]}).objs.size,[(s.heap.push {cls:=.type "range",data:=.fields #[.int lo t,.int hi u,.int st v]}).objs.size],_,_,H,rfl,
  I1.kept (t':=tk) fun b o e=>Heap.get?_push_of_some _ e,qia _ lo st (qaI lo hi st),?_,fun b hb=>?_,q⟩
 ·have e1:lo+((0:Nat):Int) * st=lo:=by simp
  have e2:((qaI lo hi st:Nat):Int)-((0:Nat):Int)=Builtin.Range.rangeSize lo hi st:=by rw [qfi hst];lia
  show IsRangeIter _ _ (lo+((0:Nat):Int) * st) (((qaI lo hi st:Nat):Int)-((0:Nat):Int)) st;rw [e1,e2];exact Heap.get?_push_size _ rfl
 ·have e:b=(s.heap.push {cls:=.type "range",data:=.fields #[.int lo t,.int hi u,.int st v]}).objs.size:=by simpa using hb
  subst e;exact I1.fpOk (Nat.le_refl _) (I1.hok.fresh (Nat.le_refl _))
noncomputable def qrq(ta:TA):TI:=fun σ H R=>ta σ H fun vs H1=>∃i j k:Int,vs=[.int i,.int j,.int k]∧(-1000000≤i∧i≤1000000∧-1000000≤j∧j≤1000000∧0<k∧k≤1000000)∧R (ItS i k (qaI i j k)) H1
theorem qkp{a b c:Expr}{ta:TA}{p pos:Pos}(hg:Gl X "range")(hm:X.mg "range" = none)(ha:PA X [a,b,c] ta)(hs:starEach [a,b,c] X.env=(false,eval a X.env)::starEach [b,c] X.env)(hs2:starEach [b,c] X.env=[(false,eval b X.env),(false,eval c X.env)]) :
  PI X tg (.Call (.Name "range" p) [a,b,c] [] pos) (qrq ta):=by
 intro pins s σ H R I h;refine Call_ (qbg I hg hm boot_range (PyProof.Rows.callWith_type1 (thn (ha pos pins s σ H _ I h) fun us s1 ⟨vs,H1,I1,r1,q1⟩=>?_) hs (by rw [hs2];rfl)));obtain⟨i,j,k,e,⟨q1,q2,q3,q4,q5,q6⟩,q⟩:=q1;subst e;cases r1 with
 |cons r rr=>
  cases rr with
  |cons r' rr=>
   cases rr with
   |cons r'' rr=>
    cases rr;obtain⟨t,rfl⟩:=r;obtain⟨t',rfl⟩:=r';obtain⟨t'',rfl⟩:=r'';exact call_range_3 (by lia) (qlm I1 q5 (qgZ q5 q6 q1 q2 q3 q4) q) (.inl (PyProof.noPylong_small (by lia)))
noncomputable def qrm(i j k:Nat)(ta:TA):TS:=fun D σ H=>ta σ H fun vs H1=>∃v w z,vs=[v,w,z]∧D.nx (((σ.set i (some v)).set j (some w)).set k (some z)) H1
theorem qor{pos:Pos}{i j k:Nat}{x y z:Str}{a b c:Expr}{ta:TA}{px py pz pt:Pos}{kt k2 pt2}(hc:X.calm=true)(hN:X.N.Nodup)(hi:X.N[i]? = some x)(hj:X.N[j]? = some y)(hk:X.N[k]? = some z)(hij:i≠j)(hik:i≠k)(hjk:j≠k)
  (hx:X.env.scope.names.lookup x=some .local) (hy:X.env.scope.names.lookup y=some .local) (hz:X.env.scope.names.lookup z=some .local) (ha:PA X [a,b,c] ta)
  (hw:swappedStores [.Tuple [.Name x px,.Name y py,.Name z pz] kt pt] (.Tuple [a,b,c] k2 pt2) X.env=pure (some [x,y,z]))
  (hs:swapsWithSole [.Tuple [.Name x px,.Name y py,.Name z pz] kt pt] (.Tuple [a,b,c] k2 pt2) pos.line X.env=pure false:=by rfl) :
  PS X (.Assign [.Tuple [.Name x px,.Name y py,.Name z pz] kt pt] (.Tuple [a,b,c] k2 pt2) pos) (qrm i j k ta):=by
 intro pins s σ H D I h;rw [exec_Assign_arm];refine wpAny_bind (wpAny_standAt ?_);rw [hs];refine wpAny_bind (wpAny_pure ?_);rw [if_neg (by decide)];refine wpAny_bind (Tuple_ (thn (ha _ pins s σ H _ I h) fun us s1 ⟨vs,H1,I1,r1,q1⟩=>?_));obtain⟨v,w,y',e1,q1⟩:=q1;subst e1;obtain⟨u1,u2,u3,rfl,rv,rw',rz⟩:∃u1 u2 u3,us=[u1,u2,u3]∧RelV v u1∧RelV w u2∧RelV y' u3:=by
  cases r1 with
  |cons p q=>
   cases q with
   |cons p' q'=>
    cases q' with
    |cons p'' q''=>
     cases q'';exact⟨_,_,_,rfl,p,p',p''⟩
 refine wpAny_newObj_type ?_ (by show 3≤sizeLine;decide);have I2:Inv X pins σ H1 {s1 with heap:=s1.heap.push {cls:=.type "tuple",data:=.seq [u1,u2,u3].toArray}}:=I1.kept (t':=s1.toks) fun b o e=>Heap.get?_push_of_some _ e
 rw [hw];refine wpAny_bind (wpAny_pure ?_);show wpAny (model X.prog X.w) X.A (do rule "assign.swapped-stores";let items ←unpackItems (.ref s1.heap.objs.size) 3 none;assignInOrder [fun v=>bindName X.env z v,fun v=>bindName X.env y v,fun v=>bindName X.env x v] items.reverse;pure Flow.next) _ _ _;refine wpAny_bind (wpAny_rule (wpAny_bind (unpackItems_tuple (items:=#[u1,u2,u3]) (I.ok.hd hc) (IsTup.new s1.heap _) fun h' hx'=>?_)));have I3:=I2.kept (h':=h') (t':=s1.toks) fun b o e=>hx' b o (Nat.ne_of_lt (Heap.lt_size e)) e
 show wpAny _ _ (assignInOrder [fun v=>bindName X.env z v,fun v=>bindName X.env y v,fun v=>bindName X.env x v] [u3,u2,u1]>>=fun _=>pure Flow.next) _ _ _;refine wpAny_bind (assignInOrder_cons (wpAny_bindName (qcb I3 hN hk (.inl hz) rz (fun s2 I4=>?_) (.inr hz))));refine assignInOrder_cons (wpAny_bindName (qcb I4 hN hj (.inl hy) rw' (fun s3 I5=>?_) (.inr hy)));refine assignInOrder_cons (wpAny_bindName (qcb I5 hN hi (.inl hx) rv (fun s4 I6=>assignInOrder_nil (wpAny_pure ?_)) (.inr hx)));rw [List.set_comm _ _ (Ne.symm hjk),List.set_comm _ _ (Ne.symm hik),List.set_comm _ _ (Ne.symm hij)]at I6;exact⟨_,H1,I6,q1⟩
noncomputable def qdL(t0:Str)(i:Int)(t1:Str):Str:=((Str.empty++t0)++(toString i:String))++t1
noncomputable def qde(t0:Str)(i:Int)(t1:Str)(j:Int)(t2:Str):Str:=(qdL t0 i t1++(toString j:String))++t2
noncomputable def qsC(t0:Str)(ta:TE)(t1:Str)(tb:TE)(t2:Str):TE:=fun σ H Q=>ta σ H fun x H1=>∃i:Int,x=.int i∧(i.natAbs.log2<1920∧(qdL t0 i t1).length≤sizeLine) ∧
 tb σ H1 fun y H2=>∃j:Int,y=.int j∧(j.natAbs.log2<1920∧(qde t0 i t1 j t2).length≤sizeLine)∧Q (.str (qde t0 i t1 j t2)) H2
theorem qpy{ea eb:Expr}{ta tb:TE}{t0 t1 t2:Str}{k0 k1 k2}{p0 p1 p2 p3 p4 pos:Pos}(h0:(Str.empty++t0).length≤sizeLine)(ha:PE X ea ta)(hb:PE X eb tb) :
  PE X (.JoinedStr [.Constant (.str t0) k0 p0,.FormattedValue ea (-1) none p1,.Constant (.str t1) k1 p2,.FormattedValue eb (-1) none p3,.Constant (.str t2) k2 p4] pos) (qsC t0 ta t1 tb t2):=by
 intro pins s σ H Q I h;refine PyProof.Rows.JoinedStr_many ?_;refine PyProof.Rows.joinParts_cons (thn (qec pins s σ H (fun x H1=>x=.str t0∧H1=H) I ⟨rfl,rfl⟩) fun v s1 ⟨x,H1,I1,r1,e1,e2⟩=>?_);subst e1 e2;obtain⟨tk,rfl⟩:=r1;refine⟨h0,?_⟩;refine PyProof.Rows.joinParts_cons (PyProof.Rows.FormattedValue_plain (thn (ha pins s1 σ H1 _ I1 h) fun v s2 ⟨x,H2,I2,r2,q⟩=>?_));obtain⟨i,rfl,⟨l1,l2⟩,q⟩:=q;obtain⟨tk,rfl⟩:=r2;have z1:((Str.empty++t0)++(toString i:String)).length≤sizeLine:=by
  unfold qdL at l2;rw [strLen_append]at l2;lia
 have I3:Inv X pins σ H2 {s2 with toks:=s2.toks+1+1}:=I2.kept (t':=s2.toks+1+1) fun b o e=>e
 refine PyProof.Rows.formatField_int_small l1 ⟨z1,?_⟩;refine PyProof.Rows.joinParts_cons (thn (qec pins _ σ H2 (fun x H1=>x=.str t1∧H1=H2) I3 ⟨rfl,rfl⟩) fun v s4 ⟨x,H4,I4,r4,e1,e2⟩=>?_);subst e1 e2;obtain⟨tk,rfl⟩:=r4;refine⟨l2,?_⟩;refine PyProof.Rows.joinParts_cons (PyProof.Rows.FormattedValue_plain (thn (hb pins s4 σ H4 _ I4 q) fun v s5 ⟨x,H5,I5,r5,q⟩=>?_));obtain⟨j,rfl,⟨l3,l4⟩,q⟩:=q;obtain⟨tk,rfl⟩:=r5;have z2:(qdL t0 i t1++(toString j:String)).length≤sizeLine:=by
  unfold qde at l4;rw [strLen_append]at l4;lia
 have I6:Inv X pins σ H5 {s5 with toks:=s5.toks+1+1}:=I5.kept (t':=s5.toks+1+1) fun b o e=>e
 refine PyProof.Rows.formatField_int_small l3 ⟨z2,?_⟩;refine PyProof.Rows.joinParts_cons (thn (qec pins _ σ H5 (fun x H1=>x=.str t2∧H1=H5) I6 ⟨rfl,rfl⟩) fun v s7 ⟨x,H7,I7,r7,e1,e2⟩=>?_);subst e1 e2;obtain⟨tk,rfl⟩:=r7;refine⟨l4,PyProof.Rows.joinParts_nil ?_ l4⟩;exact⟨.str _,H7,I7.kept (t':=s7.toks+1) fun b o e=>e,⟨_,rfl⟩,q⟩
end
noncomputable def qaR(kX:Str→Option NameKind)(NX NY:List Str)(cap:List (Option Nat))(scope:Scope):Bool:=
 (scope.kind==.function)&&(scope.names.all fun y=>(y.2 != .cell||scope.names.lookup y.1==some .cell)&&(y.2 != .local||scope.names.lookup y.1==some .local)&&(y.2 != .free||kX y.1==some .cell||kX y.1==some .free)) &&
 (cap.length==NY.length)&&(List.range cap.length).all fun i=>match cap[i]? with
  |some (some j)=>(match NY[i]?,NX[j]? with
   |some x,some y=>x==y&&scope.names.lookup x==some .free&&(kX x==some .cell||kX x==some .free)
   |_,_=>false)
  |_=>true
theorem zz.of{X:Cx}{NY:List Str}{cap:List (Option Nat)}{scope:Scope}(h:qaR X.env.kindOf X.N NY cap scope=true):zz X NY cap scope:=by
 unfold qaR at h;simp only [Bool.and_eq_true,List.all_eq_true,beq_iff_eq]at h;obtain⟨⟨⟨h1,h2⟩,h3⟩,h4⟩:=h;refine⟨h1,fun y hy e=>?_,fun y hy e=>?_,fun y hy e=>?_,h3,fun i j hc=>?_⟩
 ·have:=(h2 y hy).1.1;rw [e]at this
  simpa using this
 ·have:=(h2 y hy).1.2;rw [e]at this
  simpa using this
 ·have:=(h2 y hy).2;rw [e]at this
  simpa using this
 ·have hi:i<cap.length:=(List.getElem?_eq_some_iff.mp hc).1;have:=h4 i (List.mem_range.mpr hi);rw [hc]at this;dsimp only at this;split at this
  ·rename_i x y e1 e2
   simp only [Bool.and_eq_true,beq_iff_eq,Bool.or_eq_true]at this;obtain⟨⟨e3,e4⟩,e5⟩:=this;subst e3;exact⟨x,e1,e2,e4,e5⟩
  ·cases this
end L2
namespace WB
open PySem PySem.Spec PyProof.Rows L2
section
variable{P:Program}{w:World}{K:PySem.W.Frag}{mg:Str→Option Value}{base:Heap}{f g:Addr}{fd gd:FuncData}
theorem _root_.L2.Fun.ok1{x qual:Str}{st:Stmt}{f:Addr}{fd:FuncData}{N ps:List Str}{k:Nat}{sp:Sp}(F:Fun K x qual st f fd)(S:qcD N ps (zj st))(len:∀vs H Q E,sp vs H Q E→vs.length=ps.length)
  (hbody:∀(cdv:Value) (A:Around) (outer:List Env) (s:Shared) (H:Hp) (vs:List V) (Q:VK) (E:XK),qaY k (A.deeper (envOfC qual (zj st) s.heap.objs.size f cdv))→sp vs H Q E →
   ∃t,PSs (qcV (CX1 P w) P w K mg base N qual (zj st) f cdv A outer s H E) (qah st) t∧t {nx:=fun _ H'=>Q .non H',rt:=Q} (start N vs) H):qdf P w K mg base (CX1 P w) (k+1) f fd ps sp:=by
 obtain⟨oc,od,kV,doc,pm,an,cdv,ct,osl,rfl,lk,hcd⟩:=F.ex;exact qrj lk hcd S len fun A outer s H vs Q E hr hsp=>hbody cdv A outer s H vs Q E hr hsp
end
noncomputable def qnh(H:Hp)(ps:List Addr)(ks:List (Int×Int)):Prop:=ps.length=ks.length∧∀(i:Nat) p k,ps[i]? = some p→ks[i]? = some k→H p=some (.tup [.int k.1,.int k.2])
structure Built(H0:Hp)(acc:Addr)(ks:List (Int×Int))(H:Hp):Prop where
 ex:∃ps:List Addr,H acc=some (.lst (ps.map V.ref))∧qnh H ps ks
 same:∀b o,b≠acc→H0 b=some o→H b=some o
end WB
set_option genSizeOf false
set_option genSizeOfSpec false
namespace EV
open PySem L2
inductive D where
 |non|bl (b:Bool)|int (i:Int)|str (x:Str)|tup (xs:List D)|lst (xs:List D)|fn (x:Str)|exn (c:Str)|dic
inductive R(α:Type) where
 |ok (a:α)|ex (c:Str)|no
noncomputable def R.bind{α β:Type}:R α→(α→R β)→R β
 | .ok a,f=>f a
 | .ex c,_=>.ex c
 | .no,_=>.no
@[simp] theorem R.bind_ok{α β:Type}(a:α)(f:α→R β):(R.ok a).bind f=f a:=rfl
@[simp] theorem R.bind_ex{α β:Type}(c:Str)(f:α→R β):(R.ex c:R α).bind f=.ex c:=rfl
@[simp] theorem R.bind_no{α β:Type}(f:α→R β):(R.no:R α).bind f=.no:=rfl
inductive O2 where
 |add|sub|mul|fdiv|mod|pow|shl|shr|band|bor|bxor
 deriving DecidableEq
inductive C2 where
 |eq|ne|lt|le|gt|ge|isin|notin|is|isnot
 deriving DecidableEq
inductive B1 where
 |len|tuple|list|sorted|all|any|sum|min|max|abs|int|bool
 deriving DecidableEq
inductive Cl where
 |ty (n:String)|ex (x:Str)
 deriving DecidableEq
inductive Tg where
 |nm (i:Nat)|tp (is:List Nat)
mutual
inductive E where
 |var (i:Nat)|own (i:Nat)|con (d:D)|glb (x:Str)|fnv (x:Str)
 |op (o:O2) (a b:E)|neg (a:E)|inv (a:E)|not (a:E)|and (a b:E)|or (a b:E)
 |cmp (c:C2) (a b:E)|cmp2 (c c':C2) (a b d:E)|cmp3 (c c' c'':C2) (a b d e:E)
 |ite (t:T) (a b:E)
 |tup (es:Es)|lst (es:Es)
 |ix (a b:E)|sl (a:E) (lo hi:OE)
 |call (f:Str) (es:Es)|callE (f:E) (es:Es)
 |bi (b:B1) (es:Es)
 |rtup (a:It)|rlst (a:It)
 |isi (a:E) (c:Cl)
 |comp (it:It) (cap:List (Option Nat)) (tg:Tg) (t:T) (elt:E)
 |mth (ix:Bool) (a:E)
 |cnt (a b:E)
 |mxk (mx:Bool) (a:E)
 |dic
 |callo (f:Str) (es:Es)
 |comp2 (it:It) (cap:List (Option Nat)) (tg:Tg) (it2:It) (tg2:Tg) (t:T) (elt:E)
 |fst2 (t0:Str) (a:E) (t1:Str) (b:E) (t2:Str)
 |sset (ln:Bool) (a:E)
 |rev (a:E)
inductive OE where
 |none|some (e:E)
inductive Es where
 |nil|cons (e:E) (es:Es)
inductive It where
 |seq (e:E)|rng (a:E)|rng2 (a b:E)|enum (e:E)|zip (a b:E)|rng3 (a b k:E)
inductive T where
 |yes|val (e:E)|cmp (c:C2) (a b:E)|cmp2 (c c':C2) (a b d:E)|and (a b:T)|or (a b:T)|not (a:T)
end
noncomputable def SZ:Nat:=1000000
noncomputable def small(j:Int):Bool:=decide (-(2^64)<j)&&decide (j<2^64)
noncomputable def opI:O2→Int→Int→R D
 | .add,i,j=>.ok (.int (i+j))
 | .sub,i,j=>.ok (.int (i-j))
 | .mul,i,j=>if small i||small j then .ok (.int (i * j))else .no
 | .fdiv,i,j=>if 0<j∧j<1000000000000000000000000000000 then .ok (.int (i/j))else .no
 | .mod,i,j=>if 0<j then .ok (.int (i%j))else .no
 | .pow,i,j=>if 0≤j∧j≤1000000∧i.natAbs<2^64 then .ok (.int (i^j.toNat))else .no
 | .shl,i,j=>if 0≤j∧j≤1000000∧i.natAbs<2^64 then .ok (.int (i * 2^j.toNat))else .no
 | .shr,i,j=>if 0≤j then .ok (.int (i/2^j.toNat))else .no
 | .band,i,j=>.ok (.int (Builtin.bitAnd i j))
 | .bor,i,j=>.ok (.int (Builtin.bitOr i j))
 | .bxor,i,j=>.ok (.int (Builtin.bitXor i j))
noncomputable def qmU:D→Bool
 | .lst _=>true
 |_=>false
noncomputable def op2(o:O2):D→D→R D
 | .int i,.int j=>opI o i j
 | .tup xs,.tup ys=>if o=.add∧xs.length+ys.length≤SZ then .ok (.tup (xs++ys))else .no
 | .lst xs,.lst ys=>if o=.add∧xs.length+ys.length≤SZ then .ok (.lst (xs++ys))else .no
 | .lst xs,.int j=>if o=.mul∧0≤j∧xs.length * j.toNat≤SZ∧j≤1000000 then .ok (.lst (List.replicate j.toNat xs).flatten)else .no
 | .tup xs,.int j=>if o=.mul∧0≤j∧xs.length * j.toNat≤SZ∧j≤1000000 then .ok (.tup (List.replicate j.toNat xs).flatten)else .no
 |_,_=>.no
mutual
noncomputable def D.plain:D→Bool
 | .non=>true
 | .bl _=>true
 | .int _=>true
 | .str x=>PyData.strOk x
 | .tup xs=>plainAll xs
 | .lst xs=>plainAll xs
 | .fn _=>false
 | .exn _=>false
 | .dic=>false
noncomputable def plainAll:List D→Bool
 | []=>true
 |x::xs=>x.plain&&plainAll xs
end
mutual
noncomputable def D.deep:D→Nat
 | .tup xs=>qbO xs+1
 | .lst xs=>qbO xs+1
 |_=>0
noncomputable def qbO:List D→Nat
 | []=>0
 |x::xs=>max x.deep (qbO xs)
end
mutual
noncomputable def D.eqv:D→D→Bool
 | .non,.non=>true
 | .bl a,.bl b=>a==b
 | .bl a,.int j=>(if a then 1 else 0)==j
 | .int i,.bl b=>i==(if b then 1 else 0)
 | .int i,.int j=>i==j
 | .str x,.str y=>x==y
 | .tup xs,.tup ys=>eqvAll xs ys
 | .lst xs,.lst ys=>eqvAll xs ys
 |_,_=>false
noncomputable def eqvAll:List D→List D→Bool
 | [],[]=>true
 |x::xs,y::ys=>x.eqv y&&eqvAll xs ys
 |_,_=>false
end
noncomputable def D.asks(d:D):Bool:=d.plain&&decide (d.deep≤20)
mutual
noncomputable def D.noL:D→Bool
 | .non=>true
 | .bl _=>true
 | .int _=>true
 | .str _=>true
 | .tup xs=>qqh xs
 |_=>false
noncomputable def qqh:List D→Bool
 | []=>true
 |x::xs=>x.noL&&qqh xs
end
noncomputable def ints?:List D→Option (List Int)
 | []=>some []
 | .int i::r=>(ints? r).map (i :: ·)
 |_=>none
noncomputable def bools?:List D→Option (List Bool)
 | []=>some []
 | .bl i::r=>(bools? r).map (i :: ·)
 |_=>none
noncomputable def pairs?:List D→Option (List (Int×Int))
 | []=>some []
 | .tup [.int i,.int j]::r=>(pairs? r).map ((i,j) :: ·)
 |_=>none
noncomputable def seq?:D→Option (List D)
 | .tup xs=>some xs
 | .lst xs=>some xs
 |_=>none
noncomputable def qba:List Int→List Int→Bool
 | [],[]=>false
 | [],_::_=>true
 |_::_,[]=>false
 |a::r,b::t=>if a=b then qba r t else decide (a<b)
noncomputable def qgo(c:C2)(i j:Int):Option Bool:=
 match c with
 | .lt=>some (decide (i<j))
 | .le=>some (decide (i≤j))
 | .gt=>some (decide (j<i))
 | .ge=>some (decide (j≤i))
 | .eq=>some (decide (i=j))
 | .ne=>some (!decide (i=j))
 |_=>none
noncomputable def inD(x:D)(xs:List D):Bool:=xs.any fun y=>y.eqv x
noncomputable def qen:D→Bool
 | .non=>true
 |_=>false
noncomputable def isB(n:Bool):D→D→R Bool
 | .bl a,.bl b=>.ok (n != (a==b))
 |_,_=>.no
noncomputable def qh:C2→D→D→R Bool
 | .is,a,b=>if qen b then .ok (qen a)else isB false a b
 | .isnot,a,b=>if qen b then .ok (!qen a)else isB true a b
 | .isin,a,b=>match seq? b with
  |some xs=>if a.asks&&xs.all D.asks then .ok (inD a xs)else .no
  |none=>.no
 | .notin,a,b=>match seq? b with
  |some xs=>if a.asks&&xs.all D.asks then .ok (!inD a xs)else .no
  |none=>.no
 | .eq,a,b=>if a.asks&&b.asks then .ok (a.eqv b)else .no
 | .ne,a,b=>if a.asks&&b.asks then .ok (!a.eqv b)else .no
 | .lt,.tup xs,.tup ys=>match ints? xs,ints? ys with
  |some ns,some ms=>.ok (qba ns ms)
  |_,_=>.no
 |c,.int i,.int j=>match qgo c i j with
  |some b=>.ok b
  |none=>.no
 |_,_,_=>.no
noncomputable def truth:D→R Bool
 | .non=>.ok false
 | .bl b=>.ok b
 | .int i=>.ok (i != 0)
 | .tup xs=>.ok (!xs.isEmpty)
 | .lst xs=>.ok (!xs.isEmpty)
 |_=>.no
noncomputable def ixD:D→D→R D
 | .tup xs,.int i=>match atI xs i with|some d=>.ok d|none=>.no
 | .lst xs,.int i=>match atI xs i with|some d=>.ok d|none=>.no
 |_,_=>.no
noncomputable def cutD(xs:List D)(lo hi:Option Int):List D:=(xs.drop (HT.sIx xs.length 0 lo)).take (HT.sIx xs.length xs.length hi-HT.sIx xs.length 0 lo)
noncomputable def slD:D→Option Int→Option Int→R D
 | .tup xs,lo,hi=>.ok (.tup (cutD xs lo hi))
 | .lst xs,lo,hi=>.ok (.lst (cutD xs lo hi))
 |_,_,_=>.no
noncomputable def insI(i:Int):List Int→List Int
 | []=>[i]
 |j::r=>if i≤j then i::j::r else j::insI i r
noncomputable def qjA(p:Int×Int):List (Int×Int)→List (Int×Int)
 | []=>[p]
 |q::r=>if ltP q p then q::qjA p r else p::q::r
noncomputable def qcC:List (Int×Int)→List (Int×Int)
 | []=>[]
 |p::r=>qjA p (qcC r)
noncomputable def pairD(p:Int×Int):D:=.tup [.int p.1,.int p.2]
noncomputable def qaO(d:D)(k:List D→R D):R D:=match d with | .lst xs=>k xs|_=>.no
noncomputable def ibR(d:D)(f:Int→R D)(q:Bool→R D):R D:=match d with | .int i=>f i | .bl b=>q b|_=>.no
noncomputable def iiR(d e:D)(k:Int→Int→R D):R D:=match d,e with | .int i,.int j=>k i j|_,_=>.no
noncomputable def qaA{α β:Type}(o:Option α)(k:α→R β):R β:=match o with|some a=>k a|none=>.no
noncomputable def tups?:List D→Option (List (List Int))
 | []=>some []
 | .tup xs::r=>(ints? xs).bind fun n=>(tups? r).map (n :: ·)
 |_=>none
noncomputable def qcT(p:List Int):List (List Int)→List (List Int)
 | []=>[p]
 |q::r=>if qba q p then q::qcT p r else p::q::r
noncomputable def qbJ:List (List Int)→List (List Int)
 | []=>[]
 |p::r=>qcT p (qbJ r)
noncomputable def qeM(l:List Int):D:=.tup (l.map D.int)
noncomputable def qcB:List (List Int)→Bool
 |p::q::r=>p.isEmpty||(p::q::r).all fun t=>!t.isEmpty
 |_=>false
noncomputable def qds(xs:List D):R D:=qaA (tups? xs) fun ts=>if qcB ts then .ok (.lst ((qbJ ts).map qeM))else .no
noncomputable def qcq(mx:Bool)(i:Int):List Int→Int
 | []=>i
 |j::r=>qcq mx (if mx then (if i<j then j else i)else (if j<i then j else i)) r
noncomputable def qeH(mx:Bool):List Int→R D
 | []=>.no
 |i::r=>.ok (.int (qcq mx i r))
noncomputable def lens?:List D→Option (List Int)
 | []=>some []
 |x::r=>(seq? x).bind fun xs=>(lens? r).map ((xs.length:Int) :: ·)
noncomputable def pickK(n:Int):List D→List Int→R D
 |d::ds,m::ms=>if m=n then .ok d else pickK n ds ms
 |_,_=>.no
noncomputable def qdR(mx:Bool)(x:D):R D:=qaO x fun xs=>qaA (lens? xs) fun ns=>match ns with
 | []=>.no
 |i::r=>pickK (qcq mx i r) xs ns
noncomputable def qmw(xs:List D)(y:D):R D:=if y.asks&&xs.all D.asks then .ok (.int ((xs.countP fun z=>z.eqv y:Nat):Int))else .no
noncomputable def b11(b:B1)(d:D):R D:=match b with
 | .len=>qaA (seq? d) fun xs=>.ok (.int xs.length)
 | .tuple=>qaA (seq? d) fun xs=>.ok (.tup xs)
 | .list=>qaA (seq? d) fun xs=>.ok (.lst xs)
 | .all=>qaO d fun xs=>qaA (bools? xs) fun bs=>.ok (.bl (bs.all id))
 | .any=>qaO d fun xs=>qaA (bools? xs) fun bs=>.ok (.bl (bs.any id))
 | .sorted=>qaO d fun xs=>if xs.length<64 then (match pairs? xs with
    |some ps=>.ok (.lst ((qcC ps).map pairD))
    |none=>qds xs)else qds xs
 | .abs=>ibR d (fun i=>.ok (.int (if i<0 then -i else i))) fun _=>.no
 | .int=>ibR d (fun i=>.ok (.int i)) fun b=>.ok (.int (if b then 1 else 0))
 | .bool=>ibR d (fun i=>.ok (.bl (i != 0))) fun b=>.ok (.bl b)
 | .min=>qaO d fun xs=>qaA (ints? xs) fun ns=>qeH false ns
 | .max=>qaO d fun xs=>qaA (ints? xs) fun ns=>qeH true ns
 | .sum=>qaO d fun xs=>qaA (ints? xs) fun ns=>.ok (.int ns.sum)
noncomputable def b12(b:B1)(d e:D):R D:=match b with
 | .min=>iiR d e fun i j=>.ok (.int (if j<i then j else i))
 | .max=>iiR d e fun i j=>.ok (.int (if j>i then j else i))
 |_=>.no
noncomputable def qmH(ln:Bool)(d:D):R D:=.no
noncomputable def b1(b:B1):List D→R D
 | [d]=>b11 b d
 | [d,e]=>b12 b d e
 |_=>.no
noncomputable def tyD:D→Option String
 | .non=>some "NoneType"
 | .bl _=>some "bool"
 | .int _=>some "int"
 | .str _=>some "str"
 | .tup _=>some "tuple"
 | .lst _=>some "list"
 | .dic=>some "dict"
 |_=>none
noncomputable def zB(lo:Int)(n:Nat):List D:=(List.range n).map fun(i:Nat)=>.int (lo+(i:Int))
noncomputable def qcz(lo st:Int)(n:Nat):List D:=(List.range n).map fun(i:Nat)=>.int (lo+(i:Int) * st)
noncomputable def qbE:Nat→List D→List D
 |_,[]=>[]
 |k,x::r=>.tup [.int k,x]::qbE (k+1) r
noncomputable def qg(j:Int):Bool:=decide (-1000000≤j)&&decide (j≤1000000)
abbrev Env:=List (Option D)
structure W where
 call:Str→List D→R D
 glb:Str→Option D
 sub:Str→Cl→Option Bool
 cat:Str→Str→Bool
noncomputable def qbd(w:W)(x:D)(c:Cl):R D:=match tyD x,c with
 |some t,.ty n=>if n = "ValueError" then .no else .ok (.bl (qdK t n))
 |none,c=>match x with
  | .exn k=>match w.sub k c with|some b=>.ok (.bl b)|none=>.no
  |_=>.no
 |_,_=>.no
noncomputable def qaj(τ:Env)(i:Nat):R D:=match τ[i]? with
 |some (some d)=>.ok d
 |_=>.no
noncomputable def setAll:List Nat→List D→Env→R Env
 | [],[],τ=>.ok τ
 |i::is,d::ds,τ=>setAll is ds (τ.set i (some d))
 |_,_,_=>.no
noncomputable def store:Tg→D→Env→R Env
 | .nm i,d,τ=>.ok (τ.set i (some d))
 | .tp is,.tup ds,τ=>if ds.length=is.length then setAll is ds τ else .no
 |_,_,_=>.no
noncomputable def qaN(cap:List (Option Nat))(τ:Env):Env:=cap.map fun o=>o.bind fun j=>(τ[j]?).join
noncomputable def noEx{α:Type}:R α→R α
 | .ok a=>.ok a
 |_=>.no
noncomputable def zD(body:D→Env→R (Env×List D)):List D→Env→List D→R (List D)
 | [],_,acc=>.ok acc
 |x::r,τ,acc=>(body x τ).bind fun p=>zD body r p.1 (acc++p.2)
noncomputable def qaL(body:D→Env→R (Env×List D)):List D→Env→List D→R (Env×List D)
 | [],τ,acc=>.ok (τ,acc)
 |x::r,τ,acc=>(body x τ).bind fun p=>qaL body r p.1 (acc++p.2)
mutual
noncomputable def evE(w:W):E→Env→R D
 | .var i,τ=>qaj τ i
 | .own i,τ=>qaj τ i
 | .con d,_=>.ok d
 | .glb x,_=>match w.glb x with|some d=>.ok d|none=>.no
 | .fnv x,_=>.ok (.fn x)
 | .op o a b,τ=>(evE w a τ).bind fun x=>(evE w b τ).bind fun y=>op2 o x y
 | .neg a,τ=>(evE w a τ).bind fun x=>match x with | .int i=>.ok (.int (-i))|_=>.no
 | .inv a,τ=>(evE w a τ).bind fun x=>match x with | .int i=>.ok (.int (Builtin.bitNot i))|_=>.no
 | .not a,τ=>(evE w a τ).bind fun x=>match x with | .bl b=>.ok (.bl (!b))|_=>.no
 | .and a b,τ=>(evE w a τ).bind fun x=>match x with | .bl true=>evE w b τ | .bl false=>.ok (.bl false)|_=>.no
 | .or a b,τ=>(evE w a τ).bind fun x=>match x with | .bl true=>.ok (.bl true) | .bl false=>evE w b τ|_=>.no
 | .cmp c a b,τ=>(evE w a τ).bind fun x=>(evE w b τ).bind fun y=>(qh c x y).bind fun r=>.ok (.bl r)
 | .cmp2 c c' a b d,τ=>(evE w a τ).bind fun x=>(evE w b τ).bind fun y=>(qh c x y).bind fun r=>if r then (evE w d τ).bind fun z=>(qh c' y z).bind fun r'=>.ok (.bl r')else .ok (.bl false)
 | .cmp3 c c' c'' a b d e,τ=>(evE w a τ).bind fun x=>(evE w b τ).bind fun y=>(qh c x y).bind fun r=>if r then (evE w d τ).bind fun z=>(qh c' y z).bind fun r'=>if r' then (evE w e τ).bind fun u=>(qh c'' z u).bind fun r''=>.ok (.bl r'')else .ok (.bl false)else .ok (.bl false)
 | .ite t a b,τ=>(evT w t τ).bind fun r=>if r then evE w a τ else evE w b τ
 | .tup es,τ=>(zJ w es τ).bind fun ds=>.ok (.tup ds)
 | .lst es,τ=>(zJ w es τ).bind fun ds=>.ok (.lst ds)
 | .ix a b,τ=>(evE w a τ).bind fun x=>(evE w b τ).bind fun y=>ixD x y
 | .sl a lo hi,τ=>(evE w a τ).bind fun x=>(evO w lo τ).bind fun l=>(evO w hi τ).bind fun h=>slD x l h
 | .call f es,τ=>(zJ w es τ).bind fun ds=>w.call f ds
 | .callE f es,_=>.no
 | .bi b es,τ=>(zJ w es τ).bind fun ds=>b1 b ds
 | .rtup a,τ=>(evI w a τ).bind fun ds=>.ok (.tup ds)
 | .rlst a,τ=>(evI w a τ).bind fun ds=>.ok (.lst ds)
 | .isi a c,τ=>(evE w a τ).bind fun x=>qbd w x c
 | .comp it cap tg t elt,τ=>(evI w it τ).bind fun ds=>if SZ<ds.length then .no else (zD (fun x σ=>noEx ((store tg x σ).bind fun σ'=>(evT w t σ').bind fun r=>if r then (evE w elt σ').bind fun d=>.ok (σ',[d])else .ok (σ',[]))) ds (qaN cap τ) []).bind fun out=>.ok (.lst out)
 | .mth ix a,_=>.no
 | .cnt a b,τ=>(evE w a τ).bind fun x=>qaO x fun xs=>(evE w b τ).bind fun y=>qmw xs y
 | .mxk mx a,τ=>(evE w a τ).bind fun x=>qdR mx x
 | .dic,_=>.ok .dic
 | .callo f es,_=>.no
 | .comp2 it cap tg it2 tg2 t elt,τ=>(evI w it τ).bind fun ds=>if 1000<ds.length then .no else (zD (fun x σ=>noEx ((store tg x σ).bind fun σ'=>(evI w it2 σ').bind fun es=>if 1000<es.length then .no else qaL (fun y ρ=>(store tg2 y ρ).bind fun ρ'=>(evT w t ρ').bind fun r=>if r then (evE w elt ρ').bind fun d=>.ok (ρ',[d])else .ok (ρ',[])) es σ' [])) ds (qaN cap τ) []).bind fun out=>.ok (.lst out)
 | .fst2 t0 a t1 b t2,τ=>(evE w a τ).bind fun x=>match x with
  | .int i=>if qg i&&decide ((L2.qdL t0 i t1).length≤SZ)then (evE w b τ).bind fun y=>(match y with
   | .int j=>if qg j&&decide ((L2.qde t0 i t1 j t2).length≤SZ)then .ok (.str (L2.qde t0 i t1 j t2))else .no
   |_=>.no)else .no
  |_=>.no
 | .sset ln a,τ=>(evE w a τ).bind (qmH ln)
 | .rev a,_=>.no
noncomputable def evO(w:W):OE→Env→R (Option Int)
 | .none,_=>.ok none
 | .some e,τ=>(evE w e τ).bind fun x=>match x with | .int i=>.ok (some i)|_=>.no
noncomputable def zJ(w:W):Es→Env→R (List D)
 | .nil,_=>.ok []
 | .cons e es,τ=>(evE w e τ).bind fun d=>(zJ w es τ).bind fun ds=>.ok (d::ds)
noncomputable def evI(w:W):It→Env→R (List D)
 | .seq e,τ=>(evE w e τ).bind fun x=>match seq? x with|some xs=>.ok xs|none=>.no
 | .rng a,τ=>(evE w a τ).bind fun x=>match x with | .int j=>if qg j then .ok (zB 0 j.toNat)else .no|_=>.no
 | .rng2 a b,τ=>(evE w a τ).bind fun x=>(evE w b τ).bind fun y=>match x,y with | .int i,.int j=>if qg i&&qg j then .ok (zB i (j-i).toNat)else .no|_,_=>.no
 | .enum e,τ=>(evE w e τ).bind fun x=>match x with | .lst xs=>.ok (qbE 0 xs)|_=>.no
 | .zip a b,_=>.no
 | .rng3 a b k,τ=>(evE w a τ).bind fun x=>(evE w b τ).bind fun y=>(evE w k τ).bind fun z=>match x with
  | .int i=>(match y with
   | .int j=>(match z with
    | .int l=>if qg i&&qg j&&(decide (0<l)&&qg l)then .ok (qcz i l (L2.qaI i j l))else .no
    |_=>.no)
   |_=>.no)
  |_=>.no
noncomputable def evT(w:W):T→Env→R Bool
 | .yes,_=>.ok true
 | .val e,τ=>(evE w e τ).bind fun x=>truth x
 | .cmp c a b,τ=>(evE w a τ).bind fun x=>(evE w b τ).bind fun y=>qh c x y
 | .cmp2 c c' a b d,τ=>(evE w a τ).bind fun x=>(evE w b τ).bind fun y=>(qh c x y).bind fun r=>if r then (evE w d τ).bind fun z=>qh c' y z else .ok false
 | .and a b,τ=>(evT w a τ).bind fun r=>if r then evT w b τ else .ok false
 | .or a b,τ=>(evT w a τ).bind fun r=>if r then .ok true else evT w b τ
 | .not a,τ=>(evT w a τ).bind fun r=>.ok (!r)
end
theorem qV:∀{w i τ},@Eq (R D) (evE w (.var i) τ) (qaj τ i):=rfl
theorem zc:∀{w i τ},@Eq (R D) (evE w (.own i) τ) (qaj τ i):=rfl
theorem zd:∀{w d τ},@Eq (R D) (evE w (.con d) τ) (.ok d):=rfl
theorem zb:∀{w x τ},@Eq (R D) (evE w (.glb x) τ) (match w.glb x with|some d=>.ok d|none=>.no):=rfl
theorem qY:∀{w x τ},@Eq (R D) (evE w (.fnv x) τ) (.ok (.fn x)):=rfl
theorem za:∀{w o a b τ},@Eq (R D) (evE w (.op o a b) τ) ((evE w a τ).bind fun x=>(evE w b τ).bind fun y=>op2 o x y):=rfl
theorem ze:∀{w a τ},@Eq (R D) (evE w (.neg a) τ) ((evE w a τ).bind fun x=>match x with | .int i=>.ok (.int (-i))|_=>.no):=rfl
theorem zf:∀{w a τ},@Eq (R D) (evE w (.inv a) τ) ((evE w a τ).bind fun x=>match x with | .int i=>.ok (.int (Builtin.bitNot i))|_=>.no):=rfl
theorem qZ:∀{w a τ},@Eq (R D) (evE w (.not a) τ) ((evE w a τ).bind fun x=>match x with | .bl b=>.ok (.bl (!b))|_=>.no):=rfl
theorem qt:∀{w a b τ},@Eq (R D) (evE w (.and a b) τ) ((evE w a τ).bind fun x=>match x with | .bl true=>evE w b τ | .bl false=>.ok (.bl false)|_=>.no):=rfl
theorem qz:∀{w a b τ},@Eq (R D) (evE w (.or a b) τ) ((evE w a τ).bind fun x=>match x with | .bl true=>.ok (.bl true) | .bl false=>evE w b τ|_=>.no):=rfl
theorem qC:∀{w c a b τ},@Eq (R D) (evE w (.cmp c a b) τ) ((evE w a τ).bind fun x=>(evE w b τ).bind fun y=>(qh c x y).bind fun r=>.ok (.bl r)):=rfl
theorem qB:∀{w c c' a b d τ},@Eq (R D) (evE w (.cmp2 c c' a b d) τ) ((evE w a τ).bind fun x=>(evE w b τ).bind fun y=>(qh c x y).bind fun r=>if r then (evE w d τ).bind fun z=>(qh c' y z).bind fun r'=>.ok (.bl r')else .ok (.bl false)):=rfl
theorem qx:∀{w c c' c'' a b d e τ},@Eq (R D) (evE w (.cmp3 c c' c'' a b d e) τ) ((evE w a τ).bind fun x=>(evE w b τ).bind fun y=>(qh c x y).bind fun r=>if r then (evE w d τ).bind fun z=>(qh c' y z).bind fun r'=>if r' then (evE w e τ).bind fun u=>(qh c'' z u).bind fun r''=>.ok (.bl r'')else .ok (.bl false)else .ok (.bl false)):=rfl
theorem qO:∀{w t a b τ},@Eq (R D) (evE w (.ite t a b) τ) ((evT w t τ).bind fun r=>if r then evE w a τ else evE w b τ):=rfl
theorem qw:∀{w es τ},@Eq (R D) (evE w (.tup es) τ) ((zJ w es τ).bind fun ds=>.ok (.tup ds)):=rfl
theorem qy:∀{w es τ},@Eq (R D) (evE w (.lst es) τ) ((zJ w es τ).bind fun ds=>.ok (.lst ds)):=rfl
theorem qu:∀{w a b τ},@Eq (R D) (evE w (.ix a b) τ) ((evE w a τ).bind fun x=>(evE w b τ).bind fun y=>ixD x y):=rfl
theorem qA:∀{w a lo hi τ},@Eq (R D) (evE w (.sl a lo hi) τ) ((evE w a τ).bind fun x=>(evO w lo τ).bind fun l=>(evO w hi τ).bind fun h=>slD x l h):=rfl
theorem qo:∀{w f es τ},@Eq (R D) (evE w (.call f es) τ) ((zJ w es τ).bind fun ds=>w.call f ds):=rfl
theorem qI:∀{w f es τ},@Eq (R D) (evE w (.callE f es) τ) (.no):=rfl
theorem qq:∀{w b es τ},@Eq (R D) (evE w (.bi b es) τ) ((zJ w es τ).bind fun ds=>b1 b ds):=rfl
theorem qE:∀{w a τ},@Eq (R D) (evE w (.rtup a) τ) ((evI w a τ).bind fun ds=>.ok (.tup ds)):=rfl
theorem qH:∀{w a τ},@Eq (R D) (evE w (.rlst a) τ) ((evI w a τ).bind fun ds=>.ok (.lst ds)):=rfl
theorem qr:∀{w a c τ},@Eq (R D) (evE w (.isi a c) τ) ((evE w a τ).bind fun x=>qbd w x c):=rfl
theorem qD:∀{w it cap tg t elt τ},@Eq (R D) (evE w (.comp it cap tg t elt) τ) ((evI w it τ).bind fun ds=>if SZ<ds.length then .no else (zD (fun x σ=>noEx ((store tg x σ).bind fun σ'=>(evT w t σ').bind fun r=>if r then (evE w elt σ').bind fun d=>.ok (σ',[d])else .ok (σ',[]))) ds (qaN cap τ) []).bind fun out=>.ok (.lst out)):=rfl
theorem qL:∀{w ix a τ},@Eq (R D) (evE w (.mth ix a) τ) (.no):=rfl
theorem qP:∀{w a b τ},@Eq (R D) (evE w (.cnt a b) τ) ((evE w a τ).bind fun x=>qaO x fun xs=>(evE w b τ).bind fun y=>qmw xs y):=rfl
theorem qQ:∀{w mx a τ},@Eq (R D) (evE w (.mxk mx a) τ) ((evE w a τ).bind fun x=>qdR mx x):=rfl
theorem qF:∀{w τ},@Eq (R D) (evE w (.dic) τ) (.ok .dic):=rfl
theorem qN:∀{w f es τ},@Eq (R D) (evE w (.callo f es) τ) (.no):=rfl
theorem qG:∀{w it cap tg it2 tg2 t elt τ},@Eq (R D) (evE w (.comp2 it cap tg it2 tg2 t elt) τ) ((evI w it τ).bind fun ds=>if 1000<ds.length then .no else (zD (fun x σ=>noEx ((store tg x σ).bind fun σ'=>(evI w it2 σ').bind fun es=>if 1000<es.length then .no else qaL (fun y ρ=>(store tg2 y ρ).bind fun ρ'=>(evT w t ρ').bind fun r=>if r then (evE w elt ρ').bind fun d=>.ok (ρ',[d])else .ok (ρ',[])) es σ' [])) ds (qaN cap τ) []).bind fun out=>.ok (.lst out)):=rfl
theorem qM:∀{w t0 a t1 b t2 τ},@Eq (R D) (evE w (.fst2 t0 a t1 b t2) τ) ((evE w a τ).bind fun x=>match x with
  | .int i=>if qg i&&decide ((L2.qdL t0 i t1).length≤SZ)then (evE w b τ).bind fun y=>(match y with
   | .int j=>if qg j&&decide ((L2.qde t0 i t1 j t2).length≤SZ)then .ok (.str (L2.qde t0 i t1 j t2))else .no
   |_=>.no)else .no
  |_=>.no):=rfl
theorem qJ:∀{w ln a τ},@Eq (R D) (evE w (.sset ln a) τ) ((evE w a τ).bind (qmH ln)):=rfl
theorem qK:∀{w a τ},@Eq (R D) (evE w (.rev a) τ) (.no):=rfl
theorem qcl:∀{w τ},@Eq (R Bool) (evT w (.yes) τ) (.ok true):=rfl
theorem qcf:∀{w e τ},@Eq (R Bool) (evT w (.val e) τ) ((evE w e τ).bind fun x=>truth x):=rfl
theorem qck:∀{w c a b τ},@Eq (R Bool) (evT w (.cmp c a b) τ) ((evE w a τ).bind fun x=>(evE w b τ).bind fun y=>qh c x y):=rfl
theorem qcj:∀{w c c' a b d τ},@Eq (R Bool) (evT w (.cmp2 c c' a b d) τ) ((evE w a τ).bind fun x=>(evE w b τ).bind fun y=>(qh c x y).bind fun r=>if r then (evE w d τ).bind fun z=>qh c' y z else .ok false):=rfl
theorem qcg:∀{w a b τ},@Eq (R Bool) (evT w (.and a b) τ) ((evT w a τ).bind fun r=>if r then evT w b τ else .ok false):=rfl
theorem qce:∀{w a b τ},@Eq (R Bool) (evT w (.or a b) τ) ((evT w a τ).bind fun r=>if r then .ok true else evT w b τ):=rfl
theorem qcp:∀{w a τ},@Eq (R Bool) (evT w (.not a) τ) ((evT w a τ).bind fun r=>.ok (!r)):=rfl
mutual
inductive S where
 |set (tg:Tg) (e:E)
 |app (i:Nat) (e:E)
 |seti (i:Nat) (k e:E)
 |exp (e:E)
 |ret (e:E)|retN
 |ite (t:T) (a b:Ss)
 |for (tg:Tg) (it:It) (b:Ss)
 |while (t:T) (b:Ss)
 |raise (c:Str) (es:Es)
 |try (b:Ss) (c:Str) (i:Option Nat) (h:Ss)
 |ins (i:Nat) (k e:E)
 |pass|brk|cnt|unk
 |par (i j:Nat) (a b:E)
 |par3 (i j k:Nat) (a b c:E)
inductive Ss where
 |nil|cons (s:S) (r:Ss)
end
inductive O where
 |nx (τ:Env)|rt (d:D)|bk (τ:Env)|ct (τ:Env)|ex (c:Str)|no
noncomputable def R.out{α:Type}:R α→(α→O)→O
 | .ok a,f=>f a
 | .ex c,_=>.ex c
 | .no,_=>.no
@[simp] theorem R.out_ok{α:Type}(a:α)(f:α→O):(R.ok a).out f=f a:=rfl
@[simp] theorem R.out_ex{α:Type}(c:Str)(f:α→O):(R.ex c:R α).out f=.ex c:=rfl
@[simp] theorem R.out_no{α:Type}(f:α→O):(R.no:R α).out f=.no:=rfl
noncomputable def qau(tg:Tg)(body:Env→O):List D→Env→O
 | [],τ=>.nx τ
 |x::r,τ=>(store tg x τ).out fun τ'=>match body τ' with
  | .nx σ=>qau tg body r σ
  | .ct σ=>qau tg body r σ
  | .bk σ=>.nx σ
  |o=>o
noncomputable def O.noEx:O→O
 | .ex _=>.no
 |o=>o
mutual
noncomputable def evS(w:W):S→Env→O
 | .set tg e,τ=>(evE w e τ).out fun d=>(store tg d τ).out .nx
 | .app i e,τ=>(qaj τ i).out fun x=>(evE w e τ).out fun d=>match x with
  | .lst xs=>if xs.length<SZ then .nx (τ.set i (some (.lst (xs++[d]))))else .no
  |_=>.no
 | .seti i k e,τ=>(evE w e τ).out fun d=>(qaj τ i).out fun x=>(evE w k τ).out fun n=>match x,n with
  | .lst xs,.int j=>match ixN xs.length j with
   |some m=>.nx (τ.set i (some (.lst (xs.set m d))))
   |none=>.no
  |_,_=>.no
 | .exp e,τ=>(evE w e τ).out fun _=>.nx τ
 | .ret e,τ=>(evE w e τ).out .rt
 | .retN,_=>.rt .non
 | .ite t a b,τ=>(evT w t τ).out fun r=>if r then qX w a τ else qX w b τ
 | .for tg it b,τ=>((evI w it τ).out fun ds=>qau tg (fun σ=>qX w b σ) ds τ).noEx
 | .while t b,_=>.no
 | .raise c es,_=>.no
 | .try b c i h,_=>.no
 | .ins i k e,_=>.no
 | .unk,_=>.no
 | .pass,τ=>.nx τ
 | .brk,τ=>.bk τ
 | .cnt,τ=>.ct τ
 | .par i j a b,_=>.no
 | .par3 i j k a b c,τ=>(evE w a τ).out fun x=>(evE w b τ).out fun y=>(evE w c τ).out fun z=>.nx (((τ.set i (some x)).set j (some y)).set k (some z))
noncomputable def qX(w:W):Ss→Env→O
 | .nil,τ=>.nx τ
 | .cons s r,τ=>match evS w s τ with
  | .nx σ=>qX w r σ
  |o=>o
end
theorem qav:∀{w tg e τ},@Eq (O) (evS w (.set tg e) τ) ((evE w e τ).out fun d=>(store tg d τ).out .nx):=rfl
theorem qaw:∀{w i e τ},@Eq (O) (evS w (.app i e) τ) ((qaj τ i).out fun x=>(evE w e τ).out fun d=>match x with
  | .lst xs=>if xs.length<SZ then .nx (τ.set i (some (.lst (xs++[d]))))else .no
  |_=>.no):=rfl
theorem qaC:∀{w i k e τ},@Eq (O) (evS w (.seti i k e) τ) ((evE w e τ).out fun d=>(qaj τ i).out fun x=>(evE w k τ).out fun n=>match x,n with
  | .lst xs,.int j=>match ixN xs.length j with
   |some m=>.nx (τ.set i (some (.lst (xs.set m d))))
   |none=>.no
  |_,_=>.no):=rfl
theorem qay:∀{w e τ},@Eq (O) (evS w (.exp e) τ) ((evE w e τ).out fun _=>.nx τ):=rfl
theorem zW:∀{w e τ},@Eq (O) (evS w (.ret e) τ) ((evE w e τ).out .rt):=rfl
theorem qas:∀{w τ},@Eq (O) (evS w (.retN) τ) (.rt .non):=rfl
theorem qax:∀{w t a b τ},@Eq (O) (evS w (.ite t a b) τ) ((evT w t τ).out fun r=>if r then qX w a τ else qX w b τ):=rfl
theorem qak:∀{w tg it b τ},@Eq (O) (evS w (.for tg it b) τ) (((evI w it τ).out fun ds=>qau tg (fun σ=>qX w b σ) ds τ).noEx):=rfl
theorem qaF:∀{w t b τ},@Eq (O) (evS w (.while t b) τ) (.no):=rfl
theorem zS:∀{w c es τ},@Eq (O) (evS w (.raise c es) τ) (.no):=rfl
theorem qai:∀{w b c i h τ},@Eq (O) (evS w (.try b c i h) τ) (.no):=rfl
theorem qad:∀{w i k e τ},@Eq (O) (evS w (.ins i k e) τ) (.no):=rfl
theorem zZ:∀{w τ},@Eq (O) (evS w (.unk) τ) (.no):=rfl
theorem zY:∀{w τ},@Eq (O) (evS w (.pass) τ) (.nx τ):=rfl
theorem qac:∀{w τ},@Eq (O) (evS w (.brk) τ) (.bk τ):=rfl
theorem qaf:∀{w τ},@Eq (O) (evS w (.cnt) τ) (.ct τ):=rfl
theorem qae:∀{w i j a b τ},@Eq (O) (evS w (.par i j a b) τ) (.no):=rfl
theorem zX:∀{w i j k a b c τ},@Eq (O) (evS w (.par3 i j k a b c) τ) ((evE w a τ).out fun x=>(evE w b τ).out fun y=>(evE w c τ).out fun z=>.nx (((τ.set i (some x)).set j (some y)).set k (some z))):=rfl
structure Fn where
 ps:Nat
 N:Nat
 fr:Bool
 body:Ss
noncomputable def zG(w:W)(f:Fn)(ds:List D):R D:=if ds.length=f.ps then (match qX w f.body (ds.map some++List.replicate (f.N-f.ps) none)with
  | .nx _=>if f.fr then .no else .ok .non
  | .rt d=>.ok d
  | .ex c=>.ex c
  |_=>.no)else .no
structure Pr where
 fns:Str→Option Fn
 glb:Str→Option D
 sub:Str→Cl→Option Bool
 cat:Str→Str→Bool
noncomputable def qa(p:Pr):Nat→Str→List D→R D
 | 0,_,_=>.no
 |k+1,x,ds=>match p.fns x with
  |some f=>zG ⟨qa p k,p.glb,p.sub,p.cat⟩ f ds
  |none=>.no
inductive GK where
  |fn (fresh:Bool)|val|bi (b:B1)|rng|enum|zip|isi|ty (n:String) (b:Option B1)|exc|exk|set
  deriving DecidableEq
structure Cc where
  nm:List (Str×NameKind)
  N:List Str
  own:List Str
  G:List (Str×GK)
  calm:Bool
  fnc:Bool
  thr:Bool
  GH:List (Str×GK)
  oc:List Str
  frz:Bool
noncomputable def loc(c:Cc)(x:Str):Option Nat:=
  if x == "__debug__" ||x == "__classdict__" then none else
  match c.nm.lookup x with
  |some .local|some .cell|some .free=>let i:=c.N.findIdx (· == x);if c.N[i]? = some x then some i else none
  |_=>none
noncomputable def zN(c:Cc)(x:Str):Option Nat:=
  match c.nm.lookup x with
  |some .local=>loc c x
  |some .cell=>if c.fnc||c.oc.contains x then loc c x else none
  |_=>none
noncomputable def glob(c:Cc)(x:Str):Option GK:=
  if x == "__debug__" ||x == "__name__" then none else
  match c.nm.lookup x with
  |some .globalImplicit=>c.G.lookup x
  |_=>none
noncomputable def esc:E→Bool
  | .own _=>false
  |_=>true
noncomputable def qbr:Es→Bool
  | .nil=>true
  | .cons e es=>esc e&&qbr es
noncomputable def isL:E→Bool
  | .lst _=>true
  | .rlst _=>true
  | .comp .. => true
  |_=>false
noncomputable def qrW:O2→Bool
  | .add=>true
  | .mul=>true
  |_=>false
noncomputable def fresh(c:Cc):E→Bool
  | .op o a b=>qrW o&&isL a||o==.add&&isL b
  | .lst _=>true
  | .rlst _=>true
  | .comp .. => true
  | .bi .list _=>true
  | .bi .sorted _=>true
  | .call f _=>c.G.lookup f==some (.fn true)
  |_=>false
noncomputable def o2:Operator→Option O2
  | .Add=>some .add
  | .Sub=>some .sub
  | .Mult=>some .mul
  | .FloorDiv=>some .fdiv
  | .Mod=>some .mod
  | .RShift=>some .shr
  |_=>none
noncomputable def c2:CmpOp→C2
  | .Eq=>.eq
  | .NotEq=>.ne
  | .Lt=>.lt
  | .LtE=>.le
  | .Gt=>.gt
  | .GtE=>.ge
  | .Is=>.is
  | .IsNot=>.isnot
  | .In=>.isin
  | .NotIn=>.notin
noncomputable def qaX:Expr→Bool
  | .ListComp .. => true
  | .SetComp .. => true
  | .DictComp .. => true
  |_=>false
noncomputable def zg:Expr→Bool
  | .Set .. => false
  |_=>true
noncomputable def qep(names nm:List (Str×NameKind)):List (Str×NameKind):=names.map fun(n,k)=>if k==NameKind.free&&(nm.lookup n==some .cell)then (n,NameKind.cell)else (n,k)
noncomputable def zo(names:List (Str×NameKind)):List Str:=(names.filter fun p=>p.2==.local||p.2==.free||p.2==.cell).map (·.1)
noncomputable def qbb(c:Cc)(names:List (Str×NameKind)):List (Option Nat):=(zo names).map fun x=>if names.lookup x==some .free then loc c x else none
noncomputable def qbQ:List Expr→Option (List Str)
  | []=>some []
  | .Name x _::r=>(qbQ r).map (x :: ·)
  |_=>none
noncomputable def cTg(c:Cc):Expr→Option Tg
  | .Name x _=>if c.own.contains x then none else (zN c x).map .nm
  | .Tuple es _ _=>if c.calm then do
      let xs ←qbQ es
      if xs.any c.own.contains then none else
      let is ←xs.mapM (zN c)
      if is.Nodup then some (.tp is)else none
    else none
  |_=>none
noncomputable def isStar:Expr→Bool
  | .Starred .. => true
  |_=>false
noncomputable def isSlice:Expr→Bool
  | .Slice .. => true
  |_=>false
noncomputable def isTup:Expr→Bool
  | .Tuple .. => true
  |_=>false
noncomputable def qcv(it:It)(tg:Expr):Bool:=match it with
  | .enum _=>isTup tg
  | .zip .. => isTup tg
  |_=>true
noncomputable def qjO(c:Cc):Expr→Option Cl
  | .Name x _=>match glob c x with
    |some (.ty n _)=>some (.ty n)
    |some .exc=>some (.ex x)
    |some .exk=>some (.ex x)
    |_=>none
  |_=>none
noncomputable def vr(c:Cc)(x:Str)(i:Nat):E:=if c.own.contains x then .own i else .var i
noncomputable def cMt(c:Cc)(o:Expr)(m:Str)(ap:Pos)(as:List Expr)(cp:Pos):Option E:=none
noncomputable def baseOk:Expr→Bool
  | .Call (.Name _ _) (_::_) _ _=>true
  | .Name .. => true
  |_=>false
noncomputable def owned:It→Bool
  | .seq (.own _)=>true
  | .enum (.own _)=>true
  | .zip (.own _) _=>true
  | .zip _ (.own _)=>true
  |_=>false
noncomputable def qhw:Expr→Option Str
  | .Constant k _ _=>match k with
    | .str t=>some t
    |_=>none
  |_=>none
noncomputable def qiX:Expr→Option Expr
  | .FormattedValue a k f _=>match f with
    |none=>if k = -1 then some a else none
    |_=>none
  |_=>none
noncomputable def qlM:List Expr→Option (Str×Expr×Str×Expr×Str)
  | [x0,x1,x2,x3,x4]=>do
    let t0 ←qhw x0
    let a ←qiX x1
    let t1 ←qhw x2
    let b ←qiX x3
    let t2 ←qhw x4
    if (Str.empty++t0).length≤1000 then some (t0,a,t1,b,t2)else none
  |_=>none
noncomputable def qpu:Expr→Bool
  | .UnaryOp .USub (.Constant (.int i) _ _) _=>decide (i=1)
  |_=>false
noncomputable def qsw(c:Cc)(b:B1)(_:List Expr):Option Expr:=none
noncomputable def qfa:Expr→Bool
  | .ListComp _ gs _ _=>gs.length==2
  |_=>false
mutual
noncomputable def cE:Nat→Cc→Expr→Option E
  | 0,_,_=>none
  |n+1,c,e=>match e with
    | .Name x _=>match loc c x with
      |some i=>if c.own.contains x then some (.own i)else some (.var i)
      |none=>match glob c x with
        |some .val=>some (.glb x)
        |some (.fn _)=>some (.fnv x)
        |_=>none
    | .Constant k _ _=>match k with
      | .int i=>some (.con (.int i))
      | .bool i=>some (.con (.bl i))
      | .none=>some (.con .non)
      | .str x=>some (.con (.str x))
      |_=>none
    | .BinOp a op b _=>do
      let o ←o2 op
      let a ←cE n c a
      let b ←cE n c b
      some (.op o a b)
    | .UnaryOp op a _=>do
      let a ←cE n c a
      match op with
      | .USub=>some (.neg a)
      | .Invert=>some (.inv a)
      | .Not=>some (.not a)
      |_=>none
    | .BoolOp op vs _=>cBo n c op vs
    | .Compare a ops bs _=>match ops,bs with
      | [o],[b]=>do
        let a ←cE n c a
        let b' ←cE n c b
        if zg b then some (.cmp (c2 o) a b')else none
      | [o,o'],[b,d]=>do
        let a ←cE n c a
        let b' ←cE n c b
        let d' ←cE n c d
        if zg b&&zg d then some (.cmp2 (c2 o) (c2 o') a b' d')else none
      | [o,o',o''],[b,d,f]=>do
        let a ←cE n c a
        let b' ←cE n c b
        let d' ←cE n c d
        let f' ←cE n c f
        if zg b&&zg d&&zg f then some (.cmp3 (c2 o) (c2 o') (c2 o'') a b' d' f')else none
      |_,_=>none
    | .Dict ks vs _=>if ks.isEmpty&&vs.isEmpty then some .dic else none
    | .JoinedStr vs _=>match qlM vs with
      |some (t0,a,t1,b,t2)=>do
        let a ←cE n c a
        let b ←cE n c b
        some (.fst2 t0 a t1 b t2)
      |none=>none
    | .IfExp t a b _=>do
      let t ←cT n c t
      let a ←cE n c a
      let b ←cE n c b
      if esc a&&esc b then some (.ite t a b)else none
    | .Tuple es _ _=>do
      let es ←cEs n c es
      if qbr es then some (.tup es)else none
    | .List es _=>do
      let es ←cEs n c es
      if qbr es then some (.lst es)else none
    | .Subscript a b _=>match b with
      | .Slice lo hi st _=>match st with
        |some s=>if lo.isNone&&hi.isNone&&qpu s then (cE n c a).map .rev else none
        |none=>do
          let a ←cE n c a
          let lo ←cO n c lo
          let hi ←cO n c hi
          some (.sl a lo hi)
      |b=>do
        if isSlice b then none else
        let a ←cE n c a
        let b ←cE n c b
        some (.ix a b)
    | .ListComp elt gs sc _=>match gs with
     | [⟨tgt,it,ifs,asy⟩]=>do
      if !(asy==0) || !c.calm || !zg it then none else
      let c':Cc:={c with nm:=qep sc.names c.nm,N:=zo sc.names,fnc:=false,oc:=qeX sc.names}
      let cap:=qbb c sc.names
      if !qaR (fun x=>c.nm.lookup x) c.N (zo sc.names) cap sc || !decide (zo sc.names).Nodup then none else
      let it ←cI n c it
      let tg ←cTg c' tgt
      let t ←qcr n c' ifs
      let elt ←cE n c' elt
      if esc elt&&qcv it tgt then some (.comp it cap tg t elt)else none
     | [⟨tgt,it,ifs,asy⟩,⟨tgt2,it2,ifs2,asy2⟩]=>do
      if !(asy==0) || !(asy2==0) || !ifs.isEmpty || !c.calm || !zg it || !zg it2 then none else
      let c':Cc:={c with nm:=qep sc.names c.nm,N:=zo sc.names,fnc:=false,oc:=qeX sc.names}
      let cap:=qbb c sc.names
      if !qaR (fun x=>c.nm.lookup x) c.N (zo sc.names) cap sc || !decide (zo sc.names).Nodup then none else
      let it ←cI n c it
      let tg ←cTg c' tgt
      let i2 ←cI n c' it2
      let tg2 ←cTg c' tgt2
      let t ←qcr n c' ifs2
      let elt ←cE n c' elt
      if esc elt&&qcv it tgt&&qcv i2 tgt2 && !owned i2 then some (.comp2 it cap tg i2 tg2 t elt)else none
     |_=>none
    | .Call fe as ks cp=>match ks with
     | []=>match fe with
      | .Name f _=>match loc c f with
        |some i=>do
          let es ←cEs n c as
          if qbr es && !as.isEmpty&&c.calm then some (.callE (if c.own.contains f then .own i else .var i) es)else none
        |none=>match glob c f with
          |some (.fn _)=>do
            let es ←cEs n c as
            if qbr es && !as.isEmpty then some (.call f es)else if !as.isEmpty then some (.callo f es)else none
          |some (.bi b)=>match qsw c b as with
            |some a=>(cE n c a).map (.sset (b==.len))
            |none=>do
              let es ←cEs n c as
              if !as.isEmpty&&(c.calm||b==.len||b==.abs)then some (.bi b es)else none
          |some (.ty t (some b))=>match as with
            | [.Call (.Name g p) as' [] q]=>if loc c g==none&&glob c g==some .rng then (if c.calm&&(t == "tuple" ||t == "list")then (match as' with
                | [a]=>if isStar a then none else do
                  let a ←cE n c a
                  some (if t = "tuple" then .rtup (.rng a)else .rlst (.rng a))
                | [a,d]=>if isStar a||isStar d then none else do
                  let a ←cE n c a
                  let d ←cE n c d
                  some (if t = "tuple" then .rtup (.rng2 a d)else .rlst (.rng2 a d))
                | [a,d,k]=>if isStar a||isStar d||isStar k then none else do
                  let a ←cE n c a
                  let d ←cE n c d
                  let k ←cE n c k
                  if t == "tuple" then some (.rtup (.rng3 a d k))else none
                |_=>none)
                else none)
              else do
                let es ←cEs n c as
                some (.bi b es)
            |_=>do
              let es ←cEs n c as
              if !as.isEmpty then some (.bi b es)else none
          |some .isi=>match as with
            | [a,k]=>do
              if isStar a then none else
              let a ←cE n c a
              let k ←qjO c k
              some (.isi a k)
            |_=>none
          |_=>none
      | .Subscript a b p=>do
        let f ←cE n c (.Subscript a b p)
        let es ←cEs n c as
        if qbr es && !as.isEmpty&&c.calm then some (.callE f es)else none
      | .Attribute o m ap=>match cMt c o m ap as cp with
        |some e=>some e
        |none=>match as with
          | [a]=>do
            if !baseOk o||isStar a || !(m == "count") || !(ap.endLine==cp.line)then none else
            let o' ←cE n c o
            let a' ←cE n c a
            if esc a' then some (.cnt o' a')else none
          |_=>none
      |_=>none
     | [⟨kn,kv,_⟩]=>match fe with
      | .Name f _=>match kv with
        | .Name y _=>match as with
          | [a]=>do
            if isStar a || !c.calm || !(kn==some "key") || !(loc c f==none) || !(glob c y==some (.bi .len)) || !(loc c y==none)then none else
            let a' ←cE n c a
            if glob c f==some (.bi .max)then some (.mxk true a')else if glob c f==some (.bi .min)then some (.mxk false a')else none
          |_=>none
        |_=>none
      |_=>none
     |_=>none
    |_=>none
noncomputable def qcr:Nat→Cc→List Expr→Option T
  | 0,_,_=>none
  |n+1,c,ifs=>match ifs with
    | []=>some .yes
    | [t]=>cT n c t
    |_=>none
noncomputable def cBo:Nat→Cc→BoolOp→List Expr→Option E
  | 0,_,_,_=>none
  |n+1,c,op,vs=>match vs with
    | []=>none
    | [a]=>do
      let a ←cE n c a
      if esc a then some a else none
    |a::b::r=>do
      let a ←cE n c a
      let r ←cBo n c op (b::r)
      match op with
      | .And=>some (.and a r)
      | .Or=>some (.or a r)
noncomputable def cO:Nat→Cc→Option Expr→Option OE
  | 0,_,_=>none
  |n+1,c,o=>match o with
    |none=>some .none
    |some e=>(cE n c e).map .some
noncomputable def cEs:Nat→Cc→List Expr→Option Es
  | 0,_,_=>none
  |n+1,c,es=>match es with
    | []=>some .nil
    |e::r=>do
      if isStar e then none else
      let e ←cE n c e
      let r ←cEs n c r
      some (.cons e r)
noncomputable def cI:Nat→Cc→Expr→Option It
  | 0,_,_=>none
  |n+1,c,e=>match e with
    | .Call (.Name f p) as [] q=>match loc c f with
      |some _=>(cE n c (.Call (.Name f p) as [] q)).map .seq
      |none=>match glob c f with
        |some .rng=>(match as with
          | [a]=>if isStar a then none else (cE n c a).map .rng
          | [a,b]=>if isStar a||isStar b then none else do
            let a ←cE n c a
            let b ←cE n c b
            some (.rng2 a b)
          | [a,b,d]=>if isStar a||isStar b||isStar d then none else do
            let a ←cE n c a
            let b ←cE n c b
            let d ←cE n c d
            some (.rng3 a b d)
          |_=>none)
        |some .enum=>(match as with
          | [a]=>if isStar a then none else (cE n c a).map .enum
          |_=>none)
        |some .zip=>(match as with
          | [a,b]=>if isStar a||isStar b then none else do
            let a ←cE n c a
            let b ←cE n c b
            some (.zip a b)
          |_=>none)
        |_=>(cE n c (.Call (.Name f p) as [] q)).map .seq
    |e=>(cE n c e).map .seq
noncomputable def cT:Nat→Cc→Expr→Option T
  | 0,_,_=>none
  |n+1,c,e=>match e with
    | .UnaryOp .Not a _=>(cT n c a).map .not
    | .BoolOp op vs _=>cTs n c op vs
    | .IfExp .. => none
    | .Compare a ops bs _=>match ops,bs with
      | [o],[b]=>do
        let a ←cE n c a
        let b' ←cE n c b
        if zg b then some (.cmp (c2 o) a b')else none
      | [o,o'],[b,d]=>do
        let a ←cE n c a
        let b' ←cE n c b
        let d' ←cE n c d
        if zg b&&zg d then some (.cmp2 (c2 o) (c2 o') a b' d')else none
      | [o,o',o''],[b,d,f]=>do
        let a ←cE n c a
        let b' ←cE n c b
        let d' ←cE n c d
        let f' ←cE n c f
        if zg b&&zg d&&zg f then some (.val (.cmp3 (c2 o) (c2 o') (c2 o'') a b' d' f'))else none
      |_,_=>none
    |e=>(cE n c e).map .val
noncomputable def cTs:Nat→Cc→BoolOp→List Expr→Option T
  | 0,_,_,_=>none
  |n+1,c,op,vs=>match vs with
    | []=>none
    | [a]=>cT n c a
    |a::b::r=>do
      let a ←cT n c a
      let r ←cTs n c op (b::r)
      match op with
      | .And=>some (.and a r)
      | .Or=>some (.or a r)
end

noncomputable def qjw:Expr→Option (Str×Str×Pos×Expr×Pos)
  | .Call f as ks cp=>match f with
    | .Attribute o m ap=>match o with
      | .Name x _=>match as with
        | [a]=>if ks.isEmpty then some (x,m,ap,a,cp)else none
        |_=>none
      |_=>none
    |_=>none
  |_=>none
noncomputable def qmZ(_:Expr):Option (Str×Pos×Expr×Expr×Pos):=none
noncomputable def qjB:Expr→Bool
  | .Tuple es _ _=>es.all (foldedForSure 8)
  |_=>false
noncomputable def qpr(ts:List Expr)(e:Expr):Option (Str×Str×Expr×Expr):=none
noncomputable def qjK(ts:List Expr)(e:Expr):Option (Str×Str×Str×Expr×Expr×Expr):=match ts with
  | [.Name x px,.Name y py,.Name z pz]=>match e with
    | .Tuple [a,b,d] _ _=>if !isStar a && !isStar b && !isStar d && !([a,b,d].all (foldedForSure 8)) && !([a,b,d].all (constantsAlone 8))&&(px.line==py.line)&&(px.line==pz.line)then some (x,y,z,a,b,d)else none
    |_=>none
  |_=>none
mutual
noncomputable def cS:Nat→Cc→Bool→Stmt→Option S
  | 0,_,_,_=>none
  |n+1,c,fr,s=>match s with
    | .Assign ts e _=>match ts with
      | [t]=>match t with
        | .Name x _=>do
          if qfa e then none else
          let i ←zN c x
          let e' ←cE n c e
          if c.own.contains x then (if fresh c e' && !c.frz then some (.set (.nm i) e')else none)else if esc e' then some (.set (.nm i) e')else none
        | .Tuple ts k p=>match qpr ts e with
          |some (x,y,a,b)=>if !(c.nm.lookup x==some .local)then (do
              let tg ←cTg c (.Tuple ts k p)
              let e' ←cE n c e
              if !esc e' then none else some (.set tg e'))else do
            let i ←zN c x
            let j ←zN c y
            let a' ←cE n c a
            let b' ←cE n c b
            if !c.calm || !(c.nm.lookup x==some .local) || !(c.nm.lookup y==some .local)||(i==j)||c.own.contains x || !esc a'||isStar a||isStar b then none else
            if c.own.contains y then (if fresh c b' && !c.frz then some (.par i j a' b')else none)else if esc b' then some (.par i j a' b')else none
          |none=>match qjK ts e with
            |some (x,y,z,a,b,d)=>do
              let i ←zN c x
              let j ←zN c y
              let l ←zN c z
              let a' ←cE n c a
              let b' ←cE n c b
              let d' ←cE n c d
              if !c.calm || !(c.nm.lookup x==some .local) || !(c.nm.lookup y==some .local) || !(c.nm.lookup z==some .local)||(i==j)||(i==l)||(j==l)||c.own.contains x||c.own.contains y||c.own.contains z || !esc a' || !esc b' || !esc d' then none else some (.par3 i j l a' b' d')
            |none=>do
              let tg ←cTg c (.Tuple ts k p)
              let e' ←cE n c e
              if (isTup e && !qjB e)||qaX e || !esc e' then none else some (.set tg e')
        | .Subscript a k _=>match a with
          | .Name x _=>do
            let i ←zN c x
            let e' ←cE n c e
            let k' ←cE n c k
            if c.own.contains x&&esc e' && !isSlice k && !qaX e && !c.frz then some (.seti i k' e')else none
          |_=>none
        |_=>none
      |_=>none
    | .Expr e _=>match qmZ e with
      |some (x,ap,k,a,cp)=>do
        let i ←zN c x
        let k' ←cE n c k
        let a' ←cE n c a
        if c.own.contains x&&esc a' && !isStar k && !isStar a&&ap.endLine==cp.line && !c.frz then some (.ins i k' a')else none
      |none=>match qjw e with
      |some (x,m,ap,a,cp)=>do
        let i ←zN c x
        let a' ←cE n c a
        if m == "append" && c.own.contains x&&esc a' && !isStar a&&ap.endLine==cp.line && !c.frz then some (.app i a')else none
      |none=>do
        if qaX e then none else
        let e' ←cE n c e
        some (.exp e')
    | .Return o _=>match o with
      |some e=>do
        let e' ←cE n c e
        if fr then (match e with
          | .Name y _=>if c.own.contains y then (loc c y).map (fun i=>.ret (.own i))else none
          |_=>if fresh c e' then some (.ret e')else none)
        else some (.ret e')
      |none=>if fr then none else some .retN
    | .If t a b _=>do
      let t ←cT n c t
      let a ←cSs n c fr a
      let b ←cSs n c fr b
      some (.ite t a b)
    | .For tg it b els _=>do
      if !els.isEmpty || !c.calm || !zg it then none else
      let tg' ←cTg c tg
      let it ←cI n c it
      if !qcv it tg then none else
      let b ←cSs n {c with frz:=c.frz||owned it} fr b
      some (.for tg' it b)
    | .Pass _=>some .pass
    | .Break _=>some .brk
    | .Continue _=>some .cnt
    |_=>none
noncomputable def cSs:Nat→Cc→Bool→List Stmt→Option Ss
  | 0,_,_,_=>none
  |n+1,c,fr,ss=>match ss with
    | []=>some .nil
    |s::r=>do
      let r ←cSs n c fr r
      some (.cons ((cS n c fr s).getD .unk) r)
end
noncomputable def qqo(c:Cc):Stmt→Bool
  | .For _ (.Name x _) _ _ _=>c.own.contains x
  |_=>false
noncomputable def qne(n:Nat)(c:Cc):Stmt→Bool
  | .For _ _ (.Assign [.Name x _] e _::_) _ _=>c.own.contains x&&(match cE n c e with
    |some e'=>!fresh c e'
    |none=>false)
  |_=>false
noncomputable def noOwn(c:Cc):Cc:={c with own:=[],frz:=false}
noncomputable def qff(n:Nat)(c:Cc)(fr:Bool):List Stmt→Option Ss
  | []=>some .nil
  |s::r=>if qqo c s||qne n c s then cSs n (noOwn c) fr (s::r)else do
    let r' ←qff n c fr r
    some (.cons ((cS n c fr s).getD .unk) r')
noncomputable def argNames(a:Arguments):List Str:=a.args.map (·.arg)
noncomputable def qcx(a:Arguments)(sc:Scope):List Str:=argNames a++((sc.names.filter fun p=>p.2==.local||p.2==.cell).map (·.1)).filter fun x=>!(argNames a).contains x
noncomputable def qgl(N ps:List Str)(sc:Scope):Bool:=
  sc.kind==.function && !sc.isCoroutine && !sc.isGenerator&&decide N.Nodup&&decide (N.take ps.length=ps)&&ps.all (fun x=>sc.names.lookup x==some .local||sc.names.lookup x==some .cell)&&sc.names.all fun y=>y.2 != .free
noncomputable def qht:Nat:=60
noncomputable def cFn(G GH:List (Str×GK))(own:List Str)(fr:Bool)(st:Stmt):Option Fn:=do
  let a:=zk st
  let sc:=zj st
  let N:=qcx a sc
  if !qgl N (argNames a) sc||(argNames a).any own.contains then none else
  let b ←qff qht ⟨sc.names,N,own,G,true,true,false,GH,[],false⟩ fr (qah st)
  some ⟨(argNames a).length,N.length,fr,b⟩
noncomputable def qpU(GU:List (Str×GK))(own:List Str)(fr:Bool)(st:Stmt):Option Fn:=none
end EV

namespace EV
open PySem PySem.Spec PyProof.Rows L2
structure Gc where
 K:PySem.W.Frag
 fnA:Str→Option Addr
 clA:Str→Option Addr
mutual
inductive Rep(g:Gc)(H:Hp):D→V→Prop
 |non:Rep g H .non .non
 |bl (b:Bool):Rep g H (.bl b) (.bl b)
 |int (i:Int):Rep g H (.int i) (.int i)
 |str (x:Str):Rep g H (.str x) (.str x)
 |tup {a:Addr}{xs:List V}{ds:List D}:SqT g.K H a xs→qi g H ds xs→Rep g H (.tup ds) (.ref a)
 |lst {a:Addr}{xs:List V}{ds:List D}:SqL g.K H a xs→qi g H ds xs→Rep g H (.lst ds) (.ref a)
 |fn {x:Str}{a:Addr}:g.fnA x=some a→Rep g H (.fn x) (.ref a)
 |exn {c:Str}{a C:Addr}:g.clA c=some C→H a=some (qml a (.ref C))→Rep g H (.exn c) (.ref a)
 |dic {a:Addr}:H a=some (.dK [])→Rep g H .dic (.ref a)
inductive qi(g:Gc)(H:Hp):List D→List V→Prop
 |nil:qi g H [] []
 |cons {d:D}{ds:List D}{x:V}{xs:List V}:Rep g H d x→qi g H ds xs→qi g H (d::ds) (x::xs)
end
theorem zT{K:PySem.W.Frag}{H H':Hp}{a:Addr}{xs:List V}(e:qc H H')(h:SqT K H a xs):SqT K H' a xs:=by
 rcases h with (h|⟨o,h⟩)|h
 ·exact .inl (.inl (e _ _ h))
 ·exact .inl (.inr ⟨o,e _ _ h⟩)
 ·exact .inr h
section
variable{g:Gc}{H H':Hp}
theorem qqe{a b:Bool}(h:(a&&b)=true):a=true∧b=true:=by rw [Bool.and_eq_true]at h;exact h
theorem Rep.mono(e:qc H H'){d:D}{v:V}(h:Rep g H d v):Rep g H' d v:=
 h.rec (motive_1:=fun d v _=>Rep g H' d v) (motive_2:=fun d v _=>qi g H' d v) .non .bl .int .str (fun q _ r=>.tup (zT e q) r) (fun q _ r=>.lst (e.seq q) r) .fn (fun q r=>.exn q (e _ _ r)) (fun q=>.dic (e _ _ q)) .nil (fun _ _ a b=>.cons a b)
theorem qi.mono(e:qc H H'){d:List D}{v:List V}(h:qi g H d v):qi g H' d v:=
 h.rec (motive_1:=fun d v _=>Rep g H' d v) (motive_2:=fun d v _=>qi g H' d v) .non .bl .int .str (fun q _ r=>.tup (zT e q) r) (fun q _ r=>.lst (e.seq q) r) .fn (fun q r=>.exn q (e _ _ r)) (fun q=>.dic (e _ _ q)) .nil (fun _ _ a b=>.cons a b)
theorem qi.length{ds:List D}:∀{vs:List V},qi g H ds vs→ds.length=vs.length:=by
 induction ds with
 |nil=>intro vs h;cases h;rfl
 |cons d ds ih=>intro vs h;cases h with|cons _ r=>exact congrArg (· + 1) (ih r)
theorem qi.get{ds:List D}:∀{vs:List V}{i:Nat}{d:D},qi g H ds vs→ds[i]? = some d→∃v,vs[i]? = some v∧Rep g H d v:=by
 induction ds with
 |nil=>intro vs i d h e;cases e
 |cons d ds ih=>
  intro vs i d' h e;cases h with
  |cons h t=>cases i with
   |zero=>cases e;exact⟨_,rfl,h⟩
   |succ i=>exact ih (i:=i) t e
theorem qi.append{ds:List D}:∀{es:List D}{vs us:List V},qi g H ds vs→qi g H es us→qi g H (ds++es) (vs++us):=by
 induction ds with
 |nil=>intro es vs us h s;cases h;exact s
 |cons d ds ih=>intro es vs us h s;cases h with|cons r t=>exact .cons r (ih t s)
theorem qi.take{ds:List D}:∀{vs:List V} (n:Nat),qi g H ds vs→qi g H (ds.take n) (vs.take n):=by
 induction ds with
 |nil=>intro vs n h;cases h;cases n<;>exact .nil
 |cons d ds ih=>intro vs n h;cases h with|cons r t=>cases n with
  |zero=>exact .nil
  |succ n=>exact .cons r (ih n t)
theorem qi.drop{ds:List D}:∀{vs:List V} (n:Nat),qi g H ds vs→qi g H (ds.drop n) (vs.drop n):=by
 induction ds with
 |nil=>intro vs n h;cases h;cases n<;>exact .nil
 |cons d ds ih=>intro vs n h;cases n with
  |zero=>exact h
  |succ n=>cases h with|cons r t=>exact ih n t
theorem qi.set{d:D}{v:V}(r:Rep g H d v){ds:List D}:∀{vs:List V} (i:Nat),qi g H ds vs→qi g H (ds.set i d) (vs.set i v):=by
 induction ds with
 |nil=>intro vs i h;cases h;exact .nil
 |cons d' ds ih=>intro vs i h;cases h with|cons q t=>cases i with
  |zero=>exact .cons r t
  |succ i=>exact .cons q (ih i t)
theorem qi.ints{ds:List D}:∀{vs:List V}{ns:List Int},qi g H ds vs→ints? ds=some ns→vs=ns.map V.int∧ds=ns.map D.int:=by
 induction ds with
 |nil=>intro vs ns h e;cases h;cases e;exact⟨rfl,rfl⟩
 |cons d ds ih=>
  intro vs ns h e;cases h with
  |cons h t=>cases d with
   |int i=>
    obtain⟨ms,e1,rfl⟩:=Option.map_eq_some_iff.mp (show (ints? ds).map (i :: ·)=some ns from e);obtain⟨h1,h2⟩:=ih t e1;cases h;exact⟨by rw [h1];rfl,by rw [h2];rfl⟩
   |_=>cases (show none=some ns from e)
theorem qi.bools{ds:List D}:∀{vs:List V}{ns:List Bool},qi g H ds vs→bools? ds=some ns→vs=ns.map V.bl:=by
 induction ds with
 |nil=>intro vs ns h e;cases h;cases e;rfl
 |cons d ds ih=>
  intro vs ns h e;cases h with
  |cons h t=>cases d with
   |bl i=>
    obtain⟨ms,e1,rfl⟩:=Option.map_eq_some_iff.mp (show (bools? ds).map (i :: ·)=some ns from e);have h1:=ih t e1;cases h;rw [h1];rfl
   |_=>cases (show none=some ns from e)
theorem qi.ofInts:∀(ns:List Int),qi g H (ns.map D.int) (ns.map V.int)
 | []=>.nil
 |i::r=>.cons (.int i) (qi.ofInts r)
end
structure Sh where
 o:Addr→Bool
 h:Addr→Bool
 z:L2.St
 y:Hp
noncomputable def hid(H:Hp)(S:Sh):Hp:=fun b=>if S.h b=true then none else H b
noncomputable def zy(S:Sh)(a:Addr):Sh:=⟨S.o,fun b=>S.h b||b==a,S.z,S.y⟩
theorem qsh{H:Hp}{S:Sh}{b:Addr}{o:HO}:hid H S b=some o↔S.h b=false∧H b=some o:=by
 unfold hid;cases h:S.h b<;>simp
theorem zL{H:Hp}{S:Sh}:qc (hid H S) H:=fun _ _ h=>(qsh.mp h).2
theorem qk{H H':Hp}{S:Sh}(e:qc H H'):qc (hid H S) (hid H' S):=fun b o h=>qsh.mpr ⟨(qsh.mp h).1,e _ _ (qsh.mp h).2⟩
noncomputable def Sub(S:Sh)(H:Hp):Prop:=∀a,(S.h a=true∨S.o a=true)→H a≠none
theorem Sub.same{S:Sh}{H H':Hp}(h:Sub S H)(e:qc H H'):Sub S H':=fun a s n=>by
 cases q:H a with
 |none=>exact h a s q
 |some o=>rw [e _ _ q]at n;cases n
theorem Sub.free{S:Sh}{H:Hp}(h:Sub S H){p:Addr}(n:H p=none):S.h p=false:=by
 cases q:S.h p with
 |false=>rfl
 |true=>exact absurd n (h p (.inl q))
theorem Sub.freeO{S:Sh}{H:Hp}(h:Sub S H){p:Addr}(n:H p=none):S.o p=false:=by
 cases q:S.o p with
 |false=>rfl
 |true=>exact absurd n (h p (.inr q))
theorem qW{H:Hp}{p:Addr}{o:HO}(n:H p=none):qc H (upd H p o):=fun b u h=>by
 rw [qm (fun z=>by rw [z,n]at h;cases h)];exact h
theorem qfl{H:Hp}{S:Sh}{p:Addr}{o:HO}(hs:Sub S H)(n:H p=none):hid (upd H p o) S p=some o:=qsh.mpr ⟨hs.free n,zm⟩
theorem qcL{H:Hp}{S:Sh}{p:Addr}{o:HO}(n:H p=none):qc (hid H S) (hid (upd H p o) (zy S p)):=fun b u h=>by
 obtain⟨h1,h2⟩:=qsh.mp h;have hb:b≠p:=fun z=>by rw [z,n]at h2;cases h2
 refine qsh.mpr ⟨?_,by rw [qm hb];exact h2⟩;show (S.h b||b==p)=false;rw [h1]
 simpa using hb
theorem qdm{H:Hp}{S:Sh}{p:Addr}:qc (hid H (zy S p)) (hid H S):=fun b u h=>by
 obtain⟨h1,h2⟩:=qsh.mp h;refine qsh.mpr ⟨?_,h2⟩;have h1:(S.h b||b==p)=false:=h1;simp at h1;exact h1.1
noncomputable def zu(g:Gc)(H:Hp)(S:Sh)(d:D)(v:V):Prop:=
 Rep g (hid H S) d v∨∃a vs ds,S.o a=true∧v=.ref a∧d=.lst ds∧H a=some (.lst vs)∧qi g (hid H S) ds vs
noncomputable def Fr(g:Gc)(H0:Hp)(S:Sh)(H:Hp)(d:D)(v:V):Prop:=
 ∃a vs ds,v=.ref a∧d=.lst ds∧H0 a=none∧H a=some (.lst vs)∧qi g (hid H (zy S a)) ds vs
section
variable{g:Gc}{H H' H0:Hp}{S:Sh}{d:D}{v:V}
theorem zu.mono(e:qc H H')(h:zu g H S d v):zu g H' S d v:=by
 rcases h with h|⟨a,vs,ds,h1,h2,h3,h4,h5⟩
 ·exact .inl (h.mono (qk e))
 ·exact .inr ⟨a,vs,ds,h1,h2,h3,e _ _ h4,h5.mono (qk e)⟩
theorem zu.rep(h:zu g H S d v):Rep g H d v:=by
 rcases h with h|⟨a,vs,ds,h1,rfl,rfl,h4,h5⟩
 ·exact h.mono zL
 ·exact .lst (SqL.of h4) (h5.mono zL)
theorem zu.lst{ds:List D}(h:zu g H S (.lst ds) v):∃a vs,v=.ref a∧SqL g.K H a vs∧qi g (hid H S) ds vs:=by
 rcases h with h|⟨a,vs,ds',h1,rfl,h3,h4,h5⟩
 ·cases h with
  |lst h r=>exact⟨_,_,rfl,zL.seq h,r⟩
 ·cases h3;exact⟨a,vs,rfl,SqL.of h4,h5⟩
theorem zu.strong(h:zu g H S d v)(n:∀ds,d≠.lst ds):Rep g (hid H S) d v:=by
 rcases h with h|⟨a,vs,ds',h1,rfl,h3,h4,h5⟩
 ·exact h
 ·exact absurd h3 (n _)
theorem zu.tup{ds:List D}(h:zu g H S (.tup ds) v):∃a vs,v=.ref a∧SqT g.K H a vs∧qi g (hid H S) ds vs:=by
 cases h.strong (by intro _ z;cases z)with
 |tup h2 r=>exact⟨_,_,rfl,zT zL h2,r⟩
theorem zu.seq{ds:List D}(h:zu g H S d v)(e:seq? d=some ds):∃a vs,v=.ref a∧(SqL g.K H a vs∨SqT g.K H a vs)∧qi g (hid H S) ds vs:=by
 cases d with
 |tup xs=>cases e;obtain⟨a,vs,h1,h2,h3⟩:=h.tup;exact⟨a,vs,h1,.inr h2,h3⟩
 |lst xs=>cases e;obtain⟨a,vs,h1,h2,h3⟩:=h.lst;exact⟨a,vs,h1,.inl h2,h3⟩
 |_=>cases e
theorem zu.int{i:Int}(h:zu g H S (.int i) v):v=.int i:=by cases h.strong (by intro _ z;cases z);rfl
theorem zu.bl{b:Bool}(h:zu g H S (.bl b) v):v=.bl b:=by cases h.strong (by intro _ z;cases z);rfl
theorem qaT{ds:List D}{vs:List V}{p:Addr}(hs:Sub S H)(n:H p=none)(r:qi g (hid H S) ds vs):Rep g (hid (upd H p (.tup vs)) S) (.tup ds) (.ref p):=
 .tup (SqT.of (qfl hs n)) (r.mono (qk (qW n)))
theorem qaU{ds:List D}{vs:List V}{p:Addr}(hs:Sub S H)(n:H p=none)(r:qi g (hid H S) ds vs):Rep g (hid (upd H p (.lst vs)) S) (.lst ds) (.ref p):=
 .lst (SqL.of (qfl hs n)) (r.mono (qk (qW n)))
theorem qca{ds:List D}{vs:List V}{p:Addr}(e:qc H0 H)(n:H p=none)(r:qi g (hid H S) ds vs):Fr g H0 S (upd H p (.lst vs)) (.lst ds) (.ref p):=
 ⟨p,vs,ds,rfl,rfl,e.free n,zm,r.mono (qcL n)⟩
end
end EV
namespace HT
open PySem PySem.Spec PyProof.Rows L2
section
variable{prog:Program}{w:World}{A:Around}{E:Value→Shared→Prop}{s:Shared}
end
end HT
namespace L2
open PySem PySem.Spec PyProof.Rows
variable{X:Cx}
theorem qnQ:fillsNumberSlot (.type "tuple") "mul" = pure false:=
 PySem.fillsNumberSlot_seq (id:="tuple.__mul__") (r:=some (.builtin "tuple.__rmul__")) PySem.F.slot_tuple_mul.lookup (by decide +kernel) PySem.F.slot_tuple_rmul.lookup (by decide +kernel)
theorem qoH:seqRepeat? (.type "tuple")=pure (some (.builtin "tuple.__mul__")):=by
 unfold seqRepeat?;rw [PySem.seqSlot_of (T:="tuple") (name:="__mul__") (id:="tuple.__mul__") PySem.F.slot_tuple_mul.lookup (by decide +kernel),PySem.seqSlot_of (T:="tuple") (name:="__rmul__") (id:="tuple.__rmul__") PySem.F.slot_tuple_rmul.lookup (by decide +kernel)]
 rfl
theorem qoc(a:Int)(t:Tok)(l:Addr)(items:Array Value)(n:Nat)(d:Option Addr)(sl:Array (Option Value)) :
  Meets (Builtin.«int.__rmul__» ⟨[.int a t,.ref l],[]⟩) (fun _ R s=>s.heap.get? l=some ⟨.type "tuple",d,.seq items n,sl⟩∧R (.ok (.ret Value.notImplemented)) s):=
 .of_wp fun prog w A R s h=>by
  obtain⟨hp,g,d,tk,os⟩:=s;obtain⟨hl,h⟩:=h
  wp_walk
  exact⟨_,rfl,h⟩
theorem qgq{M:Model}{A:Around}{α:Type}{b:Bool}{x y:Sem α}{Q:α→Shared→Prop}{E:Value→Shared→Prop}{s:Shared}(h:b=false)(k:wpAny M A y Q E s):wpAny M A (if b=true then x else y) Q E s:=by subst h;exact k
theorem qrI{M:Model}{A:Around}{α:Type}{b:Bool}{x y:Sem α}{Q:α→Shared→Prop}{E:Value→Shared→Prop}{s:Shared}(h:b=true)(k:wpAny M A x Q E s):wpAny M A (if b=true then x else y) Q E s:=by subst h;exact k
theorem qos(l:Addr)(items:Array Value)(n:Nat)(d:Option Addr)(sl:Array (Option Value))(x:Int)(u:Tok)(h0:0≤x)(h1:x<2^63)(h2:(items.isEmpty||x==1)=true) :
  Meets (Builtin.«tuple.__mul__» ⟨[.ref l,.int x u],[]⟩) (fun _ R s=>s.heap.get? l=some ⟨.type "tuple",d,.seq items n,sl⟩∧R (.ok (.ret (.ref l))) s):=
 .of_wp fun prog w A R s h=>by
  obtain⟨hp,g,d,tk,os⟩:=s;obtain⟨hl,h⟩:=h
  wp_walk
  refine qgq (by simp;lia) ?_
  wp_walk
  exact⟨_,rfl,h⟩
theorem qqr(l:Addr)(items:Array Value)(n:Nat)(d:Option Addr)(sl:Array (Option Value))(x:Int)(u:Tok)(h0:0≤x)(h1:x≤1000000)(hz:items.size * x.toNat≤16777216)(h2:(items.isEmpty||x==1)=false) :
  Meets (Builtin.«tuple.__mul__» ⟨[.ref l,.int x u],[]⟩) (fun _ R s=>s.heap.get? l=some ⟨.type "tuple",d,.seq items n,sl⟩∧R (.ok (.ret (.ref s.heap.objs.size))) {s with heap:=s.heap.push ⟨.type "tuple",none,.seq (List.foldl (fun a b=>a++b) #[] (List.replicate x.toNat items)) 0,#[]⟩}):=
 .of_wp fun prog w A R s h=>by
  obtain⟨hp,g,d,tk,os⟩:=s;obtain⟨hl,h⟩:=h;have hz':(items.size:Int) * x≤16777216:=by
   have:((items.size * x.toNat:Nat):Int)≤16777216:=by lia
   rwa [Int.natCast_mul,Int.toNat_of_nonneg h0]at this
  wp_walk
  refine qgq (by simp;lia) ?_
  wp_walk
  have he:items.isEmpty=false:=by
   cases q:items.isEmpty with
   |false=>rfl
   |true=>rw [q]at h2;cases h2
  by_cases hx:x≤0
  ·have:x=0:=by lia
   subst this;refine qrI rfl ?_
   wp_walk
   exact⟨_,rfl,h⟩
  ·refine qgq (by rw [he,decide_eq_false hx];rfl) ?_
   wp_walk
   refine wpAny_ite_false (decide_eq_false (by lia)) ?_
   wp_walk
   refine qgq (by simp [Builtin.Tuple.tupleTooMany,sizeLine_eq];exact hz') ?_
   wp_walk
   refine wpAny_ite_false (decide_eq_false (by rw [listMul_foldl,List.size_toArray,Array.toList_empty,List.nil_append,lm_len_rep_flat,sizeLine_eq,Array.length_toList,Nat.mul_comm];lia)) ?_
   wp_walk
   exact⟨_,rfl,h⟩
noncomputable def qrd(K:PySem.W.Frag):R2:=fun x y H Q=>∃l xs j,x=.ref l∧y=.int j∧SqT K H l xs∧0≤j∧xs.length * j.toNat≤16777216∧j≤1000000∧((xs=[]∨j=1)→Q (.ref l) H)∧∀p,H p=none→Q (.ref p) (upd H p (.tup (List.replicate j.toNat xs).flatten))
theorem qfH{xs:List V}{its:List Value}(r:Vals xs its):∀n,Vals (List.replicate n xs).flatten (List.replicate n its).flatten
 | 0=>.nil
 |n+1=>by rw [List.replicate_succ,List.replicate_succ];exact r.append (qfH r n)
section
variable{X:Cx}
theorem qnF:OpR X (binaryOp .Mult) (qrd X.K):=by
 intro pins s σ H x y v u Q I rx ry h;obtain⟨l,xs,j,rfl,rfl,hH,h0,hz,hj,q0,q1⟩:=h;cases rx;obtain⟨t,rfl⟩:=ry;obtain⟨its,r,p1,_⟩:=I.tuple hH;have l1:=r.length;obtain⟨⟨cls,dd,data,sl⟩,ho,hc,n,hd⟩:=id p1;simp only at hc hd;subst hc hd;refine wpAny_binaryOp_repeat_ref (T:="tuple") (U:="int") (by decide) ⟨_,ho,rfl⟩ (fun s'=>typeIs_int s' j t) qnQ PySem.F.fills_int_mul PySem.F.slot_int_rmul qoH PySem.F.slot_int_index.lookup
  (call_meets PySem.F.slot_int_rmul (typeIs_int s j t) PySem.F.entry_int_rmul (PySem.F.args_int_rmul_2 _ _) (qoc j t l its.toArray n dd sl) ⟨ho,rfl,⟨_,ho,rfl⟩,?_⟩)
 cases e:(its.toArray.isEmpty||j==1)with
 |true=>
  refine call_meets PySem.F.slot_tuple_mul ⟨_,ho,rfl⟩ PySem.F.entry_tuple_mul (PySem.F.args_tuple_mul_2 _ _) (qos l its.toArray n dd sl j t h0 (by lia) e) ⟨ho,.ref l,H,I,rfl,q0 ?_⟩;rw [Bool.or_eq_true]at e;rcases e with e|e
  ·refine .inl (List.length_eq_zero_iff.mp ?_);rw [l1];simpa using e
  ·exact .inr (by simpa using e)
 |false=>
  refine call_meets PySem.F.slot_tuple_mul ⟨_,ho,rfl⟩ PySem.F.entry_tuple_mul (PySem.F.args_tuple_mul_2 _ _) (qqr l its.toArray n dd sl j t h0 hj (by rw [List.size_toArray,←l1];exact hz) e) ⟨ho,?_⟩;rw [listMul_foldl];rw [Array.toList_empty,List.nil_append];refine⟨.ref s.heap.objs.size,_,I.laid (t':=s.toks) (o:=.tup (List.replicate j.toNat xs).flatten) (fun b ob q=>Heap.get?_push_of_some _ q) (Nat.le_refl _) ?_,rfl,q1 _ (I.hok.fresh (Nat.le_refl _))⟩;exact⟨by rw [lm_len_rep_flat,sizeLine_eq,Nat.mul_comm];exact hz,_,qfH r j.toNat,IsTup.new _ _⟩
end
end L2
namespace EV
open PySem PySem.Spec PySem.P PyProof.Rows L2
mutual
noncomputable def D.py:D→PyData
 | .non=>.none
 | .bl b=>.bool b
 | .int i=>.int i
 | .str x=>.str x
 | .tup xs=>.tuple (pys xs)
 | .lst xs=>.list (pys xs)
 | .fn _=>.none
 | .exn _=>.none
 | .dic=>.none
noncomputable def pys:List D→List PyData
 | []=>[]
 |x::xs=>x.py::pys xs
end
mutual
theorem qko:∀{d:D},d.plain=true→d.py.canLay0=true
 | .non,_ | .bl _,_ | .int _,_=>by simp [D.py,PyData.canLay0]
 | .str x,h=>by simpa [D.py,PyData.canLay0,D.plain]using h
 | .tup xs,h=>by simp only [D.py,PyData.canLay0];exact qeK (by simpa [D.plain]using h)
 | .lst xs,h=>by simp only [D.py,PyData.canLay0];exact qeK (by simpa [D.plain]using h)
 | .fn _,h | .exn _,h | .dic,h=>by simp [D.plain]at h
theorem qeK:∀{ds:List D},plainAll ds=true→PyData.canLayAll0 (pys ds)=true
 | [],_=>by simp [pys,PyData.canLayAll0]
 |x::xs,h=>by
  simp only [plainAll,Bool.and_eq_true]at h;simp only [pys,PyData.canLayAll0,Bool.and_eq_true];exact⟨qko h.1,qeK h.2⟩
end
mutual
theorem qip:∀(d:D),d.py.depth=d.deep
 | .non | .bl _ | .int _ | .str _ | .fn _ | .exn _ | .dic=>by simp [D.py,PyData.depth,D.deep]
 | .tup xs=>by simp only [D.py,PyData.depth,D.deep];rw [qdW xs]
 | .lst xs=>by simp only [D.py,PyData.depth,D.deep];rw [qdW xs]
theorem qdW:∀(ds:List D),PyData.depthAll (pys ds)=qbO ds
 | []=>by simp [pys,PyData.depthAll,qbO]
 |x::xs=>by simp only [pys,PyData.depthAll,qbO];rw [qip x,qdW xs]
end
mutual
theorem qez:∀(a b:D),a.plain=true→b.plain=true→PyData.eqv a.py b.py=a.eqv b
 | .tup xs,.tup ys,h,h'=>by simp only [D.py,PyData.eqv,D.eqv];exact qfc xs ys (by simpa [D.plain]using h) (by simpa [D.plain]using h')
 | .lst xs,.lst ys,h,h'=>by simp only [D.py,PyData.eqv,D.eqv];exact qfc xs ys (by simpa [D.plain]using h) (by simpa [D.plain]using h')
 | .fn _,_,h,_=>by simp [D.plain]at h
 | .exn _,_,h,_=>by simp [D.plain]at h
 | .dic,_,h,_=>by simp [D.plain]at h
 | .non,b,_,h' | .bl _,b,_,h' | .int _,b,_,h' | .str _,b,_,h'=>by cases b<;>simp [D.py,PyData.eqv,D.eqv,D.plain]at h' ⊢
 | .tup _,.non,_,_ | .tup _,.bl _,_,_ | .tup _,.int _,_,_ | .tup _,.str _,_,_ | .tup _,.lst _,_,_=>by simp [D.py,PyData.eqv,D.eqv]
 | .lst _,.non,_,_ | .lst _,.bl _,_,_ | .lst _,.int _,_,_ | .lst _,.str _,_,_ | .lst _,.tup _,_,_=>by simp [D.py,PyData.eqv,D.eqv]
 | .tup _,.fn _,_,h' | .tup _,.exn _,_,h' | .lst _,.fn _,_,h' | .lst _,.exn _,_,h' | .tup _,.dic,_,h' | .lst _,.dic,_,h'=>by simp [D.plain]at h'
theorem qfc:∀(xs ys:List D),plainAll xs=true→plainAll ys=true→PyData.eqvAll (pys xs) (pys ys)=eqvAll xs ys
 | [],[],_,_=>by simp [pys,PyData.eqvAll,eqvAll]
 |x::xs,y::ys,h,h'=>by
  simp only [plainAll,Bool.and_eq_true]at h h';simp only [pys,PyData.eqvAll,eqvAll];rw [qez x y h.1 h'.1,qfc xs ys h.2 h'.2]
 | [],_::_,_,_=>by simp [pys,PyData.eqvAll,eqvAll]
 |_::_,[],_,_=>by simp [pys,PyData.eqvAll,eqvAll]
end
theorem Rep.data{g:Gc}{H:Hp}{d:D}{v:V}(h:Rep g H d v):d.plain=true→qaK g.K H v d.py:=
 h.rec (motive_1:=fun d v _=>d.plain=true→qaK g.K H v d.py) (motive_2:=fun ds vs _=>plainAll ds=true→qbN g.K H vs (pys ds)) (fun _=>.non) (fun b _=>.bl b) (fun b _=>.int b) (fun b _=>.str b) (fun q _ r p=>.tup q (r p)) (fun q _ r p=>.lst q (r p)) (fun _ p=>nomatch p) (fun _ _ p=>nomatch p) (fun _ p=>nomatch p) (fun _=>.nil) (fun _ _ a b p=>.cons (a (qqe p).1) (b (qqe p).2))
theorem qsN{d:D}:d.asks=true↔d.plain=true∧d.deep≤20:=by simp [D.asks]
section
variable{X:Cx}{g:Gc}
theorem OpR.imp{f:Value→Value→Sem Value}{r r':R2}(h:OpR X f r)(i:∀x y H Q,r' x y H Q→r x y H Q):OpR X f r':=
 fun pins s σ H x y v u Q I rx ry q=>h pins s σ H x y v u Q I rx ry (i _ _ _ _ q)
noncomputable def qrg(K:PySem.W.Frag):R2:=fun x y H Q=>∃l b xs zs,x=.ref l∧y=.ref b∧SqL K H l xs∧SqL K H b zs∧xs.length+zs.length≤sizeLine∧∀p,H p=none→Q (.ref p) (upd H p (.lst (xs++zs)))
theorem qnt:OpR X (binaryOp .Add) (qrg X.K):=by
 intro pins s σ H x y v u Q I rx ry h;obtain⟨l,b,xs,zs,rfl,rfl,hH,hB,hz,q⟩:=h;cases rx;cases ry;obtain⟨its,r,pl,z⟩:=I.list hH;obtain⟨its2,r2,pl2,z2⟩:=I.list hB;have l1:=r.length;have l2:=r2.length;obtain⟨⟨cls,dd,data,sl⟩,ho,hc,n,hd⟩:=pl.isList;obtain⟨⟨cls2,dd2,data2,sl2⟩,ho2,hc2,n2,hd2⟩:=pl2.isList;simp only at hc hd hc2 hd2;subst hc hd hc2 hd2;refine concat_meets ⟨_,ho,rfl⟩ ⟨_,ho2,rfl⟩ noFill_list_add seq_list_add PySem.F.slot_list_add PySem.F.entry_list_add (PySem.F.args_list_add_2 _ _) (list_addW l b its.toArray its2.toArray n n2 dd dd2 sl sl2 (by rw [List.size_toArray,List.size_toArray];lia)) ⟨ho,ho2,?_⟩;have ea:its.toArray++its2.toArray=(its++its2).toArray:=by simp
 rw [ea];exact⟨.ref _,_,I.lnew (t':=s.toks) (r.append r2) (by rw [List.length_append];lia),rfl,q _ I.fresh⟩
noncomputable def qry(K:PySem.W.Frag):R2:=fun x y H Q=>∃l xs j,x=.ref l∧y=.int j∧SqL K H l xs∧0≤j∧xs.length * j.toNat≤16777216∧j≤1000000∧∀p,H p=none→Q (.ref p) (upd H p (.lst (List.replicate j.toNat xs).flatten))
theorem qgX{xs:List V}{its:List Value}(r:Vals xs its):∀n,Vals (List.replicate n xs).flatten (List.replicate n its).flatten
 | 0=>.nil
 |n+1=>by rw [List.replicate_succ,List.replicate_succ];exact r.append (qgX r n)
theorem qtn:OpR X (binaryOp .Mult) (qry X.K):=by
 intro pins s σ H x y v u Q I rx ry h;obtain⟨l,xs,j,rfl,rfl,hH,h0,hz,hj,q⟩:=h;cases rx;obtain⟨t,rfl⟩:=ry;obtain⟨its,r,pl,z⟩:=I.list hH;have l1:=r.length;obtain⟨⟨cls,dd,data,sl⟩,ho,hc,n,hd⟩:=pl.isList;simp only at hc hd;subst hc hd;have hz':its.toArray.size * j.toNat≤16777216:=by rw [List.size_toArray,←l1];exact hz
 refine wpAny_binaryOp_repeat_ref (T:="list") (U:="int") (by decide) ⟨_,ho,rfl⟩ (fun s'=>typeIs_int s' j t) noFill_list_mul PySem.F.fills_int_mul PySem.F.slot_int_rmul repeat_list PySem.F.slot_int_index.lookup
  (call_meets PySem.F.slot_int_rmul (typeIs_int s j t) PySem.F.entry_int_rmul (PySem.F.args_int_rmul_2 _ _) (lm_int_rmul_list_any j t l its.toArray n dd sl) ⟨ho,rfl,⟨_,ho,rfl⟩,call_meets PySem.F.slot_list_mul ⟨_,ho,rfl⟩ PySem.F.entry_list_mul (PySem.F.args_list_mul_2 _ _) (lm_list_mul_any l its.toArray n dd sl j t (by simp [Builtin.List.listFitsIndex];lia) (by lia) (by simp [Builtin.List.listTooLong,sizeLine];lia)) ⟨ho,?_⟩⟩)
 rw [listMul_foldl_if];exact⟨.ref _,_,I.lnew (t':=s.toks) (qgX r j.toNat) (by rw [lm_len_rep_flat,sizeLine_eq,Nat.mul_comm];exact hz),rfl,q _ I.fresh⟩
theorem qi.rep{H:Hp}{ds:List D}{vs:List V}(r:qi g H ds vs):∀n,qi g H (List.replicate n ds).flatten (List.replicate n vs).flatten
 | 0=>.nil
 |n+1=>by rw [List.replicate_succ,List.replicate_succ];exact r.append (qi.rep r n)
noncomputable def rOp(g:Gc)(o:O2):R2:=fun x y H Q=>∃S da db,Sub S H∧zu g H S da x∧zu g H S db y ∧
 match op2 o da db with
 | .ok d=>∀v H',qc H H'→Rep g (hid H' S) d v→(qmU da=true→Fr g H S H' d v)→Q v H'
 |_=>False
theorem qdw{o:O2}(ho:o≠.add)(hm:o≠.mul){da db d:D}(h:op2 o da db=.ok d):∃i j,da=.int i∧db=.int j∧opI o i j=.ok d:=by
 unfold op2 at h;split at h
 ·exact⟨_,_,rfl,rfl,h⟩
 ·rw [if_neg (fun z=>ho z.1)]at h;cases h
 ·rw [if_neg (fun z=>ho z.1)]at h;cases h
 ·rw [if_neg (fun z=>hm z.1)]at h;cases h
 ·rw [if_neg (fun z=>hm z.1)]at h;cases h
 ·cases h
theorem qhp{j:Int}(h:small j=true):-(2^64)<j∧j<2^64:=by simpa [small]using h
theorem qmJ{n:Nat}(h:n≤SZ):n≤sizeLine:=Nat.le_trans h (by rw [sizeLine_eq];decide)
theorem log2_small{j:Int}(h1:0<j)(h2:j<1000000000000000000000000000000):j.natAbs.log2<9000:=by
 have h3:j.natAbs<2^100:=by
  have:(2:Nat)^100=1267650600228229401496703205376:=by decide +kernel
  rw [this];lia
 have:=(Nat.log2_lt (n:=j.natAbs) (k:=100) (by lia)).mpr h3;lia
theorem qmk:OpR X (binaryOp .FloorDiv) (rI (fun _ j=>0<j∧j<1000000000000000000000000000000) fun i j=>.int (i/j)):=L2.opI fun i j _ _ _ _ _ hc q=>by
 have h1:(0:Int)<j:=hc.1;exact floordiv_int (by lia) (by rw [Int.fdiv_eq_ediv_of_nonneg i (by lia)];exact q) (.inl (PyProof.noPylong_of_log2 (log2_small hc.1 hc.2)))
theorem qpp(hK:X.K=g.K){op:Operator}{o:O2}(h:o2 op=some o):OpR X (binaryOp op) (rOp g o):=by
 have two:∀{f:Value→Value→Sem Value}{C:Int→Int→Prop}{q:Int→Int→Int} (o:O2),OpR X f (rI C fun i j=>.int (q i j))→(∀da db d,op2 o da db=.ok d→∃i j,da=.int i∧db=.int j∧C i j∧d=.int (q i j))→OpR X f (rOp g o):=fun o k e=>by
  refine OpR.imp k fun x y H Q ⟨S,da,db,hs,ra,rb,m⟩=>?_
  cases e1:op2 o da db with
  |ok d=>
   rw [e1]at m;obtain⟨i,j,rfl,rfl,c,rfl⟩:=e da db d e1;exact⟨i,j,ra.int,rb.int,c,m _ _ (qc.refl _) (.int _) (fun z=>nomatch z)⟩
  |ex c=>rw [e1]at m;exact m.elim
  |no=>rw [e1]at m;exact m.elim
 have two0:∀{f:Value→Value→Sem Value}{q:Int→Int→Int} (o:O2),OpR X f (rI0 fun i j=>.int (q i j))→(∀da db d,op2 o da db=.ok d→∃i j,da=.int i∧db=.int j∧d=.int (q i j))→OpR X f (rOp g o):=fun {f q} o k e=>
  two (C:=fun _ _=>True) (q:=q) o (OpR.imp k fun x y H Q ⟨i,j,h1,h2,_,h3⟩=>⟨i,j,h1,h2,h3⟩) fun da db d h=>by
   obtain⟨i,j,h1,h2,h3⟩:=e da db d h;exact⟨i,j,h1,h2,trivial,h3⟩
 cases op<;>simp only [o2,Option.some.injEq]at h<;>first|subst h|cases h
 ·-- Add
  refine OpR.imp (qtr.or (qtm.or qnt)) fun x y H Q ⟨S,da,db,hs,ra,rb,m⟩=>?_
  cases da with
  |int i=>
   cases db with
   |int j=>exact .inl ⟨i,j,ra.int,rb.int,m _ _ (qc.refl _) (.int _) (fun z=>nomatch z)⟩
   |_=>exact m.elim
  |tup xs=>
   cases db with
   |tup ys=>
    simp only [op2,true_and]at m;split at m
    ·rename_i e
     split at e<;>cases e
     rename_i hz
     obtain⟨a,vs,rfl,h1,r1⟩:=ra.tup;obtain⟨b,us,rfl,h2,r2⟩:=rb.tup;refine .inr (.inl ⟨a,b,vs,us,rfl,rfl,by rw [hK];exact h1,by rw [hK];exact h2,by rw [←r1.length,←r2.length];exact qmJ hz,fun e=>?_,fun _ e=>?_,fun _ _ p hp=>?_⟩)
     ·subst e;cases r1;exact m _ _ (qc.refl _) (rb.strong (by intro _ z;cases z)) (fun z=>nomatch z)
     ·subst e;cases r2;rw [List.append_nil]at m;exact m _ _ (qc.refl _) (ra.strong (by intro _ z;cases z)) (fun z=>nomatch z)
     ·exact m _ _ (qW hp) (qaT hs hp (r1.append r2)) (fun z=>nomatch z)
    ·exact m.elim
   |_=>exact m.elim
  |lst xs=>
   cases db with
   |lst ys=>
    simp only [op2,true_and]at m;split at m
    ·rename_i e
     split at e<;>cases e
     rename_i hz
     obtain⟨a,vs,rfl,h1,r1⟩:=ra.lst;obtain⟨b,us,rfl,h2,r2⟩:=rb.lst;refine .inr (.inr ⟨a,b,vs,us,rfl,rfl,by rw [hK];exact h1,by rw [hK];exact h2,by rw [←r1.length,←r2.length];exact qmJ hz,fun p hp=>?_⟩);exact m _ _ (qW hp) (qaU hs hp (r1.append r2)) (fun _=>qca (qc.refl _) hp (r1.append r2))
    ·exact m.elim
   |_=>exact m.elim
  |_=>exact m.elim
 ·exact two0 .sub qpn fun da db d h=>by obtain⟨i,j,rfl,rfl,h'⟩:=qdw (by decide) (by decide) h;clear h;rename _=>h;cases h;exact⟨_,_,rfl,rfl,rfl⟩
 ·refine OpR.imp (qtq.or (qtn.or qnF)) fun x y H Q ⟨S,da,db,hs,ra,rb,m⟩=>?_
  cases e1:op2 .mul da db with
  |ok d=>
   rw [e1]at m;unfold op2 at e1;split at e1
   ·simp only [opI]at e1;split at e1
    ·rename_i i j hc
     cases e1;refine .inl ⟨i,j,ra.int,rb.int,?_,m _ _ (qc.refl _) (.int _) (fun z=>nomatch z)⟩;rcases(by simpa using hc)with z|z
     ·exact .inl (qhp z)
     ·exact .inr (qhp z)
    ·cases e1
   ·rw [if_neg (fun z=>nomatch z.1)]at e1;cases e1
   ·rw [if_neg (fun z=>nomatch z.1)]at e1;cases e1
   ·split at e1
    ·rename_i xs j hc
     cases e1;obtain⟨a,vs,rfl,h1,r1⟩:=ra.lst;refine .inr (.inl ⟨a,vs,j,rfl,rb.int,by rw [hK];exact h1,hc.2.1,by rw [←r1.length];exact Nat.le_trans hc.2.2.1 (by decide),hc.2.2.2,fun p hp=>m _ _ (qW hp) (qaU hs hp (r1.rep _)) (fun _=>qca (qc.refl _) hp (r1.rep _))⟩)
    ·cases e1
   ·split at e1
    ·rename_i xs j hc
     cases e1;obtain⟨a,vs,rfl,h1,r1⟩:=ra.tup;refine .inr (.inr ⟨a,vs,j,rfl,rb.int,by rw [hK];exact h1,hc.2.1,by rw [←r1.length];exact Nat.le_trans hc.2.2.1 (by decide),hc.2.2.2,fun z=>?_,fun p hp=>m _ _ (qW hp) (qaT hs hp (r1.rep _)) (fun z=>nomatch z)⟩);have e:(List.replicate j.toNat xs).flatten=xs:=by
      rcases z with z|z
      ·have:xs=[]:=by
        subst z;cases r1;rfl
       subst this;exact lm_rep_nil _
      ·subst z;simp
     rw [e]at m;exact m _ _ (qc.refl _) (ra.strong (by intro _ z;cases z)) (fun z=>nomatch z)
    ·cases e1
   ·cases e1
  |ex c=>rw [e1]at m;exact m.elim
  |no=>rw [e1]at m;exact m.elim
 ·exact two .mod qpN fun da db d h=>by obtain⟨i,j,rfl,rfl,h'⟩:=qdw (by decide) (by decide) h;clear h;rename _=>h;simp only [opI]at h;split at h<;>cases h;rename_i hc;exact⟨_,_,rfl,rfl,hc,rfl⟩
 ·exact two .shr qqd fun da db d h=>by obtain⟨i,j,rfl,rfl,h'⟩:=qdw (by decide) (by decide) h;clear h;rename _=>h;simp only [opI]at h;split at h<;>cases h;rename_i hc;exact⟨_,_,rfl,rfl,hc,rfl⟩
 ·exact two .fdiv qmk fun da db d h=>by obtain⟨i,j,rfl,rfl,h'⟩:=qdw (by decide) (by decide) h;clear h;rename _=>h;simp only [opI]at h;split at h<;>cases h;rename_i hc;exact⟨_,_,rfl,rfl,hc,rfl⟩
theorem qbs(hK:X.K=g.K){pins:List (Addr×Obj)}{σ:L2.St}{H:Hp}{s:Shared}(I:Inv X pins σ H s){d:D}{v:V}{u:Value}(r:Rep g H d v)(a:d.asks=true)(ru:RelV v u):∃as,Reads s.heap u d.py as∧d.py.canLay0=true∧d.py.depth≤20:=by
 obtain⟨h1,h2⟩:=qsN.mp a;have h:=r.data h1;rw [←hK]at h;obtain⟨as,q⟩:=I.reads h ru;exact⟨as,q,qko h1,by rw [qip];exact h2⟩
theorem qiA:∀(a b:List Int),qba a b=HT.lexLt a b
 | [],[]=>by simp [qba,HT.lexLt]
 | [],_::_=>by simp [qba,HT.lexLt]
 |_::_,[]=>by simp [qba,HT.lexLt]
 |a::r,b::t=>by
  simp only [qba,HT.lexLt];rw [qiA r t]
  try (by_cases h:a=b<;>simp [h])
noncomputable def rCm(g:Gc)(c:C2):R2:=fun x y H Q=>∃S da db,zu g H S da x∧zu g H S db y ∧
 match qh c da db with
 | .ok b=>Q (.bl b) H
 |_=>False
open Classical in
noncomputable def qaM(h:Heap)(q:PyData)(u:Value):Bool:=if e:∃d as,Reads h u d as then PyData.eqv e.choose q else false
theorem qdV{h:Heap}{q d:PyData}{u:Value}{as:List Addr}(r:Reads h u d as):qaM h q u=PyData.eqv d q:=by
 have e:∃d as,Reads h u d as:=⟨d,as,r⟩
 unfold qaM;rw [dif_pos e];obtain⟨bs,r'⟩:=e.choose_spec;rw [(PySem.Reads.unique r' d as r).1]
theorem any_eq(hK:X.K=g.K){pins:List (Addr×Obj)}{σ:L2.St}{H:Hp}{s:Shared}(I:Inv X pins σ H s){da:D}(ha:da.asks=true){ds:List D}:∀{vs:List V}{us:List Value},qi g H ds vs→Vals vs us→ds.all D.asks=true →
  us.any (qaM s.heap da.py)=inD da ds∧∀u∈us,∃d as,Reads s.heap u d as∧d.canLay0=true∧d.depth≤20:=by
 induction ds with
 |nil=>intro vs us h r _;cases h;cases r;exact⟨rfl,fun u h=>nomatch h⟩
 |cons d ds ih=>
  intro vs us h q e;cases h with
  |cons h r=>cases q with
   |cons q t=>
    rw [List.all_cons,Bool.and_eq_true]at e;obtain⟨as,h1,h2,h3⟩:=qbs hK I h e.1 q;obtain⟨i1,i2⟩:=ih r t e.2;refine⟨?_,fun u hu=>?_⟩
    ·rw [List.any_cons,i1,qdV h1,qez _ _ (qsN.mp e.1).1 (qsN.mp ha).1]
     rfl
    ·rcases List.mem_cons.mp hu with rfl|hu
     ·exact⟨_,as,h1,h2,h3⟩
     ·exact i2 u hu
theorem qjX{A:Around}{s:Shared}{u v:Value}{d:PyData}{as:List Addr}{q:PyData}{bs:List Addr}(hu:A.units+60<cLine)(r:Reads s.heap u d as)(r':Reads s.heap v q bs)(h1:d.canLay0=true)(h2:q.canLay0=true)(h3:d.depth≤20):SeqAt.EqAt A.in1 s u v (qaM s.heap q u):=by
 rw [qdV r];refine SeqAt.eqAt_reads d q A.in1 s u v as bs r r' h1 h2 ?_;have:min d.depth q.depth≤d.depth:=Nat.min_le_left _ _;show A.units+1+_<_;lia
theorem count_eq(hK:X.K=g.K){pins:List (Addr×Obj)}{σ:L2.St}{H:Hp}{s:Shared}(I:Inv X pins σ H s){da:D}(ha:da.asks=true):∀{ds:List D}{vs:List V}{us:List Value},qi g H ds vs→Vals vs us→ds.all D.asks=true →
  us.countP (qaM s.heap da.py)=ds.countP fun z=>z.eqv da
 |_,_,_,.nil,.nil,_=>rfl
 |_,_,_,.cons h r,.cons q t,e=>by
  simp only [List.all_cons,Bool.and_eq_true]at e;obtain⟨as,h1,h2,h3⟩:=qbs hK I h e.1 q;have i1:=count_eq hK I ha r t e.2;rw [List.countP_cons,List.countP_cons,i1,qdV h1,qez _ _ (qsN.mp e.1).1 (qsN.mp ha).1]
noncomputable def qsT(g:Gc):V→List V→Hp→VK→Prop:=fun x vs H Q=>∃S ds db y,vs=[y]∧zu g H S (.lst ds) x∧zu g H S db y∧db.asks=true∧ds.all D.asks=true∧Q (.int ((ds.countP fun z=>z.eqv db:Nat):Int)) H
theorem qqa(hK:X.K=g.K)(hu:X.A.units+64<cLine):MtM X "list.count" (qsT g):=by
 intro pins s σ H x vs v us Q I rx rv h;obtain⟨S,ds,db,y,rfl,ra,rb,aa,ad,q⟩:=h;obtain⟨l,ys,rfl,hH,rr⟩:=ra.lst;cases rx;obtain⟨u,rfl,ru⟩:=rv.one;obtain⟨as,h1,h2,h3⟩:=qbs hK I rb.rep aa ru;obtain⟨its,r,⟨o,n,e,hc,hd,hs⟩,hz⟩:=I.list (by rw [hK];exact hH);obtain⟨oc,od,oo,os⟩:=o;simp only at hc hd hs;subst hc hd hs;have i1:=count_eq hK I aa (rr.mono zL) r ad;obtain⟨_,i2⟩:=any_eq hK I aa (rr.mono zL) r ad;refine call_meets F.slot_list_count ⟨_,e,rfl⟩ F.entry_list_count (F.args_list_count_2 _ _) (SeqAt.list_countAt l _ n none os u (qaM s.heap db.py)) ⟨e,fun w hw=>?_,?_⟩
 ·obtain⟨d,bs,r1,r2,r3⟩:=i2 w (by simpa using hw);exact qjX (show _+60<cLine from Nat.lt_of_le_of_lt (by first|exact Nat.add_le_add_left (by decide) _|(show X.A.units+1+60≤X.A.units+64;lia)) hu) r1 h1 r2 h2 r3
 ·exact⟨.int _,H,I.tok _,⟨s.toks,by rw [show (its.toArray.toList)=its from rfl,i1]⟩,q⟩
theorem qmS(hK:X.K=g.K)(hu:X.A.units+64<cLine)(neg:Bool):OpR X (compareOp (if neg then .NotIn else .In)) (fun x y H Q=>∃S da db ds,zu g H S da x∧zu g H S db y∧seq? db=some ds∧da.asks=true∧ds.all D.asks=true∧Q (.bl (if neg then !inD da ds else inD da ds)) H):=by
 intro pins s σ H x y v u Q I rx ry h;obtain⟨S,da,db,ds,ra,rb,es,aa,ad,q⟩:=h;obtain⟨as,h1,h2,h3⟩:=qbs hK I ra.rep aa rx;obtain⟨a,vs,rfl,hsq,rr⟩:=rb.seq es;cases ry;have go:∀{its:List Value},Vals vs its→(∀w∈its.toArray,SeqAt.EqAt X.A.in1 s w v (qaM s.heap da.py w))∧its.toArray.any (qaM s.heap da.py)=inD da ds:=fun {its} rv=>by
  obtain⟨i1,i2⟩:=any_eq hK I aa (rr.mono zL) rv ad;refine⟨fun w hw=>?_,by simpa using i1⟩;obtain⟨d,bs,r1,r2,r3⟩:=i2 w (by simpa using hw);exact qjX (Nat.lt_of_le_of_lt (Nat.add_le_add_left (by decide) _) hu) r1 h1 r2 h2 r3
 rcases hsq with hsq|hsq
 ·obtain⟨its,rv,pl,_⟩:=I.list (by rw [hK];exact hsq);obtain⟨g1,g2⟩:=go rv;cases neg with
  |false=>exact SeqAt.in_listAt (qaM s.heap da.py) pl.isList g1 ⟨.bl _,H,I,rfl,by rw [g2];exact q⟩
  |true=>exact SeqAt.notIn_listAt (qaM s.heap da.py) pl.isList g1 ⟨.bl _,H,I,rfl,by rw [g2];exact q⟩
 ·obtain⟨its,rv,pl,_⟩:=I.tuple (by rw [hK];exact hsq);obtain⟨g1,g2⟩:=go rv;cases neg with
  |false=>exact SeqAt.in_tupleAt (qaM s.heap da.py) pl g1 ⟨.bl _,H,I,rfl,by rw [g2];exact q⟩
  |true=>exact SeqAt.notIn_tupleAt (qaM s.heap da.py) pl g1 ⟨.bl _,H,I,rfl,by rw [g2];exact q⟩
theorem qmF(hK:X.K=g.K)(hu:X.A.units+64<cLine)(neg:Bool):OpR X (compareOp (if neg then .NotEq else .Eq)) (fun x y H Q=>∃S da db,zu g H S da x∧zu g H S db y∧da.asks=true∧db.asks=true∧Q (.bl (if neg then !da.eqv db else da.eqv db)) H):=by
 intro pins s σ H x y v u Q I rx ry h;obtain⟨S,da,db,ra,rb,aa,ab,q⟩:=h;obtain⟨as,h1,h2,h3⟩:=qbs hK I ra.rep aa rx;obtain⟨bs,k1,k2,k3⟩:=qbs hK I rb.rep ab ry;have e:=qez da db (qsN.mp aa).1 (qsN.mp ab).1;have room:X.A.units+min da.py.depth db.py.depth<cLine:=by
  have:min da.py.depth db.py.depth≤da.py.depth:=Nat.min_le_left _ _;lia
 cases neg with
 |false=>exact SeqAt.compareEq_reads h1 k1 h2 k2 room ⟨.bl _,H,I,by rw [e];rfl,q⟩
 |true=>exact SeqAt.compareNe_reads h1 k1 h2 k2 room ⟨.bl _,H,I,by rw [e];rfl,q⟩
theorem zu.non_iff{S:Sh}{H:Hp}{d:D}{v:V}(r:zu g H S d v):decide (v=.non)=qen d:=by
 cases r.rep<;>rfl
theorem qbt{op:CmpOp}{c:C2}{r:R2}(h:OpR X (compareOp op) r)(k:∀S da db b x y H Q,zu g H S da x→zu g H S db y→qh c da db=.ok b→Q (.bl b) H→r x y H Q):OpR X (compareOp op) (rCm g c):=by
 refine OpR.imp h fun x y H Q ⟨S,da,db,ra,rb,m⟩=>?_
 cases e:qh c da db with
 |ok b=>rw [e]at m;exact k S da db b x y H Q ra rb e m
 |ex c'=>rw [e]at m;exact m.elim
 |no=>rw [e]at m;exact m.elim
theorem qpI:OpR X (compareOp .Is) (fun x y H Q=>∃a b,x=.bl a∧y=.bl b∧Q (.bl (a==b)) H):=by
 intro pins s σ H x y v u Q I rx ry h;obtain⟨a,b,rfl,rfl,q⟩:=h;cases rx;cases ry;exact is_bool (qeB I q rfl)
theorem qkG:OpR X (compareOp .IsNot) (fun x y H Q=>∃a b,x=.bl a∧y=.bl b∧Q (.bl (!(a==b))) H):=by
 intro pins s σ H x y v u Q I rx ry h;obtain⟨a,b,rfl,rfl,q⟩:=h;cases rx;cases ry;exact isnot_bool (qeB I q rfl)
theorem qkT{n:Bool}{a b:EV.D}{c:Bool}(h:isB n a b=.ok c):∃x y,a=.bl x∧b=.bl y∧c=(n != (x==y)):=by
 unfold isB at h;split at h
 ·cases h;exact⟨_,_,rfl,rfl,rfl⟩
 ·cases h
theorem qam(hK:X.K=g.K)(hu:X.A.units+64<cLine)(op:CmpOp):OpR X (compareOp op) (rCm g (c2 op)):=by
 cases op
 ·exact qbt (qmF hK hu false) fun S da db b x y H Q ra rb e q=>by
   simp only [c2,qh]at e;split at e<;>cases e
   rename_i a
   simp only [Bool.and_eq_true]at a;exact⟨S,da,db,ra,rb,a.1,a.2,q⟩
 ·exact qbt (qmF hK hu true) fun S da db b x y H Q ra rb e q=>by
   simp only [c2,qh]at e;split at e<;>cases e
   rename_i a
   simp only [Bool.and_eq_true]at a;exact⟨S,da,db,ra,rb,a.1,a.2,q⟩
 ·exact qbt (qtt.or (qqk (by lia))) fun S da db b x y H Q ra rb e q=>by
   simp only [c2]at e;cases da with
   |int i=>
    cases db with
    |int j=>cases e;exact .inl ⟨i,j,ra.int,rb.int,q⟩
    |_=>cases e
   |tup xs=>
    cases db with
    |tup ys=>
     simp only [qh]at e;split at e
     ·rename_i ns ms e1 e2
      cases e;obtain⟨a,vs,rfl,h1,r1⟩:=ra.tup;obtain⟨b,us,rfl,h2,r2⟩:=rb.tup;obtain⟨rfl,_⟩:=r1.ints e1;obtain⟨rfl,_⟩:=r2.ints e2;exact .inr ⟨a,b,ns,ms,rfl,rfl,by rw [hK];exact h1,by rw [hK];exact h2,qiA ns ms▸q⟩
     ·cases e
    |_=>cases e
   |_=>cases db<;>cases e
 ·exact qbt qrY fun S da db b x y H Q ra rb e q=>by
   cases da with
   |int i=>
    cases db with
    |int j=>cases e;exact⟨_,_,ra.int,rb.int,q⟩
    |_=>cases e
   |_=>cases e
 ·exact qbt qru fun S da db b x y H Q ra rb e q=>by
   cases da with
   |int i=>
    cases db with
    |int j=>cases e;exact⟨_,_,ra.int,rb.int,q⟩
    |_=>cases e
   |_=>cases e
 ·exact qbt qrf fun S da db b x y H Q ra rb e q=>by
   cases da with
   |int i=>
    cases db with
    |int j=>cases e;exact⟨_,_,ra.int,rb.int,q⟩
    |_=>cases e
   |_=>cases e
 ·exact qbt (qts.or qpI) fun S da db b x y H Q ra rb e q=>by
   simp only [c2,qh]at e;split at e
   ·rename_i hd
    cases e;have hd:db=.non:=by cases db<;>first|rfl|cases hd
    subst hd;cases rb.rep;exact .inl ⟨rfl,by rw [ra.non_iff];exact q⟩
   ·obtain⟨a,c,rfl,rfl,rfl⟩:=qkT e;cases ra.rep;cases rb.rep;exact .inr ⟨a,c,rfl,rfl,by cases a<;>cases c<;>exact q⟩
 ·exact qbt (qto.or qkG) fun S da db b x y H Q ra rb e q=>by
   simp only [c2,qh]at e;split at e
   ·rename_i hd
    cases e;have hd:db=.non:=by cases db<;>first|rfl|cases hd
    subst hd;cases rb.rep;exact .inl ⟨rfl,by rw [ra.non_iff];exact q⟩
   ·obtain⟨a,c,rfl,rfl,rfl⟩:=qkT e;cases ra.rep;cases rb.rep;exact .inr ⟨a,c,rfl,rfl,by cases a<;>cases c<;>exact q⟩
 ·exact qbt (qmS hK hu false) fun S da db b x y H Q ra rb e q=>by
   simp only [c2,qh]at e;split at e
   ·rename_i xs es
    split at e<;>cases e
    rename_i a
    simp only [Bool.and_eq_true]at a;exact⟨S,da,db,xs,ra,rb,es,a.1,a.2,q⟩
   ·cases e
 ·exact qbt (qmS hK hu true) fun S da db b x y H Q ra rb e q=>by
   simp only [c2,qh]at e;split at e
   ·rename_i xs es
    split at e<;>cases e
    rename_i a
    simp only [Bool.and_eq_true]at a;exact⟨S,da,db,xs,ra,rb,es,a.1,a.2,q⟩
   ·cases e
end
abbrev qbM(g:Gc)(H:Hp)(S:Sh):List D→List V→Prop:=Paired (zu g H S)
section
variable{X:Cx}{g:Gc}
theorem qim{H:Hp}{ds:List D}{vs:List V}{i:Int}{d:D}(r:qi g H ds vs)(e:atI ds i=some d):∃v,atI vs i=some v∧Rep g H d v:=by
 unfold atI at e ⊢;rw [←r.length];cases q:ixN ds.length i with
 |none=>rw [q]at e;cases e
 |some j=>rw [q]at e;exact r.get e
noncomputable def qsX(g:Gc):R2:=fun x y H Q=>∃S da db,zu g H S da x∧zu g H S db y ∧
 match ixD da db with
 | .ok d=>∀v,Rep g (hid H S) d v→Q v H
 |_=>False
theorem qpz(hK:X.K=g.K):IxR X (qsX g):=by
 have k:IxR X (fun x y H Q=>qqj X.K x y H Q∨qoY X.K x y H Q):=qtp.or qpl;intro value slice pins s σ H x y v u Q I rx ry h hs;refine k value slice pins s σ H x y v u Q I rx ry ?_ hs;obtain⟨S,da,db,ra,rb,m⟩:=h;cases da with
 |tup xs=>
  cases db with
  |int i=>
   simp only [ixD]at m;cases e:atI xs i with
   |none=>rw [e]at m;exact m.elim
   |some d=>
    rw [e]at m;obtain⟨a,vs,rfl,h1,r1⟩:=ra.tup;obtain⟨w,h2,h3⟩:=qim r1 e;exact .inr ⟨a,vs,i,w,rfl,rb.int,by rw [hK];exact h1,h2,m w h3⟩
  |_=>exact m.elim
 |lst xs=>
  cases db with
  |int i=>
   simp only [ixD]at m;cases e:atI xs i with
   |none=>rw [e]at m;exact m.elim
   |some d=>
    rw [e]at m;obtain⟨a,vs,rfl,h1,r1⟩:=ra.lst;obtain⟨w,h2,h3⟩:=qim r1 e;exact .inl ⟨a,vs,i,w,rfl,rb.int,by rw [hK];exact h1,h2,m w h3⟩
  |_=>exact m.elim
 |_=>exact m.elim
noncomputable def qsK(g:Gc):V→Option Int→Option Int→Hp→VK→Prop:=fun x lo hi H Q=>∃S da,Sub S H∧zu g H S da x ∧
 match slD da lo hi with
 | .ok d=>∀v H',qc H H'→Rep g (hid H' S) d v→Q v H'
 |_=>False
theorem qgJ{H:Hp}{ds:List D}{vs:List V}(r:qi g H ds vs)(lo hi:Option Int):qi g H (cutD ds lo hi) (qdo vs lo hi):=by
 unfold cutD qdo;rw [r.length];exact(r.drop _).take _
theorem qqS(hK:X.K=g.K):SlR X (qsK g):=by
 intro pins s σ H x v vl vu lo hi sl Q I rx hs pl pu h;obtain⟨S,da,hS,ra,m⟩:=h;cases da with
 |lst xs=>
  obtain⟨a,vs,rfl,h1,r1⟩:=ra.lst;exact qoj pins s σ H _ v vl vu lo hi sl Q I rx hs pl pu ⟨a,vs,rfl,by rw [hK];exact h1,fun p hp=>m _ _ (qW hp) (qaU hS hp (qgJ r1 lo hi))⟩
 |tup xs=>
  obtain⟨a,vs,rfl,h1,r1⟩:=ra.tup;simp only [slD]at m;by_cases hw:HT.sIx xs.length 0 lo=0∧HT.sIx xs.length xs.length hi=xs.length
  ·have e:cutD xs lo hi=xs:=by unfold cutD;rw [hw.1,hw.2];simp
   rw [e]at m;rw [r1.length]at hw;exact qlU pins s σ H _ v vl vu lo hi sl Q I rx hs pl pu ⟨a,vs,rfl,by rw [hK];exact h1,hw.1,hw.2,m _ _ (qc.refl _) (ra.strong (by intro _ z;cases z))⟩
  ·rw [r1.length]at hw;exact qoA pins s σ H _ v vl vu lo hi sl Q I rx hs pl pu ⟨a,vs,rfl,by rw [hK];exact h1,hw,fun p hp=>m _ _ (qW hp) (qaT hS hp (qgJ r1 lo hi))⟩
 |_=>exact m.elim
noncomputable def b1V:B1→Value
 | .len=>.builtin "len"
 | .tuple=>.type "tuple"
 | .list=>.type "list"
 | .sorted=>.builtin "sorted"
 | .all=>.builtin "all"
 | .any=>.builtin "any"
 | .sum=>.builtin "sum"
 | .min=>.builtin "min"
 | .max=>.builtin "max"
 | .abs=>.builtin "abs"
 | .int=>.type "int"
 | .bool=>.type "bool"
noncomputable def rB1(g:Gc)(b:B1):List V→Hp→VK→Prop:=fun vs H Q=>∃S ds,Sub S H∧qbM g H S ds vs ∧
 match b1 b ds with
 | .ok d=>∀v H',qc H H'→Rep g (hid H' S) d v→(b=.list∨b=.sorted→Fr g H S H' d v)→Q v H'
 |_=>False
theorem qT.imp{f:Value}{r r':List V→Hp→VK→Prop}(h:qT X f r)(i:∀xs H Q,r' xs H Q→r xs H Q):qT X f r':=
 fun pins s σ H xs us Q I rv q=>h pins s σ H xs us Q I rv (i _ _ _ q)
theorem qbc{f:Value}{b:B1}{r:List V→Hp→VK→Prop}(h:qT X f r)
  (k:∀S ds d vs H Q,Sub S H→qbM g H S ds vs→b1 b ds=.ok d→(∀v H',qc H H'→Rep g (hid H' S) d v→(b=.list∨b=.sorted→Fr g H S H' d v)→Q v H')→r vs H Q):qT X f (rB1 g b):=by
 refine qT.imp h fun vs H Q ⟨S,ds,hs,rs,m⟩=>?_
 cases e:b1 b ds with
 |ok d=>rw [e]at m;exact k S ds d vs H Q hs rs e m
 |ex c=>rw [e]at m;exact m.elim
 |no=>rw [e]at m;exact m.elim
theorem qbl{b:B1}(hb:∀x y,b12 b x y=.no){ds:List D}{d:D}(h:b1 b ds=.ok d):∃x,ds=[x]∧b11 b x=.ok d:=by
 match ds,h with
 | [x],h=>exact⟨x,rfl,h⟩
 | [x,y],h=>have h:b12 b x y=.ok d:=h;rw [hb]at h;cases h
 | [],h=>cases h
 |_::_::_::_,h=>cases h
theorem qbj{x r:D}{k:List D→R D}(h:qaO x k=.ok r):∃xs,x=.lst xs∧k xs=.ok r:=by
 cases x with
 |lst xs=>exact⟨xs,rfl,h⟩
 |_=>cases h
theorem qeY{x r:D}{f:Int→R D}{q:Bool→R D}(h:ibR x f q=.ok r):(∃i,x=.int i∧f i=.ok r)∨(∃b,x=.bl b∧q b=.ok r):=by
 cases x with
 |int i=>exact .inl ⟨i,rfl,h⟩
 |bl i=>exact .inr ⟨i,rfl,h⟩
 |_=>cases h
theorem qir{x y r:D}{k:Int→Int→R D}(h:iiR x y k=.ok r):∃i j,x=.int i∧y=.int j∧k i j=.ok r:=by
 cases x with
 |int i=>
  cases y with
  |int j=>exact⟨i,j,rfl,rfl,h⟩
  |_=>cases h
 |_=>cases h
theorem qbm{α β:Type}{o:Option α}{k:α→R β}{r:β}(h:qaA o k=.ok r):∃a,o=some a∧k a=.ok r:=by
 cases o with
 |some a=>exact⟨a,rfl,h⟩
 |none=>cases h
theorem qeN{b:B1}{ds:List D}{d:D}{q:List D→R D}(h:b1 b ds=.ok d)(e:∀x,b1 b [x]=qaA (seq? x) q)(n:ds.length≠1→b1 b ds=.no):∃x xs,ds=[x]∧seq? x=some xs∧q xs=.ok d:=by
 match ds with
 | []=>rw [n (by simp)]at h;cases h
 | [x]=>
  rw [e]at h;cases z:seq? x with
  |none=>rw [z]at h;cases h
  |some xs=>rw [z]at h;exact⟨x,xs,rfl,z,h⟩
 |x::y::r=>rw [n (by simp)]at h;cases h
theorem qqf(hK:X.K=g.K):qT X (.builtin "len") (rB1 g .len):=qbc qhd fun S ds d vs H Q hs rs h q=>by
 obtain⟨x,xs,rfl,e,h⟩:=qeN (q:=fun xs=>.ok (.int xs.length)) h (fun _=>rfl) (fun n=>by match ds,n with | [],_=>rfl | [_,_],_=>rfl|_::_::_::_,_=>rfl);cases h;cases rs with
 |cons r rs=>
  cases rs;obtain⟨a,us,rfl,h1,r1⟩:=r.seq e;exact⟨a,us,rfl,by rw [hK];exact h1,by rw [←r1.length];exact q _ _ (qc.refl _) (.int _) (by simp)⟩
theorem qls(hK:X.K=g.K):qT X (.type "tuple") (rB1 g .tuple):=qbc qgd fun S ds d vs H Q hs rs h q=>by
 obtain⟨x,xs,rfl,e,h⟩:=qeN (q:=fun xs=>.ok (.tup xs)) h (fun _=>rfl) (fun n=>by match ds,n with | [],_=>rfl | [_,_],_=>rfl|_::_::_::_,_=>rfl);cases h;cases rs with
 |cons r rs=>
  cases rs;cases x with
  |lst ys=>
   cases e;obtain⟨a,us,rfl,h1,r1⟩:=r.lst;exact⟨a,us,rfl,.inl ⟨by rw [hK];exact h1,fun p hp=>q _ _ (qW hp) (qaT hs hp r1) (by simp)⟩⟩
  |tup ys=>
   cases e;have z:=r.strong (by intro _ z;cases z);obtain⟨a,us,rfl,h1,r1⟩:=r.tup;exact⟨a,us,rfl,.inr ⟨by rw [hK];exact h1,q _ _ (qc.refl _) z (by simp)⟩⟩
  |_=>cases e
theorem qnR(hK:X.K=g.K):qT X (.type "list") (rB1 g .list):=qbc qgI fun S ds d vs H Q hs rs h q=>by
 obtain⟨x,xs,rfl,e,h⟩:=qeN (q:=fun xs=>.ok (.lst xs)) h (fun _=>rfl) (fun n=>by match ds,n with | [],_=>rfl | [_,_],_=>rfl|_::_::_::_,_=>rfl);cases h;cases rs with
 |cons r rs=>
  cases rs;obtain⟨a,us,rfl,h1,r1⟩:=r.seq e;exact⟨a,us,rfl,by rw [hK];exact h1,fun p hp=>q _ _ (qW hp) (qaU hs hp r1) fun _=>qca (qc.refl _) hp r1⟩
theorem qhI(hc:X.calm=true)(al:Bool):qT X (.builtin (if al then "all" else "any")) (fun xs H Q=>∃(l:Addr) (bs:List Bool),xs=[.ref l]∧SqL X.K H l (bs.map V.bl)∧Q (.bl (if al then bs.all id else bs.any id)) H):=by
 intro pins s σ H xs us Q I r h;obtain⟨l,bs,rfl,hl,q⟩:=h;obtain⟨u,rfl,ru⟩:=r.one;cases ru;obtain⟨its,rv,pl,hz⟩:=I.list hl;have e:=qnP (A:=X.A) rv;subst e;have hlt:l<s.heap.objs.size:=by obtain⟨_,e,_⟩:=pl.isList;exact Heap.lt_size e
 have tr:TruthOf X.prog X.w X.A.in1 (fun i v=>(bs.map Value.bool).toArray[i]? = some v) (fun i=>(bs[i]?).getD al):=fun i v s' Q' E' hP hQ=>by
  have hv:(bs.map Value.bool)[i]? = some v:=by simpa using hP
  rw [List.getElem?_map]at hv;cases e:bs[i]? with
  |none=>rw [e]at hv;cases hv
  |some b=>
   rw [e]at hv;cases hv;simp only [e,Option.getD_some]at hQ;exact wpAny_truthy_bool hQ
 have wk:=Walks.list (prog:=X.prog) (w:=X.w) (A:=X.A.in1) (I.ok.hd hc) s.heap.objs.size l (Nat.ne_of_lt hlt) (bs.map Value.bool).toArray;cases al with
 |true=>
  refine call_all_walk (wpAny_pyIter_list pl.isList ?_);refine⟨s.heap.objs.size,[s.heap.objs.size,l],[s.heap.objs.size],_,_,_,_,rfl,wk,⟨⟨_,Heap.get?_push_size _ rfl,rfl,rfl⟩,pl.isList.push _⟩,tr,fun h' tk hk=>?_⟩;have e:((List.range (bs.map Value.bool).toArray.size).all fun i=>(bs[i]?).getD true)=bs.all id:=by
   rw [List.size_toArray,List.length_map];exact LSm.range_all bs
  rw [e];exact⟨.bl _,H,I.kept (LSm.kept_iter hk),rfl,q⟩
 |false=>
  refine call_any_walk (wpAny_pyIter_list pl.isList ?_);refine⟨s.heap.objs.size,[s.heap.objs.size,l],[s.heap.objs.size],_,_,_,_,rfl,wk,⟨⟨_,Heap.get?_push_size _ rfl,rfl,rfl⟩,pl.isList.push _⟩,tr,fun h' tk hk=>?_⟩;have e:((List.range (bs.map Value.bool).toArray.size).any fun i=>(bs[i]?).getD false)=bs.any id:=by
   rw [List.size_toArray,List.length_map,Bool.eq_iff_iff];simp only [List.any_eq_true,List.mem_range,id];constructor
   ·rintro⟨i,hi,e⟩;rw [List.getElem?_eq_getElem hi]at e;exact⟨_,List.getElem_mem hi,e⟩
   ·rintro⟨b,hb,e⟩;obtain⟨i,hi,rfl⟩:=List.getElem_of_mem hb;exact⟨i,hi,by rw [List.getElem?_eq_getElem hi];exact e⟩
  rw [e];exact⟨.bl _,H,I.kept (LSm.kept_iter hk),rfl,q⟩
theorem qfo(hK:X.K=g.K)(hc:X.calm=true)(al:Bool):qT X (.builtin (if al then "all" else "any")) (rB1 g (if al then .all else .any)):=qbc (qhI hc al) fun S ds d vs H Q hs rs h q=>by
 obtain⟨xs,bs,rfl,e,rfl⟩:∃xs bs,ds=[.lst xs]∧bools? xs=some bs∧d=.bl (if al then bs.all id else bs.any id):=by
  cases al
  ·obtain⟨x,rfl,h'⟩:=qbl (fun _ _=>rfl) h;obtain⟨xs,rfl,h'⟩:=qbj h';obtain⟨bs,e,h'⟩:=qbm h';cases h';exact⟨xs,bs,rfl,e,rfl⟩
  ·obtain⟨x,rfl,h'⟩:=qbl (fun _ _=>rfl) h;obtain⟨xs,rfl,h'⟩:=qbj h';obtain⟨bs,e,h'⟩:=qbm h';cases h';exact⟨xs,bs,rfl,e,rfl⟩
 cases rs with
 |cons r rs=>
  cases rs;obtain⟨a,us,rfl,h1,r1⟩:=r.lst;have e2:=r1.bools e;subst e2;exact⟨a,bs,rfl,by rw [hK];exact h1,q _ _ (qc.refl _) (.bl _) (by cases al<;>simp)⟩
end
end EV
namespace TS
open PySem PyProof.Rows
noncomputable def qig:Bool→Keyed→Array Keyed→Nat→Nat→Nat→StateT SortSt Sem (Option Nat):=sortPriv% PySem.Builtin.gallop
noncomputable def qhB:Array Keyed→Array Keyed→StateT SortSt Sem (Array Keyed):=sortPriv% PySem.Builtin.mergeLo
noncomputable def qhz:Array Keyed→Array Keyed→StateT SortSt Sem (Array Keyed):=sortPriv% PySem.Builtin.mergeHi
structure Cmp(prog:Program)(w:World)(A:Around)(s:Shared)(κ:SortKind)(D:Keyed→Prop)(LT:Keyed→Keyed→Bool):Prop where
 lt:∀x y,D x→D y→∀Q:Bool→Shared→Prop,Q (LT x y) s→wpAny (model prog w) A (keyLt' κ x.1 y.1) Q (fun _ _=>False) s
 asym:∀x y,LT x y=true→LT y x=false
 neg:∀x y z,LT y x=false→LT z y=false→LT z x=false
section
variable{prog:Program}{w:World}{A:Around}{E:Value→Shared→Prop}{s:Shared}{κ:SortKind}{D:Keyed→Prop}{LT:Keyed→Keyed→Bool}
theorem zh{arr:Array Keyed}{i:Nat}{x:Keyed}{Q:Keyed→SortSt→Prop}{st:SortSt}(hx:arr[i]? = some x)(h:Q x st):wpS (model prog w) A E s (elem' arr i) Q st:=by
 rw [elem'_eq,hx];exact wpS_pure h
theorem qdd(C:Cmp prog w A s κ D LT){x y:Keyed}(hx:D x)(hy:D y){Q:Option Bool→SortSt→Prop}{st:SortSt}(hk:kindOf st=κ)(h:Q (some (LT x y)) st):wpS (model prog w) A E s (lt' x y) Q st:=by
 rw [lt'_eq];refine wpS_bind (wpS_get ?_);rw [hk];refine wpS_bind (wpS_lift (wpAny_attempt (wpAny_mono (C.lt x y hx hy (fun b s'=>s'=s∧b=LT x y) ⟨rfl,rfl⟩) (fun b s' hb=>?_) fun _ _ z=>z.elim)));obtain⟨rfl,rfl⟩:=hb;exact⟨rfl,wpS_pure h⟩
noncomputable def bey(LT:Keyed→Keyed→Bool)(left:Bool)(key:Keyed)(x:Keyed):Bool:=if left then LT x key else !LT key x
theorem qap(C:Cmp prog w A s κ D LT){left:Bool}{key:Keyed}{arr:Array Keyed}{base n hint:Nat}{Q:Option Nat→SortSt→Prop}{st:SortSt}(hk:kindOf st=κ)(hkey:D key)(it:Nat→Keyed)(ha:∀i,i<n→arr[base+i]? = some (it i)∧D (it i))(hh:hint<n)
  (mono:∀i j,i≤j→j<n→bey LT left key (it j)=true→bey LT left key (it i)=true)
  (h:∀k,k≤n→(∀i,i<k→bey LT left key (it i)=true)→(∀i,k≤i→i<n→bey LT left key (it i)=false)→Q (some k) st):wpS (model prog w) A E s (qig left key arr base n hint) Q st:=by
 have ask:∀(i:Nat) (R:Option Bool→SortSt→Prop),i<n→R (some (bey LT left key (it i))) st→wpS (model prog w) A E s (do
   let x ←elem' arr (base+i)
   if left=true then lt' x key else do
    let r ←lt' key x
    pure (r.map (!·))) R st:=fun i R hi hR=>by
  obtain⟨h1,h2⟩:=ha i hi;refine wpS_bind (zh h1 ?_);cases left with
  |true=>rw [if_pos rfl];exact qdd C h2 hkey hk hR
  |false=>rw [if_neg (by decide)];exact wpS_bind (qdd C hkey h2 hk (wpS_pure hR))
 have mono':∀i j,i≤j→j<n→bey LT left key (it i)=false→bey LT left key (it j)=false:=fun i j hij hj hf=>by
  cases q:bey LT left key (it j)with
  |false=>rfl
  |true=>rw [mono i j hij hj q]at hf;cases hf
 -- the last loop
 have fin:∀(lo hi:Nat) (f:Nat→Option (Option Nat)×Nat×Nat→StateT SortSt Sem (ForInStep (Option (Option Nat)×Nat×Nat))) (g:Option (Option Nat)×Nat×Nat→StateT SortSt Sem (Option Nat)),lo≤hi→hi≤n →
   (∀i,i<lo→bey LT left key (it i)=true)→(∀i,hi≤i→i<n→bey LT left key (it i)=false) →
   (∀i lo hi R,lo ≥ hi→R (.done (none,lo,hi)) st→wpS (model prog w) A E s (f i (none,lo,hi)) R st) →
   (∀i lo hi R,¬ lo ≥ hi→hi≤n→R (if bey LT left key (it (lo+(hi-lo)/2))=true then .yield (none,lo+(hi-lo)/2+1,hi)else .yield (none,lo,lo+(hi-lo)/2)) st→wpS (model prog w) A E s (f i (none,lo,hi)) R st) →
   (∀lo hi,Q (some hi) st→wpS (model prog w) A E s (g (none,lo,hi)) Q st) →
   wpS (model prog w) A E s (forIn [:n] (none,lo,hi) f>>=g) Q st:=by
  intro lo hi f g h1 h2 hlo hhi hf1 hf2 hg;refine wpS_bind (wpS_forRange (fun i c st'=>st'=st∧c.1=none∧c.2.1≤c.2.2∧c.2.2≤n∧c.2.2-c.2.1≤n-i∧(∀i,i<c.2.1→bey LT left key (it i)=true)∧(∀i,c.2.2≤i→i<n→bey LT left key (it i)=false)) ?_ ?_ ⟨rfl,rfl,h1,h2,by show hi-lo≤n-0;lia,hlo,hhi⟩)
  ·rintro i ⟨c0,lo,hi⟩ st' _ hi' ⟨rfl,rfl,g1,g2,g3,g4,g5⟩;dsimp only at g1 g2 g3 g4 g5 ⊢;by_cases hge:lo ≥ hi
   ·have:lo=hi:=by lia
    subst this;exact hf1 _ _ _ _ hge (hg _ _ (h lo g2 g4 g5))
   ·refine hf2 _ _ _ _ hge g2 ?_;cases q:bey LT left key (it (lo+(hi-lo)/2))with
    |true=>
     rw [if_pos rfl];refine⟨rfl,rfl,?_,g2,?_,fun j hj=>?_,g5⟩
     ·show lo+(hi-lo)/2+1≤hi;lia
     ·show hi-(lo+(hi-lo)/2+1)≤n-(i+1);lia
     ·exact mono j _ (by have:j<lo+(hi-lo)/2+1:=hj;lia) (by lia) q
    |false=>
     rw [if_neg (by decide)];refine⟨rfl,rfl,?_,?_,?_,g4,fun j hj hjn=>?_⟩
     ·show lo≤lo+(hi-lo)/2;lia
     ·show lo+(hi-lo)/2≤n;lia
     ·show lo+(hi-lo)/2-lo≤n-(i+1);lia
     ·exact mono' _ j hj hjn q
  ·rintro⟨c0,lo,hi⟩ st' ⟨rfl,rfl,g1,g2,g3,g4,g5⟩;dsimp only at g1 g2 g3 g4 g5;have:lo=hi:=by lia
   subst this;exact hg _ _ (h lo g2 g4 g5)
 unfold qig;refine wpS_bind (ask hint _ hh ?_);cases q:bey LT left key (it hint)with
 |true=>
  dsimp only;rw [if_pos rfl];refine wpS_bind (wpS_forRange (fun i c st'=>st'=st∧c.1=none∧c.2.1<c.2.2∧i+1≤c.2.2∧hint+c.2.1<n∧bey LT left key (it (hint+c.2.1))=true) ?_ ?_ ⟨rfl,rfl,by show 0<1;lia,by show 0+1≤1;lia,by show hint+0<n;lia,by show bey LT left key (it (hint+0))=true;exact q⟩)
  ·rintro i ⟨c0,la,ofs⟩ st' _ hi' ⟨rfl,rfl,g1,g2,g3,g4⟩;dsimp only at g1 g2 g3 g4 ⊢;by_cases hge:ofs ≥ n-hint
   ·rw [if_pos hge];refine wpS_pure ?_;refine fin (hint+la+1) (hint+min ofs (n-hint)) _ _ (by lia) (by lia) (fun j hj=>mono j _ (by lia) g3 g4) (fun j hj hjn=>by lia) ?_ ?_ ?_
    ·intro i lo hi R hge hR;dsimp only;rw [if_pos hge];exact wpS_pure hR
    ·intro i lo hi R hge hn hR;dsimp only;rw [if_neg hge];refine wpS_bind (ask _ _ (by lia) ?_);cases q9:bey LT left key (it (lo+(hi-lo)/2))with
     |true=>rw [q9]at hR;exact wpS_pure hR
     |false=>rw [q9]at hR;exact wpS_pure hR
    ·intro lo hi hQ;exact wpS_pure hQ
   ·rw [if_neg hge];refine wpS_bind (ask _ _ (by lia) ?_);cases q2:bey LT left key (it (hint+ofs))with
    |false=>
     refine wpS_pure ?_;refine fin (hint+la+1) (hint+min ofs (n-hint)) _ _ (by lia) (by lia) (fun j hj=>mono j _ (by lia) g3 g4) (fun j hj hjn=>mono' (hint+ofs) j (by lia) hjn q2) ?_ ?_ ?_
     ·intro i lo hi R hge hR;dsimp only;rw [if_pos hge];exact wpS_pure hR
     ·intro i lo hi R hge hn hR;dsimp only;rw [if_neg hge];refine wpS_bind (ask _ _ (by lia) ?_);cases q9:bey LT left key (it (lo+(hi-lo)/2))with
      |true=>rw [q9]at hR;exact wpS_pure hR
      |false=>rw [q9]at hR;exact wpS_pure hR
     ·intro lo hi hQ;exact wpS_pure hQ
    |true=>
     refine wpS_pure ⟨rfl,rfl,?_,?_,?_,q2⟩
     ·show ofs<2 * ofs+1;lia
     ·show i+1+1≤2 * ofs+1;lia
     ·show hint+ofs<n;lia
  ·rintro⟨c0,la,ofs⟩ st' ⟨rfl,rfl,g1,g2,g3,g4⟩;dsimp only at g1 g2 g3 g4;refine fin (hint+la+1) (hint+min ofs (n-hint)) _ _ (by lia) (by lia) (fun j hj=>mono j _ (by lia) g3 g4) (fun j hj hjn=>by lia) ?_ ?_ ?_
   ·intro i lo hi R hge hR;dsimp only;rw [if_pos hge];exact wpS_pure hR
   ·intro i lo hi R hge hn hR;dsimp only;rw [if_neg hge];refine wpS_bind (ask _ _ (by lia) ?_);cases q9:bey LT left key (it (lo+(hi-lo)/2))with
    |true=>rw [q9]at hR;exact wpS_pure hR
    |false=>rw [q9]at hR;exact wpS_pure hR
   ·intro lo hi hQ;exact wpS_pure hQ
 |false=>
  dsimp only;rw [if_neg (by decide)];refine wpS_bind (wpS_forRange (fun i c st'=>st'=st∧c.1=none∧c.2.1<c.2.2∧i+1≤c.2.2∧c.2.1≤hint∧bey LT left key (it (hint-c.2.1))=false) ?_ ?_ ⟨rfl,rfl,by show 0<1;lia,by show 0+1≤1;lia,by show 0≤hint;lia,by show bey LT left key (it (hint-0))=false;exact q⟩)
  ·rintro i ⟨c0,la,ofs⟩ st' _ hi' ⟨rfl,rfl,g1,g2,g3,g4⟩;dsimp only at g1 g2 g3 g4 ⊢;by_cases hge:ofs ≥ hint+1
   ·rw [if_pos hge];refine wpS_pure ?_;refine fin (hint+1-min ofs (hint+1)) (hint-la) _ _ (by lia) (by lia) (fun j hj=>by lia) (fun j hj hjn=>mono' (hint-la) j (by lia) hjn g4) ?_ ?_ ?_
    ·intro i lo hi R hge hR;dsimp only;rw [if_pos hge];exact wpS_pure hR
    ·intro i lo hi R hge hn hR;dsimp only;rw [if_neg hge];refine wpS_bind (ask _ _ (by lia) ?_);cases q9:bey LT left key (it (lo+(hi-lo)/2))with
     |true=>rw [q9]at hR;exact wpS_pure hR
     |false=>rw [q9]at hR;exact wpS_pure hR
    ·intro lo hi hQ;exact wpS_pure hQ
   ·rw [if_neg hge];refine wpS_bind (ask _ _ (by lia) ?_);cases q2:bey LT left key (it (hint-ofs))with
    |true=>
     refine wpS_pure ?_;refine fin (hint+1-min ofs (hint+1)) (hint-la) _ _ (by lia) (by lia) (fun j hj=>mono j (hint-ofs) (by lia) (by lia) q2) (fun j hj hjn=>mono' (hint-la) j (by lia) hjn g4) ?_ ?_ ?_
     ·intro i lo hi R hge hR;dsimp only;rw [if_pos hge];exact wpS_pure hR
     ·intro i lo hi R hge hn hR;dsimp only;rw [if_neg hge];refine wpS_bind (ask _ _ (by lia) ?_);cases q9:bey LT left key (it (lo+(hi-lo)/2))with
      |true=>rw [q9]at hR;exact wpS_pure hR
      |false=>rw [q9]at hR;exact wpS_pure hR
     ·intro lo hi hQ;exact wpS_pure hQ
    |false=>
     refine wpS_pure ⟨rfl,rfl,?_,?_,?_,q2⟩
     ·show ofs<2 * ofs+1;lia
     ·show i+1+1≤2 * ofs+1;lia
     ·show ofs≤hint;lia
  ·rintro⟨c0,la,ofs⟩ st' ⟨rfl,rfl,g1,g2,g3,g4⟩;dsimp only at g1 g2 g3 g4;refine fin (hint+1-min ofs (hint+1)) (hint-la) _ _ (by lia) (by lia) (fun j hj=>by lia) (fun j hj hjn=>mono' (hint-la) j (by lia) hjn g4) ?_ ?_ ?_
   ·intro i lo hi R hge hR;dsimp only;rw [if_pos hge];exact wpS_pure hR
   ·intro i lo hi R hge hn hR;dsimp only;rw [if_neg hge];refine wpS_bind (ask _ _ (by lia) ?_);cases q9:bey LT left key (it (lo+(hi-lo)/2))with
    |true=>rw [q9]at hR;exact wpS_pure hR
    |false=>rw [q9]at hR;exact wpS_pure hR
   ·intro lo hi hQ;exact wpS_pure hQ
end
structure Wo(LT:Keyed→Keyed→Bool):Prop where
 asym:∀x y,LT x y=true→LT y x=false
 neg:∀x y z,LT y x=false→LT z y=false→LT z x=false
section
variable{LT:Keyed→Keyed→Bool}
theorem Wo.irr(W:Wo LT)(x:Keyed):LT x x=false:=by
 cases h:LT x x with
 |false=>rfl
 |true=>have:=W.asym x x h;rw [h]at this;cases this
theorem Wo.le_lt(W:Wo LT){x y z:Keyed}(h1:LT y x=false)(h2:LT y z=true):LT x z=true:=by
 cases h:LT x z with
 |true=>rfl
 |false=>have:=W.neg z x y h h1;rw [h2]at this;cases this
theorem Wo.lt_le(W:Wo LT){x y z:Keyed}(h1:LT x y=true)(h2:LT z y=false):LT x z=true:=by
 cases h:LT x z with
 |true=>rfl
 |false=>have:=W.neg y z x h2 h;rw [h1]at this;cases this
noncomputable def Srt(LT:Keyed→Keyed→Bool)(l:List Keyed):Prop:=l.Pairwise fun x y=>LT y x=false
abbrev df:Keyed:=(Value.none,Value.none)
noncomputable def at'(a:Array Keyed)(i:Nat):Keyed:=a.getD i df
theorem ql{a:Array Keyed}{i:Nat}(h:i<a.size):a[i]? = some (at' a i):=by
 unfold at' Array.getD;rw [dif_pos h];exact Array.getElem?_eq_getElem h
theorem qdX{a:Array Keyed}{i:Nat}(h:i<a.size):at' a i∈a.toList:=by
 have:=ql h;rw [←Array.getElem?_toList]at this;exact List.mem_of_getElem? this
theorem zM(W:Wo LT){a:Array Keyed}(h:Srt LT a.toList){i j:Nat}(hij:i≤j)(hj:j<a.size):LT (at' a j) (at' a i)=false:=by
 by_cases e:i=j
 ·subst e;exact W.irr _
 ·have hi:i<a.toList.length:=by rw [Array.length_toList];lia
  have hj':j<a.toList.length:=by rw [Array.length_toList];lia
  have:=List.pairwise_iff_getElem.mp h i j hi hj' (by lia);have e1:=ql (a:=a) (i:=i) (by lia);have e2:=ql (a:=a) (i:=j) hj;rw [←Array.getElem?_toList,List.getElem?_eq_getElem hi]at e1;rw [←Array.getElem?_toList,List.getElem?_eq_getElem hj']at e2;injection e1 with e1
  injection e2 with e2
  rw [←e1,←e2];exact this
theorem qS{a:Array Keyed}{i j:Nat}{x:Keyed}(h:x∈(a.extract i j).toList):∃k,i≤k∧k<j∧k<a.size∧x=at' a k:=by
 obtain⟨m,hm⟩:=List.mem_iff_getElem?.mp h;rw [Array.getElem?_toList,Array.getElem?_extract]at hm;split at hm
 ·rename_i hlt
  have hk:i+m<a.size:=(Array.getElem?_eq_some_iff.mp hm).1;rw [ql hk]at hm;injection hm with hm
  exact⟨i+m,by lia,by lia,hk,hm.symm⟩
 ·cases hm
theorem zC(a:Array Keyed)(i j:Nat):(a.extract i j).toList=(a.toList.drop i).take (j-i):=by
 simp [Array.toList_extract]
theorem zP{a:Array Keyed}(h:Srt LT a.toList)(i j:Nat):Srt LT (a.extract i j).toList:=by
 rw [zC];exact(h.sublist (List.drop_sublist _ _)).sublist (List.take_sublist _ _)
structure MI(LT:Keyed→Keyed→Bool)(a b out:Array Keyed)(ia ib:Nat):Prop where
 pm:out.toList.Perm (a.toList.take ia++b.toList.take ib)
 sr:Srt LT out.toList
 la:∀x∈out.toList,∀j,ia≤j→j<a.size→LT (at' a j) x=false
 lb:∀x∈out.toList,∀j,ib≤j→j<b.size→LT (at' b j) x=false
variable{a b out:Array Keyed}{ia ib:Nat}
theorem qfq{l:List Keyed}{i k:Nat}:l.take (i+k)=l.take i++(l.drop i).take k:=List.take_add
theorem MI.takeA(W:Wo LT)(h:MI LT a b out ia ib)(Sa:Srt LT a.toList)(k:Nat)(hb:∀i,ia≤i→i<ia+k→i<a.size→∀j,ib≤j→j<b.size→LT (at' b j) (at' a i)=false):MI LT a b (out++a.extract ia (ia+k)) (ia+k) ib:=by
 refine⟨?_,?_,fun x hx j h1 h2=>?_,fun x hx j h1 h2=>?_⟩
 ·rw [Array.toList_append,zC,qfq,show ia+k-ia=k by lia];refine(h.pm.append_right _).trans ?_;rw [List.append_assoc,List.append_assoc];exact(List.perm_append_comm).append_left _
 ·rw [Array.toList_append];refine List.pairwise_append.mpr ⟨h.sr,zP Sa _ _,fun x hx y hy=>?_⟩;obtain⟨i,g1,g2,g3,rfl⟩:=qS hy;exact h.la x hx i g1 g3
 ·rw [Array.toList_append]at hx;rcases List.mem_append.mp hx with hx|hx
  ·exact h.la x hx j (by lia) h2
  ·obtain⟨i,g1,g2,g3,rfl⟩:=qS hx;exact zM W Sa (by lia) h2
 ·rw [Array.toList_append]at hx;rcases List.mem_append.mp hx with hx|hx
  ·exact h.lb x hx j h1 h2
  ·obtain⟨i,g1,g2,g3,rfl⟩:=qS hx;exact hb i g1 g2 g3 j h1 h2
theorem MI.takeB(W:Wo LT)(h:MI LT a b out ia ib)(Sb:Srt LT b.toList)(k:Nat)(hb:∀i,ib≤i→i<ib+k→i<b.size→∀j,ia≤j→j<a.size→LT (at' a j) (at' b i)=false):MI LT a b (out++b.extract ib (ib+k)) ia (ib+k):=by
 refine⟨?_,?_,fun x hx j h1 h2=>?_,fun x hx j h1 h2=>?_⟩
 ·rw [Array.toList_append,zC,qfq,show ib+k-ib=k by lia,←List.append_assoc];exact h.pm.append_right _
 ·rw [Array.toList_append];refine List.pairwise_append.mpr ⟨h.sr,zP Sb _ _,fun x hx y hy=>?_⟩;obtain⟨i,g1,g2,g3,rfl⟩:=qS hy;exact h.lb x hx i g1 g3
 ·rw [Array.toList_append]at hx;rcases List.mem_append.mp hx with hx|hx
  ·exact h.la x hx j h1 h2
  ·obtain⟨i,g1,g2,g3,rfl⟩:=qS hx;exact hb i g1 g2 g3 j h1 h2
 ·rw [Array.toList_append]at hx;rcases List.mem_append.mp hx with hx|hx
  ·exact h.lb x hx j (by lia) h2
  ·obtain⟨i,g1,g2,g3,rfl⟩:=qS hx;exact zM W Sb (by lia) h2
theorem qdU{a out:Array Keyed}{i:Nat}(h:i<a.size):out.push (at' a i)=out++a.extract i (i+1):=by
 apply Array.toList_inj.mp;rw [Array.toList_push,Array.toList_append,zC,show i+1-i=1 by lia]
 congr 1
 have hl:i<a.toList.length:=by rw [Array.length_toList];exact h
 rw [List.drop_eq_getElem_cons hl];have e1:=ql (a:=a) (i:=i) h;rw [←Array.getElem?_toList,List.getElem?_eq_getElem hl]at e1;injection e1 with e1
 rw [e1];rfl
theorem MI.pushA(W:Wo LT)(h:MI LT a b out ia ib)(Sa:Srt LT a.toList)(Sb:Srt LT b.toList)(hi:ia<a.size)(hb:ib<b.size→LT (at' b ib) (at' a ia)=false):MI LT a b (out.push (at' a ia)) (ia+1) ib:=by
 rw [qdU hi];refine h.takeA W Sa 1 fun i h1 h2 _ j g1 g2=>?_
 have:i=ia:=by lia
 subst this;exact W.neg _ _ _ (hb (by lia)) (zM W Sb g1 g2)
theorem MI.pushB(W:Wo LT)(h:MI LT a b out ia ib)(Sa:Srt LT a.toList)(Sb:Srt LT b.toList)(hi:ib<b.size)(hb:ia<a.size→LT (at' b ib) (at' a ia)=true):MI LT a b (out.push (at' b ib)) ia (ib+1):=by
 rw [qdU hi];refine h.takeB W Sb 1 fun i h1 h2 _ j g1 g2=>?_
 have:i=ib:=by lia
 subst this;exact W.neg _ _ _ (W.asym _ _ (hb (by lia))) (zM W Sa g1 g2)
noncomputable def Mg(LT:Keyed→Keyed→Bool)(a b r:Array Keyed):Prop:=r.toList.Perm (a.toList++b.toList)∧Srt LT r.toList
theorem MI.done(W:Wo LT)(h:MI LT a b out ia ib)(Sa:Srt LT a.toList)(Sb:Srt LT b.toList)(he:ib=b.size∨ia=a.size):Mg LT a b (out++a.extract ia++b.extract ib):=by
 have ea:(a.extract ia).toList=a.toList.drop ia:=by
  rw [zC];exact List.take_of_length_le (by simp)
 have eb:(b.extract ib).toList=b.toList.drop ib:=by
  rw [zC];exact List.take_of_length_le (by simp)
 refine⟨?_,?_⟩
 ·rw [Array.toList_append,Array.toList_append,ea,eb];refine((h.pm.append_right _).append_right _).trans ?_;have e1:=List.take_append_drop ia a.toList;have e2:=List.take_append_drop ib b.toList;rcases he with he|he
  ·have z1:b.toList.drop ib=[]:=List.drop_eq_nil_of_le (by rw [Array.length_toList];lia);have z2:b.toList.take ib=b.toList:=List.take_of_length_le (by rw [Array.length_toList];lia);rw [z1,z2,List.append_nil,List.append_assoc];refine(List.perm_append_comm.append_left _).trans ?_;rw [←List.append_assoc,e1]
  ·have z1:a.toList.drop ia=[]:=List.drop_eq_nil_of_le (by rw [Array.length_toList];lia);have z2:a.toList.take ia=a.toList:=List.take_of_length_le (by rw [Array.length_toList];lia);rw [z1,z2,List.append_nil,List.append_assoc,e2]
 ·rw [Array.toList_append,Array.toList_append];refine List.pairwise_append.mpr ⟨List.pairwise_append.mpr ⟨h.sr,zP Sa _ _,fun x hx y hy=>?_⟩,zP Sb _ _,fun x hx y hy=>?_⟩
  ·obtain⟨i,g1,g2,g3,rfl⟩:=qS hy;exact h.la x hx i g1 g3
  ·obtain⟨i,g1,g2,g3,rfl⟩:=qS hy;rcases List.mem_append.mp hx with hx|hx
   ·exact h.lb x hx i g1 g3
   ·obtain⟨j,k1,k2,k3,rfl⟩:=qS hx;lia
theorem MI.last(W:Wo LT)(h:MI LT a b out ia ib)(Sa:Srt LT a.toList)(Sb:Srt LT b.toList)(hl:ia+1=a.size)(hb:∀j,j<b.size→LT (at' b j) (at' a ia)=true):Mg LT a b (out++b.extract ib++a.extract ia):=by
 have ea:(a.extract ia).toList=a.toList.drop ia:=by
  rw [zC];exact List.take_of_length_le (by simp)
 have eb:(b.extract ib).toList=b.toList.drop ib:=by
  rw [zC];exact List.take_of_length_le (by simp)
 refine⟨?_,?_⟩
 ·rw [Array.toList_append,Array.toList_append,ea,eb];refine((h.pm.append_right _).append_right _).trans ?_;have e1:=List.take_append_drop ia a.toList;have e2:=List.take_append_drop ib b.toList;rw [List.append_assoc (a.toList.take ia),e2];refine(List.perm_append_comm.append_right _).trans ?_;rw [List.append_assoc,e1];exact List.perm_append_comm
 ·rw [Array.toList_append,Array.toList_append];refine List.pairwise_append.mpr ⟨List.pairwise_append.mpr ⟨h.sr,zP Sb _ _,fun x hx y hy=>?_⟩,zP Sa _ _,fun x hx y hy=>?_⟩
  ·obtain⟨i,g1,g2,g3,rfl⟩:=qS hy;exact h.lb x hx i g1 g3
  ·obtain⟨i,g1,g2,g3,rfl⟩:=qS hy;rcases List.mem_append.mp hx with hx|hx
   ·exact h.la x hx i g1 g3
   ·obtain⟨j,k1,k2,k3,rfl⟩:=qS hx;have:i=ia:=by lia
    subst this;exact W.asym _ _ (hb j k3)
end
abbrev setG(st:SortSt)(g:Nat):SortSt:=SortSt.mk' (kindOf st) (arrOf st) (pendingOf st) g (failedOf st)
section
variable{prog:Program}{w:World}{A:Around}{E:Value→Shared→Prop}{s:Shared}{κ:SortKind}{D:Keyed→Prop}{LT:Keyed→Keyed→Bool}
theorem Cmp.wo(C:Cmp prog w A s κ D LT):Wo LT:=⟨C.asym,C.neg⟩
theorem qdO(W:Wo LT){a:Array Keyed}(S:Srt LT a.toList){left:Bool}{key:Keyed}{base n:Nat}(hn:base+n≤a.size):∀i j,i≤j→j<n→bey LT left key (at' a (base+j))=true→bey LT left key (at' a (base+i))=true:=by
 intro i j hij hj h;have o:=zM W S (show base+i≤base+j by lia) (by lia);cases left with
 |true=>
  have h:LT (at' a (base+j)) key=true:=h;show LT (at' a (base+i)) key=true;exact W.le_lt o h
 |false=>
  have h:(!LT key (at' a (base+j)))=true:=h;show (!LT key (at' a (base+i)))=true;have h':LT key (at' a (base+j))=false:=by simpa using h
  rw [W.neg _ _ _ o h'];rfl
theorem share1{α γ:Type}{M:Model}{c:α→Prop} [∀u,Decidable (c u)]{X F:α→StateT SortSt Sem γ}{Q:γ→SortSt→Prop}{st:SortSt}(hG:(∀u,wpS M A E s (F u) Q st)→∀u,wpS M A E s (if c u then X u else F u) Q st)(H:∀u,wpS M A E s (F u) Q st):∀u,wpS M A E s (if c u then X u else F u) Q st:=hG H
theorem qev{α β γ:Type}{M:Model}{c:Prop} [Decidable c]{X F:α→β→StateT SortSt Sem γ}{x:α}{y:β}{Q:γ→SortSt→Prop}{st:SortSt}(C:α→β→Prop)(hG:(∀u v,C u v→wpS M A E s (F u v) Q st)→∀u,x=u→∀v,y=v→wpS M A E s (if c then X u v else F u v) Q st)(H:∀u v,C u v→wpS M A E s (F u v) Q st):∀u,x=u→∀v,y=v→wpS M A E s (if c then X u v else F u v) Q st:=hG H
theorem mi0{a b:Array Keyed}:MI LT a b #[] 0 0:=⟨by simp,by simp [Srt],by simp,by simp⟩
theorem qgD(C:Cmp prog w A s κ D LT){a b:Array Keyed}{st:SortSt}{Q:Array Keyed→SortSt→Prop}(hk:kindOf st=κ)(Da:∀i,i<a.size→D (at' a i))(Db:∀i,i<b.size→D (at' b i))(Sa:Srt LT a.toList)(Sb:Srt LT b.toList)
  (ha:0<a.size) (hb:0<b.size) (h0:LT (at' b 0) (at' a 0)=true) (hl:∀j,j<b.size→LT (at' b j) (at' a (a.size-1))=true) (h:∀r g,Mg LT a b r→Q r (setG st g)):wpS (model prog w) A E s (qhB a b) Q st:=by
 have W:=C.wo;have lastA:∀{ia:Nat},ia+1=a.size→∀j,j<b.size→LT (at' b j) (at' a ia)=true:=fun {ia} e j hj=>by
  have:ia=a.size-1:=by lia
  rw [this];exact hl j hj
 unfold qhB;refine wpS_bind (wpS_lift (wpAny_rule ⟨rfl,?_⟩));refine wpS_bind (zh (ql hb) ?_);have M1:MI LT a b #[at' b 0] 0 1:=(mi0 (LT:=LT)).pushB W Sa Sb hb fun _=>h0
 dsimp only;by_cases e1:(1==b.size)=true
 ·rw [if_pos e1];exact wpS_pure (h _ (gallopOf st) (M1.done W Sa Sb (.inl (by simpa using e1))))
 rw [if_neg e1];by_cases e2:(0+1==a.size)=true
 ·rw [if_pos e2];exact wpS_pure (h _ (gallopOf st) (M1.last W Sa Sb (by simpa using e2) (lastA (by simpa using e2))))
 rw [if_neg e2];have e1':1≠b.size:=by simpa using e1
 have e2':1≠a.size:=by simpa using e2
 refine wpS_bind (wpS_get ?_);refine wpS_bind (wpS_mono (Q:=fun c st'=>∃r g,c.1=some r∧Mg LT a b r∧st'=setG st g) ?_ ?_)
 ·refine wpS_forRange (fun i c st'=>∃g,st'=setG st g∧c.1=none∧MI LT a b c.2.1 c.2.2.1 c.2.2.2.1∧c.2.2.1+1<a.size∧c.2.2.2.1<b.size∧i≤c.2.2.1+c.2.2.2.1) ?_ ?_ ⟨gallopOf st,rfl,rfl,M1,by show 0+1<a.size;lia,by show 1<b.size;lia,Nat.zero_le _⟩
  ·rintro i ⟨c0,out,ia,ib,mg⟩ st' _ hi ⟨g,rfl,rfl,M,h1,h2,h3⟩;dsimp only at M h1 h2 h3 ⊢;refine wpS_bind (wpS_mono (Q:=fun c st'=>st'=setG st g∧((∃r,c.1=some r∧Mg LT a b r)∨(c.1=none∧MI LT a b c.2.1 c.2.2.1 c.2.2.2.1∧c.2.2.1+1<a.size∧c.2.2.2.1<b.size∧ia+ib+1≤c.2.2.1+c.2.2.2.1))) ?_ ?_)
   ·refine wpS_forRange (fun j c st'=>st'=setG st g∧c.1=none∧MI LT a b c.2.1 c.2.2.1 c.2.2.2.1∧c.2.2.1+1<a.size∧c.2.2.2.1<b.size∧ia+ib+j≤c.2.2.1+c.2.2.2.1) ?_ ?_ ⟨rfl,rfl,M,h1,h2,Nat.le_refl _⟩
    ·rintro j ⟨c0,out,ia2,ib2,ac,bc⟩ st' _ hj ⟨rfl,rfl,M,h1,h2,h3⟩;dsimp only at M h1 h2 h3 ⊢;refine wpS_bind (zh (ql h2) ?_);refine wpS_bind (zh (ql (show ia2<a.size by lia)) ?_);refine wpS_bind (qdd C (Db _ h2) (Da _ (by lia)) hk ?_);cases q:LT (at' b ib2) (at' a ia2)with
     |true=>
      dsimp only;rw [if_pos rfl];refine wpS_bind (zh (ql h2) ?_);have M2:=M.pushB W Sa Sb h2 fun _=>q
      by_cases e3:(ib2+1==b.size)=true
      ·rw [if_pos e3];exact wpS_pure ⟨rfl,.inl ⟨_,rfl,M2.done W Sa Sb (.inl (by simpa using e3))⟩⟩
      rw [if_neg e3];have e3':ib2+1≠b.size:=by simpa using e3
      by_cases e4:bc+1 ≥ mg
      ·rw [if_pos e4];exact wpS_pure ⟨rfl,.inr ⟨rfl,M2,h1,by show ib2+1<b.size;lia,by show ia+ib+1≤ia2+(ib2+1);lia⟩⟩
      ·rw [if_neg e4];exact wpS_pure ⟨rfl,rfl,M2,h1,by show ib2+1<b.size;lia,by show ia+ib+(j+1)≤ia2+(ib2+1);lia⟩
     |false=>
      dsimp only;rw [if_neg (by decide)];refine wpS_bind (zh (ql (show ia2<a.size by lia)) ?_);have M2:=M.pushA W Sa Sb (by lia) fun _=>q
      by_cases e3:(ia2+1+1==a.size)=true
      ·rw [if_pos e3];exact wpS_pure ⟨rfl,.inl ⟨_,rfl,M2.last W Sa Sb (by simpa using e3) (lastA (by simpa using e3))⟩⟩
      rw [if_neg e3];have e3':ia2+1+1≠a.size:=by simpa using e3
      by_cases e4:ac+1 ≥ mg
      ·rw [if_pos e4];exact wpS_pure ⟨rfl,.inr ⟨rfl,M2,by show ia2+1+1<a.size;lia,h2,by show ia+ib+1≤ia2+1+ib2;lia⟩⟩
      ·rw [if_neg e4];exact wpS_pure ⟨rfl,rfl,M2,by show ia2+1+1<a.size;lia,h2,by show ia+ib+(j+1)≤ia2+1+ib2;lia⟩
    ·rintro⟨c0,out,ia2,ib2,ac,bc⟩ st' ⟨rfl,rfl,M,h1,h2,h3⟩;dsimp only at M h1 h2 h3;exact absurd h3 (by lia)
   ·rintro⟨c0,out,ia2,ib2,ac,bc⟩ st' ⟨rfl,hc⟩;dsimp only at hc ⊢;rcases hc with ⟨r,rfl,hm⟩|⟨rfl,M,h1,h2,h3⟩
    ·exact wpS_pure ⟨r,g,rfl,hm,rfl⟩
    dsimp only;refine wpS_bind (wpS_lift (wpAny_rule ⟨rfl,?_⟩));refine wpS_bind (wpS_mono (Q:=fun c st'=>∃g,st'=setG st g∧((∃r,c.1=some r∧Mg LT a b r)∨(c.1=none∧MI LT a b c.2.1 c.2.2.1 c.2.2.2.1∧c.2.2.1+1<a.size∧c.2.2.2.1<b.size∧ia+ib+1≤c.2.2.1+c.2.2.2.1))) ?_ ?_)
    ·refine wpS_forRange (fun j c st'=>∃g,st'=setG st g∧c.1=none∧MI LT a b c.2.1 c.2.2.1 c.2.2.2.1∧c.2.2.1+1<a.size∧c.2.2.2.1<b.size∧ia+ib+1+j≤c.2.2.1+c.2.2.2.1) ?_ ?_ ⟨g,rfl,rfl,M,h1,h2,h3⟩
     ·clear M h1 h2 h3;rintro j ⟨c0,out,ia2,ib2,mg2,ac,bc⟩ st' _ hj ⟨g,rfl,rfl,M,h1,h2,h3⟩;dsimp only at M h1 h2 h3 ⊢;revert mg2;refine share1 (fun H mg2=>?_) ?_
      ·show wpS _ _ _ _ _ _ _;by_cases e0:¬ mg2>1
       ·rw [if_neg e0];exact H mg2
       ·rw [if_pos (Decidable.not_not.mp e0)];exact H (mg2-1)
      intro mg3;refine wpS_bind (wpS_modify ?_);refine wpS_bind (zh (ql h2) ?_);refine wpS_bind (qap C hk (Db _ h2) (fun i=>at' a (ia2+i)) (fun i hi=>⟨ql (by lia),Da _ (by lia)⟩) (by lia) (qdO W Sa (by lia)) fun k l1 l2 l3=>?_);dsimp only;have t2:∀i,ia2≤i→i<ia2+k→LT (at' b ib2) (at' a i)=false:=fun i g1 g2=>by
       have:=l2 (i-ia2) (by lia);rw [show ia2+(i-ia2)=i by lia]at this;have this:(!LT (at' b ib2) (at' a i))=true:=this
       simpa using this
      have t3:ia2+k<a.size→LT (at' b ib2) (at' a (ia2+k))=true:=fun z=>by
       have:=l3 k (Nat.le_refl _) (by lia);have this:(!LT (at' b ib2) (at' a (ia2+k)))=false:=this
       simpa using this
      generalize hu:out=u;generalize hv:ia2=v;revert u v;refine qev (fun out' ia'=>MI LT a b out' ia' ib2∧ia'+1<a.size∧ia2≤ia'∧LT (at' b ib2) (at' a ia')=true) (fun H u hu v hv=>?_) ?_
      ·subst hu;subst hv;by_cases e4:¬ k>0
       ·rw [if_neg e4];refine H out ia2 ⟨M,h1,Nat.le_refl _,?_⟩;have:=t3 (by lia);rw [show k=0 by lia]at this;exact this
       ·rw [if_pos (Decidable.not_not.mp e4)];have M2:=M.takeA W Sa k fun i g1 g2 _ j' g3 g4=>W.neg _ _ _ (t2 i g1 g2) (zM W Sb g3 g4)
        by_cases e3:(ia2+k+1==a.size)=true
        ·rw [if_pos e3];exact wpS_pure ⟨_,rfl,.inl ⟨_,rfl,M2.last W Sa Sb (by simpa using e3) (lastA (by simpa using e3))⟩⟩
        rw [if_neg e3];have e3':ia2+k+1≠a.size:=by simpa using e3
        by_cases e9:(ia2+k==a.size)=true
        ·rw [if_pos e9];exact wpS_pure ⟨_,rfl,.inl ⟨_,rfl,M2.done W Sa Sb (.inr (by simpa using e9))⟩⟩
        rw [if_neg e9];have e9':ia2+k≠a.size:=by simpa using e9
        exact H _ _ ⟨M2,by lia,by lia,t3 (by lia)⟩
      rintro out3 ia3 ⟨M2,hia,hge,q2⟩
      try dsimp only
      refine wpS_bind (zh (ql h2) ?_);have M3:=M2.pushB W Sa Sb h2 fun _=>q2
      by_cases e5:(ib2+1==b.size)=true
      ·rw [if_pos e5];exact wpS_pure ⟨_,rfl,.inl ⟨_,rfl,M3.done W Sa Sb (.inl (by simpa using e5))⟩⟩
      rw [if_neg e5];have e5':ib2+1≠b.size:=by simpa using e5
      refine wpS_bind (zh (ql (show ia3<a.size by lia)) ?_);generalize out3.push (at' b ib2)=out5 at M3 ⊢;have hY:∃n,ib2+1=n:=⟨_,rfl⟩
      obtain⟨ib3,hY⟩:=hY;rw [hY]at M3 e5' ⊢;refine wpS_bind (qap C hk (Da _ (by lia)) (fun i=>at' b (ib3+i)) (fun i hi=>⟨ql (by lia),Db _ (by lia)⟩) (by lia) (qdO W Sb (by lia)) fun k' l1 l2 l3=>?_);dsimp only;have t2:∀i,ib3≤i→i<ib3+k'→LT (at' b i) (at' a ia3)=true:=fun i g1 g2=>by
       have:=l2 (i-ib3) (by lia);rw [show ib3+(i-ib3)=i by lia]at this;exact this
      have t3:ib3+k'<b.size→LT (at' b (ib3+k')) (at' a ia3)=false:=fun z=>l3 k' (Nat.le_refl _) (by lia)
      generalize hu:out5=u;generalize hv:ib3=v;revert u v;refine qev (fun out' ib'=>MI LT a b out' ia3 ib'∧ib'<b.size∧ib3≤ib'∧LT (at' b ib') (at' a ia3)=false) (fun H u hu v hv=>?_) ?_
      ·subst hu;subst hv;by_cases e6:¬ k'>0
       ·rw [if_neg e6];refine H out5 ib3 ⟨M3,by lia,Nat.le_refl _,?_⟩;have:=t3 (by lia);rw [show k'=0 by lia]at this;exact this
       ·rw [if_pos (Decidable.not_not.mp e6)];have M4:=M3.takeB W Sb k' fun i g1 g2 _ j' g3 g4=>W.neg _ _ _ (W.asym _ _ (t2 i g1 g2)) (zM W Sa g3 g4)
        by_cases e8:(ib3+k'==b.size)=true
        ·rw [if_pos e8];exact wpS_pure ⟨_,rfl,.inl ⟨_,rfl,M4.done W Sa Sb (.inl (by simpa using e8))⟩⟩
        rw [if_neg e8];have e8':ib3+k'≠b.size:=by simpa using e8
        exact H _ _ ⟨M4,by lia,by lia,t3 (by lia)⟩
      rintro out4 ib4 ⟨M4,hib,hgb,q5⟩
      try dsimp only
      refine wpS_bind (zh (ql (show ia3<a.size by lia)) ?_);have M5:=M4.pushA W Sa Sb (show ia3<a.size by lia) fun _=>q5
      by_cases e7:(ia3+1+1==a.size)=true
      ·rw [if_pos e7];exact wpS_pure ⟨_,rfl,.inl ⟨_,rfl,M5.last W Sa Sb (by simpa using e7) (lastA (by simpa using e7))⟩⟩
      rw [if_neg e7];have e7':ia3+1+1≠a.size:=by simpa using e7
      split
      ·exact wpS_pure ⟨_,rfl,.inr ⟨rfl,M5,by show ia3+1+1<a.size;lia,by show ib4<b.size;lia,by show ia+ib+1≤ia3+1+ib4;lia⟩⟩
      ·exact wpS_pure ⟨_,rfl,rfl,M5,by show ia3+1+1<a.size;lia,by show ib4<b.size;lia,by show ia+ib+1+(j+1)≤ia3+1+ib4;lia⟩
     ·clear M h1 h2 h3;rintro⟨c0,out,ia2,ib2,mg2,ac,bc⟩ st' ⟨g,rfl,rfl,M,h1,h2,h3⟩;dsimp only at M h1 h2 h3;exact absurd h3 (by lia)
    ·rintro⟨c0,out,ia2,ib2,mg2,ac,bc⟩ st' ⟨g,rfl,hc⟩;dsimp only at hc ⊢;rcases hc with ⟨r,rfl,hm⟩|⟨rfl,M,h1,h2,h3⟩
     ·exact wpS_pure ⟨r,g,rfl,hm,rfl⟩
     dsimp only;refine wpS_bind (wpS_modify ?_);exact wpS_pure ⟨mg2+1,rfl,rfl,M,h1,h2,by show i+1≤ia2+ib2;lia⟩
  ·rintro⟨c0,out,ia,ib,mg⟩ st' ⟨g,rfl,rfl,M,h1,h2,h3⟩;dsimp only at M h1 h2 h3;exact absurd h3 (by lia)
 ·rintro⟨c0,out,ia,ib,mg⟩ st' ⟨r,g,hr,hm,rfl⟩;dsimp only at hr ⊢;subst hr;exact wpS_pure (h r g hm)
end
section
variable{LT:Keyed→Keyed→Bool}
structure MH(LT:Keyed→Keyed→Bool)(a b out:Array Keyed)(na nb:Nat):Prop where
 pm:out.toList.Perm (a.toList.drop na++b.toList.drop nb)
 sr:Srt LT out.toList.reverse
 la:∀x∈out.toList,∀j,j<na→LT x (at' a j)=false
 lb:∀x∈out.toList,∀j,j<nb→LT x (at' b j)=false
variable{a b out:Array Keyed}{na nb:Nat}
theorem qfI{l:List Keyed}{m n:Nat}(h:m≤n):l.drop m=(l.drop m).take (n-m)++l.drop n:=by
 have:=(List.take_append_drop (n-m) (l.drop m)).symm;rw [List.drop_drop,show m+(n-m)=n by lia]at this;exact this
theorem MH.takeA(W:Wo LT)(h:MH LT a b out na nb)(Sa:Srt LT a.toList)(hna:na≤a.size)(m:Nat)(hm:m≤na)(hb:∀i,m≤i→i<na→∀j,j<nb→LT (at' a i) (at' b j)=false):MH LT a b (out++(a.extract m na).reverse) m nb:=by
 have mem:∀{x},x∈(out++(a.extract m na).reverse).toList→x∈out.toList∨x∈(a.extract m na).toList:=fun {x} hx=>by
  rw [Array.toList_append,Array.toList_reverse]at hx;rcases List.mem_append.mp hx with hx|hx
  ·exact .inl hx
  ·exact .inr (List.mem_reverse.mp hx)
 refine⟨?_,?_,fun x hx j h1=>?_,fun x hx j h1=>?_⟩
 ·rw [Array.toList_append,Array.toList_reverse,zC];have e:=qfI (l:=a.toList) hm;generalize (a.toList.drop m).take (na-m)=T at e ⊢;rw [e];refine(h.pm.append (List.reverse_perm _)).trans ?_;refine List.perm_append_comm.trans ?_;rw [List.append_assoc]
 ·rw [Array.toList_append,Array.toList_reverse,List.reverse_append,List.reverse_reverse];refine List.pairwise_append.mpr ⟨zP Sa _ _,h.sr,fun x hx y hy=>?_⟩;obtain⟨i,g1,g2,g3,rfl⟩:=qS hx;exact h.la y (List.mem_reverse.mp hy) i g2
 ·rcases mem hx with hx|hx
  ·exact h.la x hx j (by lia)
  ·obtain⟨i,g1,g2,g3,rfl⟩:=qS hx;exact zM W Sa (by lia) g3
 ·rcases mem hx with hx|hx
  ·exact h.lb x hx j h1
  ·obtain⟨i,g1,g2,g3,rfl⟩:=qS hx;exact hb i g1 g2 j h1
theorem MH.takeB(W:Wo LT)(h:MH LT a b out na nb)(Sb:Srt LT b.toList)(hnb:nb≤b.size)(m:Nat)(hm:m≤nb)(hb:∀i,m≤i→i<nb→∀j,j<na→LT (at' b i) (at' a j)=false):MH LT a b (out++(b.extract m nb).reverse) na m:=by
 have mem:∀{x},x∈(out++(b.extract m nb).reverse).toList→x∈out.toList∨x∈(b.extract m nb).toList:=fun {x} hx=>by
  rw [Array.toList_append,Array.toList_reverse]at hx;rcases List.mem_append.mp hx with hx|hx
  ·exact .inl hx
  ·exact .inr (List.mem_reverse.mp hx)
 refine⟨?_,?_,fun x hx j h1=>?_,fun x hx j h1=>?_⟩
 ·rw [Array.toList_append,Array.toList_reverse,zC];have e:=qfI (l:=b.toList) hm;generalize (b.toList.drop m).take (nb-m)=T at e ⊢;rw [e];refine(h.pm.append (List.reverse_perm _)).trans ?_;rw [List.append_assoc];exact List.perm_append_comm.append_left _
 ·rw [Array.toList_append,Array.toList_reverse,List.reverse_append,List.reverse_reverse];refine List.pairwise_append.mpr ⟨zP Sb _ _,h.sr,fun x hx y hy=>?_⟩;obtain⟨i,g1,g2,g3,rfl⟩:=qS hx;exact h.lb y (List.mem_reverse.mp hy) i g2
 ·rcases mem hx with hx|hx
  ·exact h.la x hx j h1
  ·obtain⟨i,g1,g2,g3,rfl⟩:=qS hx;exact hb i g1 g2 j h1
 ·rcases mem hx with hx|hx
  ·exact h.lb x hx j (by lia)
  ·obtain⟨i,g1,g2,g3,rfl⟩:=qS hx;exact zM W Sb (by lia) g3
theorem qhq{a out:Array Keyed}{i:Nat}(h:i<a.size):out.push (at' a i)=out++(a.extract i (i+1)).reverse:=by
 have:=qdU (out:=(#[]:Array Keyed)) h;have e:a.extract i (i+1) = #[at' a i]:=by
  have h2:(#[]:Array Keyed)++a.extract i (i+1)=a.extract i (i+1):=by simp
  rw [h2]at this;rw [←this];rfl
 rw [e];simp
theorem MH.pushA(W:Wo LT)(h:MH LT a b out (na+1) nb)(Sa:Srt LT a.toList)(Sb:Srt LT b.toList)(hi:na<a.size)(hnb:nb≤b.size)(hb:0<nb→LT (at' b (nb-1)) (at' a na)=true):MH LT a b (out.push (at' a na)) na nb:=by
 rw [qhq hi];refine h.takeA W Sa (by lia) na (by lia) fun i h1 h2 j g1=>?_
 have:i=na:=by lia
 subst this;exact W.neg _ _ _ (zM W Sb (show j≤nb-1 by lia) (by lia)) (W.asym _ _ (hb (by lia)))
theorem MH.pushB(W:Wo LT)(h:MH LT a b out na (nb+1))(Sa:Srt LT a.toList)(Sb:Srt LT b.toList)(hi:nb<b.size)(hna:na≤a.size)(hb:0<na→LT (at' b nb) (at' a (na-1))=false):MH LT a b (out.push (at' b nb)) na nb:=by
 rw [qhq hi];refine h.takeB W Sb (by lia) nb (by lia) fun i h1 h2 j g1=>?_
 have:i=nb:=by lia
 subst this;exact W.neg _ _ _ (zM W Sa (show j≤na-1 by lia) (by lia)) (hb (by lia))
theorem qje(a:Array Keyed)(n:Nat):(a.extract 0 n).toList=a.toList.take n:=by
 rw [zC,List.drop_zero];rfl
theorem MH.done(W:Wo LT)(h:MH LT a b out na nb)(Sa:Srt LT a.toList)(Sb:Srt LT b.toList)(he:na=0∨nb=0):Mg LT a b (a.extract 0 na++b.extract 0 nb++out.reverse):=by
 refine⟨?_,?_⟩
 ·rw [Array.toList_append,Array.toList_append,Array.toList_reverse,qje,qje];refine((List.reverse_perm _).trans h.pm).append_left _ |>.trans ?_;have e1:=List.take_append_drop na a.toList;have e2:=List.take_append_drop nb b.toList;rcases he with he|he
  ·subst he;rw [List.take_zero,List.drop_zero,List.nil_append];refine List.perm_append_comm.trans ?_;rw [List.append_assoc];refine(List.perm_append_comm.append_left _).trans ?_;rw [e2]
  ·subst he;rw [List.take_zero,List.drop_zero,List.append_nil,←List.append_assoc,e1]
 ·rw [Array.toList_append,Array.toList_append,Array.toList_reverse];refine List.pairwise_append.mpr ⟨List.pairwise_append.mpr ⟨zP Sa _ _,zP Sb _ _,fun x hx y hy=>?_⟩,h.sr,fun x hx y hy=>?_⟩
  ·obtain⟨i,g1,g2,g3,rfl⟩:=qS hx;obtain⟨j,k1,k2,k3,rfl⟩:=qS hy;lia
  ·have hy:=List.mem_reverse.mp hy;rcases List.mem_append.mp hx with hx|hx
   ·obtain⟨i,g1,g2,g3,rfl⟩:=qS hx;exact h.la y hy i g2
   ·obtain⟨i,g1,g2,g3,rfl⟩:=qS hx;exact h.lb y hy i g2
theorem MH.first(W:Wo LT)(h:MH LT a b out na nb)(Sa:Srt LT a.toList)(Sb:Srt LT b.toList)(hl:nb=1)(hb:∀j,j<a.size→LT (at' b 0) (at' a j)=true):Mg LT a b (b.extract 0 nb++a.extract 0 na++out.reverse):=by
 subst hl;refine⟨?_,?_⟩
 ·rw [Array.toList_append,Array.toList_append,Array.toList_reverse,qje,qje];refine((List.reverse_perm _).trans h.pm).append_left _ |>.trans ?_;have e1:=List.take_append_drop na a.toList;have e2:=List.take_append_drop 1 b.toList;rw [List.append_assoc,←List.append_assoc (a.toList.take na),e1];refine List.perm_append_comm.trans ?_;rw [List.append_assoc];refine(List.perm_append_comm.append_left _).trans ?_;rw [e2]
 ·rw [Array.toList_append,Array.toList_append,Array.toList_reverse];refine List.pairwise_append.mpr ⟨List.pairwise_append.mpr ⟨zP Sb _ _,zP Sa _ _,fun x hx y hy=>?_⟩,h.sr,fun x hx y hy=>?_⟩
  ·obtain⟨i,g1,g2,g3,rfl⟩:=qS hx;obtain⟨j,k1,k2,k3,rfl⟩:=qS hy;have:i=0:=by lia
   subst this;exact W.asym _ _ (hb j k3)
  ·have hy:=List.mem_reverse.mp hy;rcases List.mem_append.mp hx with hx|hx
   ·obtain⟨i,g1,g2,g3,rfl⟩:=qS hx;exact h.lb y hy i g2
   ·obtain⟨i,g1,g2,g3,rfl⟩:=qS hx;exact h.la y hy i g2
theorem mh0{a b:Array Keyed}:MH LT a b #[] a.size b.size:=⟨by
 rw [List.drop_eq_nil_of_le (by simp),List.drop_eq_nil_of_le (by simp)];simp,by simp [Srt],by simp,by simp⟩
end
section
variable{prog:Program}{w:World}{A:Around}{E:Value→Shared→Prop}{s:Shared}{κ:SortKind}{D:Keyed→Prop}{LT:Keyed→Keyed→Bool}
theorem qfO(W:Wo LT){a:Array Keyed}(S:Srt LT a.toList){left:Bool}{key:Keyed}{n:Nat}(hn:n≤a.size):∀i j,i≤j→j<n→bey LT left key (at' a j)=true→bey LT left key (at' a i)=true:=by
 intro i j h1 h2 h3;have:=qdO W S (left:=left) (key:=key) (base:=0) (n:=n) (by lia) i j h1 h2;rw [Nat.zero_add,Nat.zero_add]at this;exact this h3
theorem qho(C:Cmp prog w A s κ D LT){a b:Array Keyed}{st:SortSt}{Q:Array Keyed→SortSt→Prop}(hk:kindOf st=κ)(Da:∀i,i<a.size→D (at' a i))(Db:∀i,i<b.size→D (at' b i))(Sa:Srt LT a.toList)(Sb:Srt LT b.toList)
  (ha:0<a.size) (hb:0<b.size) (h0:LT (at' b 0) (at' a 0)=true) (hl:∀j,j<b.size→LT (at' b j) (at' a (a.size-1))=true) (h:∀r g,Mg LT a b r→Q r (setG st g)):wpS (model prog w) A E s (qhz a b) Q st:=by
 have W:=C.wo;have fst:∀j,j<a.size→LT (at' b 0) (at' a j)=true:=fun j hj=>W.lt_le h0 (zM W Sa (Nat.zero_le j) hj)
 unfold qhz;refine wpS_bind (wpS_lift (wpAny_rule ⟨rfl,?_⟩));refine wpS_bind (zh (ql (show a.size-1<a.size by lia)) ?_);have M1:MH LT a b #[at' a (a.size-1)] (a.size-1) b.size:=by
  have M0:MH LT a b #[] (a.size-1+1) b.size:=by rw [show a.size-1+1=a.size by lia];exact mh0
  exact M0.pushA W Sa Sb (by lia) (Nat.le_refl _) fun _=>hl _ (by lia)
 dsimp only;by_cases e1:(a.size-1==0)=true
 ·rw [if_pos e1];exact wpS_pure (h _ (gallopOf st) (M1.done W Sa Sb (.inl (by simpa using e1))))
 rw [if_neg e1];by_cases e2:(b.size==1)=true
 ·rw [if_pos e2];exact wpS_pure (h _ (gallopOf st) (M1.first W Sa Sb (by simpa using e2) fst))
 rw [if_neg e2];have e1':a.size-1≠0:=by simpa using e1
 have e2':b.size≠1:=by simpa using e2
 refine wpS_bind (wpS_get ?_);refine wpS_bind (wpS_mono (Q:=fun c st'=>∃r g,c.1=some r∧Mg LT a b r∧st'=setG st g) ?_ ?_)
 ·refine wpS_forRange (fun i c st'=>∃g,st'=setG st g∧c.1=none∧MH LT a b c.2.2.2.1 c.2.1 c.2.2.1∧(1≤c.2.1∧c.2.1<a.size)∧(2≤c.2.2.1∧c.2.2.1≤b.size)∧c.2.1+c.2.2.1+i≤a.size+b.size) ?_ ?_ ⟨gallopOf st,rfl,rfl,M1,by show 1≤a.size-1∧a.size-1<a.size;lia,by show 2≤b.size∧b.size≤b.size;lia,by show a.size-1+b.size+0≤_;lia⟩
  ·rintro i ⟨c0,na,nb,out,mg⟩ st' _ hi ⟨g,rfl,rfl,M,h1,h2,h3⟩;dsimp only at M h1 h2 h3 ⊢;refine wpS_bind (wpS_mono (Q:=fun c st'=>st'=setG st g∧((∃r,c.1=some r∧Mg LT a b r)∨(c.1=none∧MH LT a b c.2.2.2.1 c.2.1 c.2.2.1∧(1≤c.2.1∧c.2.1<a.size)∧(2≤c.2.2.1∧c.2.2.1≤b.size)∧c.2.1+c.2.2.1+1≤na+nb))) ?_ ?_)
   ·refine wpS_forRange (fun j c st'=>st'=setG st g∧c.1=none∧MH LT a b c.2.2.2.1 c.2.1 c.2.2.1∧(1≤c.2.1∧c.2.1<a.size)∧(2≤c.2.2.1∧c.2.2.1≤b.size)∧c.2.1+c.2.2.1+j≤na+nb) ?_ ?_ ⟨rfl,rfl,M,h1,h2,Nat.le_refl _⟩
    ·clear M;rintro j ⟨c0,na2,nb2,out,ac,bc⟩ st' _ hj ⟨rfl,rfl,M,g1,g2,g3⟩;dsimp only at M g1 g2 g3 ⊢;refine wpS_bind (zh (ql (show nb2-1<b.size by lia)) ?_);refine wpS_bind (zh (ql (show na2-1<a.size by lia)) ?_);refine wpS_bind (qdd C (Db _ (by lia)) (Da _ (by lia)) hk ?_);obtain⟨na3,rfl⟩:∃n,na2=n+1:=⟨na2-1,by lia⟩
     obtain⟨nb3,rfl⟩:∃n,nb2=n+1:=⟨nb2-1,by lia⟩
     simp only [Nat.add_sub_cancel];cases q:LT (at' b nb3) (at' a na3)with
     |true=>
      rw [if_pos rfl];refine wpS_bind (zh (ql (show na3<a.size by lia)) ?_);have M2:=M.pushA W Sa Sb (by lia) (by lia) fun _=>q
      by_cases e3:(na3==0)=true
      ·rw [if_pos e3];exact wpS_pure ⟨rfl,.inl ⟨_,rfl,M2.done W Sa Sb (.inl (by simpa using e3))⟩⟩
      rw [if_neg e3];have e3':na3≠0:=by simpa using e3
      by_cases e4:ac+1 ≥ mg
      ·rw [if_pos e4];exact wpS_pure ⟨rfl,.inr ⟨rfl,M2,by show 1≤na3∧na3<a.size;lia,g2,by show na3+(nb3+1)+1≤na+nb;lia⟩⟩
      ·rw [if_neg e4];exact wpS_pure ⟨rfl,rfl,M2,by show 1≤na3∧na3<a.size;lia,g2,by show na3+(nb3+1)+(j+1)≤na+nb;lia⟩
     |false=>
      rw [if_neg (by decide)];refine wpS_bind (zh (ql (show nb3<b.size by lia)) ?_);have M2:=M.pushB W Sa Sb (by lia) (by lia) fun _=>q
      by_cases e3:(nb3==1)=true
      ·rw [if_pos e3];exact wpS_pure ⟨rfl,.inl ⟨_,rfl,M2.first W Sa Sb (by simpa using e3) fst⟩⟩
      rw [if_neg e3];have e3':nb3≠1:=by simpa using e3
      by_cases e4:bc+1 ≥ mg
      ·rw [if_pos e4];exact wpS_pure ⟨rfl,.inr ⟨rfl,M2,g1,by show 2≤nb3∧nb3≤b.size;lia,by show na3+1+nb3+1≤na+nb;lia⟩⟩
      ·rw [if_neg e4];exact wpS_pure ⟨rfl,rfl,M2,g1,by show 2≤nb3∧nb3≤b.size;lia,by show na3+1+nb3+(j+1)≤na+nb;lia⟩
    ·clear M;rintro⟨c0,na2,nb2,out,ac,bc⟩ st' ⟨rfl,rfl,M,g1,g2,g3⟩;dsimp only at M g1 g2 g3;exact absurd g3 (by lia)
   ·rintro⟨c0,na2,nb2,out,ac,bc⟩ st' ⟨rfl,hc⟩;dsimp only at hc ⊢;rcases hc with ⟨r,rfl,hm⟩|⟨rfl,M,g1,g2,g3⟩
    ·exact wpS_pure ⟨r,g,rfl,hm,rfl⟩
    dsimp only;refine wpS_bind (wpS_lift (wpAny_rule ⟨rfl,?_⟩));refine wpS_bind (wpS_mono (Q:=fun c st'=>∃g,st'=setG st g∧((∃r,c.1=some r∧Mg LT a b r)∨(c.1=none∧MH LT a b c.2.2.2.1 c.2.1 c.2.2.1∧(1≤c.2.1∧c.2.1<a.size)∧(2≤c.2.2.1∧c.2.2.1≤b.size)∧c.2.1+c.2.2.1+1≤na+nb))) ?_ ?_)
    ·refine wpS_forRange (fun j c st'=>∃g,st'=setG st g∧c.1=none∧MH LT a b c.2.2.2.1 c.2.1 c.2.2.1∧(1≤c.2.1∧c.2.1<a.size)∧(2≤c.2.2.1∧c.2.2.1≤b.size)∧c.2.1+c.2.2.1+1+j≤na+nb) ?_ ?_ ⟨g,rfl,rfl,M,g1,g2,g3⟩
     ·clear M g1 g2 g3;rintro j ⟨c0,na2,nb2,out,mg2,ac,bc⟩ st' _ hj ⟨g,rfl,rfl,M,g1,g2,g3⟩;dsimp only at M g1 g2 g3 ⊢;obtain⟨nb3,rfl⟩:∃n,nb2=n+1:=⟨nb2-1,by lia⟩
      revert mg2;refine share1 (fun H mg2=>?_) ?_
      ·by_cases e0:¬ mg2>1
       ·rw [if_neg e0];exact H mg2
       ·rw [if_pos (Decidable.not_not.mp e0)];exact H (mg2-1)
      intro mg3;refine wpS_bind (wpS_modify ?_);refine wpS_bind (zh (ql (show nb3+1-1<b.size by lia)) ?_);refine wpS_bind (qap C hk (Db _ (by lia)) (fun i=>at' a i) (fun i hi=>⟨by rw [Nat.zero_add];exact ql (by lia),Da _ (by lia)⟩) (by lia) (qfO W Sa (by lia)) fun k l1 l2 l3=>?_);simp only [Nat.add_sub_cancel]at l2 l3;dsimp only;have t2:∀i,i<k→LT (at' b nb3) (at' a i)=false:=fun i g1=>by
       have this:(!LT (at' b nb3) (at' a i))=true:=l2 i g1
       simpa using this
      have t3:∀i,k≤i→i<na2→LT (at' b nb3) (at' a i)=true:=fun i z1 z2=>by
       have this:(!LT (at' b nb3) (at' a i))=false:=l3 i z1 z2
       simpa using this
      generalize hac:na2-k=ac2;generalize hu:out=u;generalize hv:na2=v;revert u v;refine qev (fun out' na'=>MH LT a b out' na' (nb3+1)∧1≤na'∧na'≤na2∧LT (at' b nb3) (at' a (na'-1))=false) (fun H u hu v hv=>?_) ?_
      ·subst hu;subst hv;by_cases e4:¬ ac2>0
       ·rw [if_neg e4];exact H out na2 ⟨M,by lia,Nat.le_refl _,t2 _ (by lia)⟩
       ·rw [if_pos (Decidable.not_not.mp e4)];have M2:=M.takeA W Sa (by lia) k (by lia) fun i g1 g2 j' g3=>W.neg _ _ _ (zM W Sb (show j'≤nb3 by lia) (by lia)) (W.asym _ _ (t3 i g1 g2))
        by_cases e3:(k==0)=true
        ·rw [if_pos e3];exact wpS_pure ⟨_,rfl,.inl ⟨_,rfl,M2.done W Sa Sb (.inl (by simpa using e3))⟩⟩
        rw [if_neg e3];have e3':k≠0:=by simpa using e3
        exact H _ _ ⟨M2,by lia,by lia,t2 _ (by lia)⟩
      rintro out3 na3 ⟨M2,hn1,hn2,q2⟩;obtain⟨na9,rfl⟩:∃n,na3=n+1:=⟨na3-1,by lia⟩
      try dsimp only
      simp only [Nat.add_sub_cancel];refine wpS_bind (zh (ql (show nb3<b.size by lia)) ?_);have M3:=M2.pushB W Sa Sb (by lia) (by lia) fun _=>q2
      by_cases e5:(nb3==1)=true
      ·rw [if_pos e5];exact wpS_pure ⟨_,rfl,.inl ⟨_,rfl,M3.first W Sa Sb (by simpa using e5) fst⟩⟩
      rw [if_neg e5];have e5':nb3≠1:=by simpa using e5
      refine wpS_bind (zh (ql (show na9<a.size by lia)) ?_);generalize out3.push (at' b nb3)=out5 at M3 ⊢;refine wpS_bind (qap C hk (Da _ (by lia)) (fun i=>at' b i) (fun i hi=>⟨by rw [Nat.zero_add];exact ql (by lia),Db _ (by lia)⟩) (by lia) (qfO W Sb (by lia)) fun k' l1' l2' l3'=>?_);dsimp only;generalize hbc:nb3-k'=bc2;generalize hu:out5=u;generalize hv:nb3=v;revert u v;refine qev (fun out' nb'=>MH LT a b out' (na9+1) nb'∧2≤nb'∧nb'≤nb3∧LT (at' b (nb'-1)) (at' a na9)=true) (fun H u hu v hv=>?_) ?_
      ·subst hu;subst hv;by_cases e6:¬ bc2>0
       ·rw [if_neg e6];exact H out5 nb3 ⟨M3,by lia,Nat.le_refl _,l2' (nb3-1) (by lia)⟩
       ·rw [if_pos (Decidable.not_not.mp e6)];have M4:=M3.takeB W Sb (by lia) k' (by lia) fun i g1 g2 j' g3=>by
         have z:LT (at' b i) (at' a na9)=false:=l3' i g1 g2;exact W.neg _ _ _ (zM W Sa (show j'≤na9 by lia) (by lia)) z
        by_cases e8:(k'==1)=true
        ·rw [if_pos e8];exact wpS_pure ⟨_,rfl,.inl ⟨_,rfl,M4.first W Sa Sb (by simpa using e8) fst⟩⟩
        rw [if_neg e8];have e8':k'≠1:=by simpa using e8
        by_cases e9:(k'==0)=true
        ·rw [if_pos e9];exact wpS_pure ⟨_,rfl,.inl ⟨_,rfl,M4.done W Sa Sb (.inr (by simpa using e9))⟩⟩
        rw [if_neg e9];have e9':k'≠0:=by simpa using e9
        exact H _ _ ⟨M4,by lia,by lia,l2' (k'-1) (by lia)⟩
      rintro out4 nb4 ⟨M4,hb2,hb3,q5⟩
      try dsimp only
      refine wpS_bind (zh (ql (show na9<a.size by lia)) ?_);have M5:=M4.pushA W Sa Sb (by lia) (by lia) fun _=>q5
      by_cases e7:(na9==0)=true
      ·rw [if_pos e7];exact wpS_pure ⟨_,rfl,.inl ⟨_,rfl,M5.done W Sa Sb (.inl (by simpa using e7))⟩⟩
      rw [if_neg e7];have e7':na9≠0:=by simpa using e7
      split
      ·exact wpS_pure ⟨_,rfl,.inr ⟨rfl,M5,by show 1≤na9∧na9<a.size;lia,by show 2≤nb4∧nb4≤b.size;lia,by show na9+nb4+1≤na+nb;lia⟩⟩
      ·exact wpS_pure ⟨_,rfl,rfl,M5,by show 1≤na9∧na9<a.size;lia,by show 2≤nb4∧nb4≤b.size;lia,by show na9+nb4+1+(j+1)≤na+nb;lia⟩
     ·clear M g1 g2 g3;rintro⟨c0,na2,nb2,out,mg2,ac,bc⟩ st' ⟨g,rfl,rfl,M,g1,g2,g3⟩;dsimp only at M g1 g2 g3;exact absurd g3 (by lia)
    ·rintro⟨c0,na2,nb2,out,mg2,ac,bc⟩ st' ⟨g,rfl,hc⟩;dsimp only at hc ⊢;rcases hc with ⟨r,rfl,hm⟩|⟨rfl,M,g1,g2,g3⟩
     ·exact wpS_pure ⟨r,g,rfl,hm,rfl⟩
     dsimp only;refine wpS_bind (wpS_modify ?_);exact wpS_pure ⟨mg2+1,rfl,rfl,M,g1,g2,by show na2+nb2+(i+1)≤a.size+b.size;lia⟩
  ·rintro⟨c0,na,nb,out,mg⟩ st' ⟨g,rfl,rfl,M,h1,h2,h3⟩;dsimp only at M h1 h2 h3;exact absurd h3 (by lia)
 ·rintro⟨c0,na,nb,out,mg⟩ st' ⟨r,g,hr,hm,rfl⟩;dsimp only at hr ⊢;subst hr;exact wpS_pure (h r g hm)
end
structure Rk(D:Keyed→Prop)(LT:Keyed→Keyed→Bool)(R:Keyed→Int):Prop where
 rk:∀x y,D x→D y→LT x y=decide (R x<R y)
structure SB(κ:SortKind)(p:Array (Nat×Nat×Nat))(a₁:Array Keyed)(lo:Nat)(st:SortSt):Prop where
 kd:kindOf st=κ
 fl:failedOf st=none
 pn:pendingOf st=p
 pm:(arrOf st).Perm a₁
 lw:∀i,i<lo→at' (arrOf st) i=at' a₁ i
noncomputable def Kr(R:Keyed→Int)(xs:Array Keyed)(i:Nat):Int:=R (at' xs i)
noncomputable def Seg(R:Keyed→Int)(xs:Array Keyed)(lo n:Nat):Prop:=∀i j,i≤j→j<n→Kr R xs (lo+i)≤Kr R xs (lo+j)
noncomputable def Dsc(R:Keyed→Int)(xs:Array Keyed)(lo n:Nat):Prop:=∀i j,i≤j→j<n→Kr R xs (lo+j)≤Kr R xs (lo+i)
theorem qbi{xs ys:Array Keyed}{i j:Nat}(h:xs[i]? = ys[j]?):at' xs i=at' ys j:=by
 unfold at';rw [Array.getD_eq_getD_getElem?,Array.getD_eq_getD_getElem?,h]
theorem qfQ{xs:Array Keyed}{src d:Nat}(hs:src<xs.size)(hd:d≤src)(k:Nat) :
  at' (bubble xs src d) k=if k=src-d then at' xs src else if src-d<k∧k≤src then at' xs (k-1)else at' xs k:=by
 have e:=getElem?_bubble hs d hd k;by_cases h1:k=src-d
 ·rw [if_pos h1]at e ⊢;exact qbi e
 ·rw [if_neg h1]at e ⊢;by_cases h2:src-d<k∧k≤src
  ·rw [if_pos h2]at e ⊢;exact qbi e
  ·rw [if_neg h2]at e ⊢;exact qbi e
theorem qfB{xs:Array Keyed}{i j:Nat}(hj:j≤xs.size)(k:Nat) :
  at' (mirror xs i j ((j-i)/2)) k=if i≤k∧k<j then at' xs (i+j-1-k)else at' xs k:=by
 have e:=getElem?_mirror_all (i:=i) hj k;by_cases h1:i≤k∧k<j
 ·rw [if_pos h1]at e ⊢;exact qbi e
 ·rw [if_neg h1]at e ⊢;exact qbi e
section
variable{prog:Program}{w:World}{A:Around}{E:Value→Shared→Prop}{s:Shared}{κ:SortKind}{D:Keyed→Prop}{LT:Keyed→Keyed→Bool}{R:Keyed→Int}{p:Array (Nat×Nat×Nat)}{a₁:Array Keyed}{lo:Nat}
theorem qfM{xs:Array Keyed}{src d:Nat}(hs:src<xs.size)(hd:d≤src)(k:Nat) :
  Kr R (bubble xs src d) k=if k=src-d then Kr R xs src else if src-d<k∧k≤src then Kr R xs (k-1)else Kr R xs k:=by
 unfold Kr;rw [qfQ hs hd];repeat' split
 all_goals rfl
theorem qdj{xs:Array Keyed}{i j:Nat}(hj:j≤xs.size)(k:Nat) :
  Kr R (mirror xs i j ((j-i)/2)) k=if i≤k∧k<j then Kr R xs (i+j-1-k)else Kr R xs k:=by
 unfold Kr;rw [qfB hj];split
 all_goals rfl
theorem qat{xs:Array Keyed}{i j:Nat}(hj:j≤xs.size)(heq:∀k,i≤k→k<j→Kr R xs k=Kr R xs (j-1))(k:Nat) :
  Kr R (mirror xs i j ((j-i)/2)) k=Kr R xs k:=by
 rw [qdj hj];split
 ·rw [heq _ (by lia) (by lia),heq k (by lia) (by lia)]
 ·rfl
theorem SB.size{st:SortSt}(h:SB κ p a₁ lo st):(arrOf st).size=a₁.size:=h.pm.size_eq
theorem SB.dom{st:SortSt}(h:SB κ p a₁ lo st)(Da:∀x∈a₁.toList,D x){i:Nat}(hi:i<a₁.size):D (at' (arrOf st) i):=
 Da _ ((Array.perm_iff_toList_perm.mp h.pm).mem_iff.mp (qdX (by rw [h.size];exact hi)))
theorem SB.setArr{st:SortSt}(h:SB κ p a₁ lo st){xs:Array Keyed}(hp:xs.Perm (arrOf st))(hl:∀i,i<lo→at' xs i=at' (arrOf st) i):SB κ p a₁ lo (setArr st xs):=
 ⟨h.kd,h.fl,h.pn,hp.trans h.pm,fun i hi=>(hl i hi).trans (h.lw i hi)⟩
theorem SB.mir{st:SortSt}(h:SB κ p a₁ lo st){i j:Nat}(hi:lo≤i)(hj:j≤a₁.size):SB κ p a₁ lo (PyProof.Rows.setArr st (mirror (arrOf st) i j ((j-i)/2))):=
 h.setArr (mirror_perm _ _ _ _) fun k hk=>by
  rw [qfB (by rw [h.size];exact hj),if_neg (by lia)]
theorem qaa{st:SortSt}{i j:Nat}{Q:Option Bool→SortSt→Prop}(C:Cmp prog w A s κ D LT)(K:Rk D LT R)(Da:∀x∈a₁.toList,D x)(hB:SB κ p a₁ lo st)(hi:i<a₁.size)(hj:j<a₁.size)
  (h:Q (some (decide (Kr R (arrOf st) i<Kr R (arrOf st) j))) st):wpS (model prog w) A E s (ltAt' i j) Q st:=by
 rw [ltAt'_eq];refine wpS_bind (wpS_get ?_);refine wpS_bind (zh (ql (by rw [hB.size];exact hi)) ?_);refine wpS_bind (zh (ql (by rw [hB.size];exact hj)) ?_);refine qdd C (hB.dom Da hi) (hB.dom Da hj) hB.kd ?_;rw [K.rk _ _ (hB.dom Da hi) (hB.dom Da hj)];exact h
structure Hf(R:Keyed→Int)(xs:Array Keyed)(lo k x l r:Nat):Prop where
 lr:l≤r
 rk:r≤k
 fu:r-l+x≤k
 low:∀i,lo≤i→i<lo+l→Kr R xs i≤Kr R xs (lo+k)
 upp:∀i,lo+r≤i→i<lo+k→Kr R xs (lo+k)<Kr R xs i
theorem Seg.at{xs:Array Keyed}{n:Nat}(S:Seg R xs lo n){i j:Nat}(a:lo≤i)(b:i≤j)(c:j<lo+n):Kr R xs i≤Kr R xs j:=by
 have z:=S (i-lo) (j-lo) (by lia) (by lia)
 rwa [Nat.add_sub_cancel' a,Nat.add_sub_cancel' (Nat.le_trans a b)]at z
theorem Hf.go{xs:Array Keyed}{k x l r:Nat}(h:Hf R xs lo k x l r)(S:Seg R xs lo k)(hl:l<r) :
  (Kr R xs (lo+k)<Kr R xs (lo+(l+r)/2)→Hf R xs lo k (x+1) l ((l+r)/2))∧(¬ Kr R xs (lo+k)<Kr R xs (lo+(l+r)/2)→Hf R xs lo k (x+1) ((l+r)/2+1) r):=by
 have:=h.rk;have:=h.fu;refine⟨fun z=>⟨by lia,by lia,by lia,h.low,fun i a b=>Int.lt_of_lt_of_le z (S.at (by lia) a (by lia))⟩,fun z=>⟨by lia,h.rk,by lia,fun i a b=>?_,h.upp⟩⟩;have:=S.at (i:=i) (j:=lo+(l+r)/2) a (by lia) (by lia);lia
theorem Hf.put{xs:Array Keyed}{k x l:Nat}(h:Hf R xs lo k x l l)(hk:lo+k<xs.size)(S:Seg R xs lo k) :
  Seg R (bubble xs (lo+k) (lo+k-(lo+l))) lo (k+1)∧∀i,i<lo→at' (bubble xs (lo+k) (lo+k-(lo+l))) i=at' xs i:=by
 have:=h.rk;have e:lo+k-(lo+k-(lo+l))=lo+l:=by lia
 refine⟨fun i j hij hj=>?_,fun i hi=>by rw [qfQ hk (by lia),if_neg (by lia),if_neg (by lia)]⟩;rw [qfM hk (by lia),qfM hk (by lia),e];by_cases ai:lo+i=lo+l<;>by_cases aj:lo+j=lo+l<;>by_cases bi:lo+l<lo+i∧lo+i≤lo+k<;>by_cases bj:lo+l<lo+j∧lo+j≤lo+k<;>simp only [ai,aj,bi,bj,if_true,if_false,and_self]<;>first
  | (exfalso;lia)
  |lia
  |exact h.low _ (by lia) (by lia)
  |exact Int.le_of_lt (h.upp _ (by lia) (by lia))
  |exact S.at (by lia) (by lia) (by lia)
theorem qhR(C:Cmp prog w A s κ D LT)(K:Rk D LT R)(Da:∀x∈a₁.toList,D x){st:SortSt}{n ok:Nat}{Q:Bool→SortSt→Prop}(hn:lo+n≤a₁.size)(hok:ok≤n)(hB:SB κ p a₁ lo st)(hs:Seg R (arrOf st) lo ok)
  (h:∀st',SB κ p a₁ lo st'→Seg R (arrOf st') lo n→Q true st'):wpS (model prog w) A E s (binarySort' lo n ok) Q st:=by
 rw [binarySort'_eq];have seg1:Seg R (arrOf st) lo (min (max ok 1) n):=fun i j a b=>by
  by_cases z:ok=0
  ·rw [show i=j by lia];exact Int.le_refl _
  ·exact hs i j a (by lia)
 refine wpS_bind (wpS_mono (wpS_forRange (fun k c t=>c=(none,())∧SB κ p a₁ lo t∧Seg R (arrOf t) lo (min k n)) (Q:=fun c t=>c=(none,())∧SB κ p a₁ lo t∧Seg R (arrOf t) lo n) ?_ ?_ ⟨rfl,hB,seg1⟩) fun c t ⟨e,b,z⟩=>by rw [e];exact wpS_pure (h t b z))
 ·rintro k c t k1 k2 ⟨rfl,B,S⟩;rw [Nat.min_eq_left (Nat.le_of_lt k2)]at S;have kz:lo+k<a₁.size:=by lia
  have kz':lo+k<(arrOf t).size:=by rw [B.size];exact kz
  refine wpS_bind (wpS_mono (wpS_forRange (fun x c u=>u=t∧∃l r,c=(none,l,r)∧Hf R (arrOf t) lo k x l r) (Q:=fun c u=>u=t∧∃x l,c=(none,l,l)∧Hf R (arrOf t) lo k x l l) ?_ ?_ ⟨rfl,0,k,rfl,Nat.zero_le _,Nat.le_refl _,by lia,fun i a b=>by lia,fun i a b=>by lia⟩) ?_)
  ·rintro x c u _ x2 ⟨rfl,l,r,rfl,f⟩;dsimp only;have:=f.lr;by_cases z:l ≥ r
   ·rw [if_pos z];obtain rfl:l=r:=by lia
    exact wpS_pure ⟨rfl,x,l,rfl,f⟩
   rw [if_neg z];have:=f.rk;refine wpS_bind (qaa C K Da B kz (by lia) ?_);obtain⟨g1,g2⟩:=f.go S (by lia);cases q:decide (Kr R (arrOf u) (lo+k)<Kr R (arrOf u) (lo+(l+r)/2))with
   |true=>exact wpS_pure ⟨rfl,_,_,rfl,g1 (of_decide_eq_true q)⟩
   |false=>exact wpS_pure ⟨rfl,_,_,rfl,g2 (of_decide_eq_false q)⟩
  ·rintro c u ⟨rfl,l,r,rfl,f⟩;have:=f.lr;have:=f.fu;obtain rfl:l=r:=by lia
   exact⟨rfl,_,l,rfl,f⟩
  ·rintro c u ⟨rfl,x,l,rfl,f⟩;obtain⟨g1,g2⟩:=f.put kz' S;dsimp only;rw [moveDown'_eq];refine wpS_bind (wpS_modify (wpS_pure ⟨rfl,B.setArr (bubble_perm _ _ _) g2,?_⟩));rw [Nat.min_eq_left k2];exact g1
 ·rintro c t ⟨e,b,z⟩;rw [show min (max (max ok 1) n) n=n by lia]at z;exact⟨e,b,z⟩
end
section
variable{prog:Program}{w:World}{A:Around}{E:Value→Shared→Prop}{s:Shared}{κ:SortKind}{D:Keyed→Prop}{LT:Keyed→Keyed→Bool}{R:Keyed→Int}{p:Array (Nat×Nat×Nat)}{a₁:Array Keyed}{lo:Nat}{xs:Array Keyed}
theorem Seg.one:Seg R xs lo 1:=fun i j a b=>by rw [show i=j by lia];exact Int.le_refl _
theorem Seg.more{n:Nat}(S:Seg R xs lo n)(z:1≤n→Kr R xs (lo+n-1)≤Kr R xs (lo+n)):Seg R xs lo (n+1):=fun i j a b=>by
 by_cases c:j=n
 ·subst c;by_cases d:i=j
  ·rw [d];exact Int.le_refl _
  ·have y:=S i (j-1) (by lia) (by lia);rw [show lo+(j-1)=lo+j-1 by lia]at y;exact Int.le_trans y (z (by lia))
 ·exact S i j a (by lia)
theorem Dsc.one:Dsc R xs lo 1:=fun i j a b=>by rw [show i=j by lia];exact Int.le_refl _
theorem Dsc.more{n:Nat}(S:Dsc R xs lo n)(z:1≤n→Kr R xs (lo+n)≤Kr R xs (lo+n-1)):Dsc R xs lo (n+1):=fun i j a b=>by
 by_cases c:j=n
 ·subst c;by_cases d:i=j
  ·rw [d];exact Int.le_refl _
  ·have y:=S i (j-1) (by lia) (by lia);rw [show lo+(j-1)=lo+j-1 by lia]at y;exact Int.le_trans (z (by lia)) y
 ·exact S i j a (by lia)
theorem Dsc.alike{ys:Array Keyed}{n:Nat}(S:Dsc R xs lo n)(e:∀k,Kr R ys k=Kr R xs k):Dsc R ys lo n:=fun i j a b=>by rw [e,e];exact S i j a b
theorem qbU{st:SortSt}{a nrem:Nat}{β:Type}{mk:Nat→β}{Q:β→SortSt→Prop}(hn:lo+nrem≤a₁.size)(ha:1≤a)(han:a≤nrem)(S0:Seg R (arrOf st) lo a)
  {body:Nat→β→StateT SortSt Sem (ForInStep β)}
  (hb:∀x n (Q':ForInStep β→SortSt→Prop),lo+n<a₁.size→1≤n→(Kr R (arrOf st) (lo+n)<Kr R (arrOf st) (lo+n-1)→Q' (.done (mk n)) st)→(¬ Kr R (arrOf st) (lo+n)<Kr R (arrOf st) (lo+n-1)→Q' (.yield (mk (n+1))) st)→wpS (model prog w) A E s (body x (mk n)) Q' st)
  (h:∀n,a≤n→n≤nrem→Seg R (arrOf st) lo n→(n≠nrem→Kr R (arrOf st) (lo+n)<Kr R (arrOf st) (lo+n-1))→Q (mk n) st) :
  wpS (model prog w) A E s (forIn [a:nrem] (mk a) body) Q st:=
 wpS_forRange (fun x c t=>t=st∧c=mk x∧Seg R (arrOf st) lo x) (fun x c t x1 x2 ⟨e1,e2,S⟩=>by
   subst e1 e2;exact hb x x _ (by lia) (by lia) (fun z=>h x x1 (by lia) S fun _=>z) fun z=>⟨rfl,rfl,S.more fun _=>by lia⟩)
  (fun c t ⟨e1,e2,S⟩=>by
   subst e1 e2;rw [Nat.max_eq_right han]at S ⊢;exact h nrem han (Nat.le_refl _) S fun z=>absurd rfl z) ⟨rfl,rfl,S0⟩
theorem Dsc.turn{n:Nat}(S:Dsc R xs lo n)(hz:lo+n≤xs.size):Seg R (mirror xs lo (lo+n) ((lo+n-lo)/2)) lo n:=fun i j a b=>by
 have y:=S (n-1-j) (n-1-i) (by lia) (by lia);rw [show lo+(n-1-j)=lo+(lo+n)-1-(lo+j)by lia,show lo+(n-1-i)=lo+(lo+n)-1-(lo+i)by lia]at y
 rwa [qdj hz,qdj hz,if_pos ⟨by lia,by lia⟩,if_pos ⟨by lia,by lia⟩]
noncomputable def Flat(R:Keyed→Int)(xs:Array Keyed)(lo m neq:Nat):Prop:=∀i,lo+m-(neq+1)≤i→i<lo+m→Kr R xs i=Kr R xs (lo+m-1)
theorem Flat.zero{m:Nat}:Flat R xs lo m 0:=fun i a b=>by rw [show i=lo+m-1 by lia]
theorem Flat.more{m neq:Nat}(f:Flat R xs lo m neq)(z:Kr R xs (lo+m)=Kr R xs (lo+m-1)):Flat R xs lo (m+1) (neq+1):=fun i a b=>by
 rw [show lo+(m+1)-1=lo+m by lia];by_cases c:i=lo+m
 ·rw [c]
 ·rw [z];exact f i (by lia) (by lia)
theorem qfG{st:SortSt}{n nrem:Nat}{β:Type}{mk:Nat→Nat→β}{Q:β→SortSt→Prop}(hn:lo+nrem≤a₁.size)(h1:1≤n)(hnn:n≤nrem)(B0:SB κ p a₁ lo st)(S0:Dsc R (arrOf st) lo n)
  {body:Nat→β→StateT SortSt Sem (ForInStep β)}
  (hb:∀x n neq t (Q':ForInStep β→SortSt→Prop),SB κ p a₁ lo t→lo+n<a₁.size→1≤n →
   (Kr R (arrOf t) (lo+n)<Kr R (arrOf t) (lo+n-1)→neq>0→Q' (.yield (mk (n+1) 0)) (setArr t (mirror (arrOf t) (lo+n-(neq+1)) (lo+n) ((lo+n-(lo+n-(neq+1)))/2)))) →
   (Kr R (arrOf t) (lo+n)<Kr R (arrOf t) (lo+n-1)→¬ neq>0→Q' (.yield (mk (n+1) 0)) t) →
   (Kr R (arrOf t) (lo+n-1)<Kr R (arrOf t) (lo+n)→Q' (.done (mk n neq)) t) →
   (Kr R (arrOf t) (lo+n)=Kr R (arrOf t) (lo+n-1)→Q' (.yield (mk (n+1) (neq+1))) t) →
   wpS (model prog w) A E s (body x (mk n neq)) Q' t)
  (h:∀m neq t,SB κ p a₁ lo t→n≤m→m≤nrem→Dsc R (arrOf t) lo m→neq+1≤m→Flat R (arrOf t) lo m neq→Q (mk m neq) t) :
  wpS (model prog w) A E s (forIn [n:nrem] (mk n 0) body) Q st:=
 wpS_forRange (fun x c t=>∃neq,c=mk x neq∧SB κ p a₁ lo t∧Dsc R (arrOf t) lo x∧neq+1≤x∧Flat R (arrOf t) lo x neq) (fun x c t x1 x2 ⟨neq,e,B,S,q,f⟩=>by
   subst e;have hz:lo+x≤(arrOf t).size:=by rw [B.size];lia
   refine hb x x neq t _ B (by lia) (by lia) (fun z _=>?_) (fun z _=>?_) (fun _=>h x neq t B x1 (by lia) S q f) fun z=>⟨neq+1,rfl,B,S.more fun _=>Int.le_of_eq z,by lia,f.more z⟩
   ·exact⟨0,rfl,B.mir (by lia) (by lia),(S.more fun _=>Int.le_of_lt z).alike (qat hz f),by lia,Flat.zero⟩
   ·exact⟨0,rfl,B,S.more fun _=>Int.le_of_lt z,by lia,Flat.zero⟩)
  (fun c t ⟨neq,e,B,S,q,f⟩=>by
   subst e;rw [Nat.max_eq_right hnn]at S q f ⊢;exact h nrem neq t B hnn (Nat.le_refl _) S q f) ⟨0,rfl,B0,S0,by lia,Flat.zero⟩
theorem qjz(C:Cmp prog w A s κ D LT)(K:Rk D LT R)(Da:∀x∈a₁.toList,D x){st:SortSt}{nrem:Nat}{Q:Option Nat→SortSt→Prop}(hn:lo+nrem≤a₁.size)(h1:1≤nrem)(hB:SB κ p a₁ lo st)
  (h:∀m st',SB κ p a₁ lo st'→1≤m→m≤nrem→Seg R (arrOf st') lo m→Q (some m) st') :
  wpS (model prog w) A E s (countRun' lo nrem) Q st:=by
 rw [countRun'_eq];refine wpS_bind (qbU (R:=R) (mk:=fun n=>(none,n)) hn (Nat.le_refl 1) h1 Seg.one ?_ ?_)
 ·intro x n Q' hl n1 q1 q2;dsimp only;refine wpS_bind (qaa C K Da (hB) hl (by lia) ?_);cases z:decide (Kr R (arrOf st) (lo+n)<Kr R (arrOf st) (lo+n-1))with
  |true=>exact wpS_pure (q1 (of_decide_eq_true z))
  |false=>exact wpS_pure (q2 (of_decide_eq_false z))
 intro n n1 n2 S z;dsimp only;by_cases e:(n==nrem)=true
 ·rw [if_pos e];exact wpS_pure (h n st hB n1 n2 S)
 rw [if_neg e];have e':n≠nrem:=by simpa using e
 have lt:=z e';have hz:lo+n≤(arrOf st).size:=by rw [hB.size];lia
 by_cases g:n>1
 ·rw [if_pos g];refine wpS_bind (qaa C K Da hB (by lia) (by lia) ?_);cases y:decide (Kr R (arrOf st) lo<Kr R (arrOf st) (lo+n-1))with
  |true=>exact wpS_pure (h n st hB n1 n2 S)
  |false=>
   have y':=of_decide_eq_false y;have f:∀k,lo≤k→k<lo+n→Kr R (arrOf st) k=Kr R (arrOf st) (lo+n-1):=fun k a b=>by
    have b1:=S.at (i:=lo) (j:=k) (Nat.le_refl _) a b;have b2:=S.at (i:=k) (j:=lo+n-1) a (by lia) (by lia);lia
   dsimp only;rw [if_neg Bool.false_ne_true];refine wpS_bind (wpS_reverse ?_);have dB:SB κ p a₁ lo (setArr st (mirror (arrOf st) lo (lo+n) ((lo+n-lo)/2))):=hB.mir (Nat.le_refl _) (by lia);have dS:Dsc R (arrOf (setArr st (mirror (arrOf st) lo (lo+n) ((lo+n-lo)/2)))) lo (n+1):=Dsc.alike (xs:=arrOf st) (Dsc.more (fun i j a b=>by rw [f (lo+i) (by lia) (by lia),f (lo+j) (by lia) (by lia)];exact Int.le_refl _) fun _=>Int.le_of_lt lt) (qat hz f);refine wpS_bind (wpS_lift (wpAny_rule ⟨rfl,?_⟩));refine wpS_bind (qfG (mk:=fun n q=>(none,n,q)) hn (by lia) (by lia) (dB) dS ?_ ?_)
   ·intro x n neq t Q' tB hl n1 q1 q2 q3 q4;dsimp only;refine wpS_bind (qaa C K Da tB hl (by lia) ?_);cases z:decide (Kr R (arrOf t) (lo+n)<Kr R (arrOf t) (lo+n-1))with
    |true=>
     by_cases y:neq>0
     ·dsimp only;rw [if_pos rfl,if_pos y];exact wpS_bind (wpS_reverse (wpS_pure (q1 (of_decide_eq_true z) y)))
     ·dsimp only;rw [if_pos rfl,if_neg y];exact wpS_pure (q2 (of_decide_eq_true z) y)
    |false=>
     have z':=of_decide_eq_false z;refine wpS_bind (qaa C K Da tB (by lia) hl ?_);cases y:decide (Kr R (arrOf t) (lo+n-1)<Kr R (arrOf t) (lo+n))with
     |true=>exact wpS_pure (q3 (of_decide_eq_true y))
     |false=>
      have y':=of_decide_eq_false y;exact wpS_pure (q4 (by lia))
   ·intro m neq t tB m1 m2 tS nm f;have hz:lo+m≤(arrOf t).size:=by rw [tB.size];lia
    dsimp only;by_cases y:neq>0
    ·rw [if_pos y];refine wpS_bind (wpS_reverse ?_);have MB:SB κ p a₁ lo (setArr t (mirror (arrOf t) (lo+m-(neq+1)) (lo+m) ((lo+m-(lo+m-(neq+1)))/2))):=tB.mir (by lia) (by lia);have MS:Dsc R (arrOf (setArr t (mirror (arrOf t) (lo+m-(neq+1)) (lo+m) ((lo+m-(lo+m-(neq+1)))/2)))) lo m:=tS.alike (qat hz f);refine wpS_bind (wpS_reverse ?_);have TB:SB κ p a₁ lo (setArr (setArr t (mirror (arrOf t) (lo+m-(neq+1)) (lo+m) ((lo+m-(lo+m-(neq+1)))/2))) (mirror (arrOf (setArr t (mirror (arrOf t) (lo+m-(neq+1)) (lo+m) ((lo+m-(lo+m-(neq+1)))/2)))) lo (lo+m) ((lo+m-lo)/2))):=(MB).mir (Nat.le_refl _) (by lia);refine wpS_bind (qbU (R:=R) (mk:=fun n=>(none,n)) hn (by lia) m2 (Dsc.turn (MS) (by show lo+m≤(arrOf (setArr t (mirror (arrOf t) (lo+m-(neq+1)) (lo+m) ((lo+m-(lo+m-(neq+1)))/2)))).size;rw [(MB).size];lia)) ?_ ?_)
     ·intro x n Q' hl n1 q1 q2;dsimp only;refine wpS_bind (qaa C K Da (TB) hl (by lia) ?_);cases z:decide (Kr R (arrOf (setArr (setArr t (mirror (arrOf t) (lo+m-(neq+1)) (lo+m) ((lo+m-(lo+m-(neq+1)))/2))) (mirror (arrOf (setArr t (mirror (arrOf t) (lo+m-(neq+1)) (lo+m) ((lo+m-(lo+m-(neq+1)))/2)))) lo (lo+m) ((lo+m-lo)/2)))) (lo+n)<Kr R (arrOf (setArr (setArr t (mirror (arrOf t) (lo+m-(neq+1)) (lo+m) ((lo+m-(lo+m-(neq+1)))/2))) (mirror (arrOf (setArr t (mirror (arrOf t) (lo+m-(neq+1)) (lo+m) ((lo+m-(lo+m-(neq+1)))/2)))) lo (lo+m) ((lo+m-lo)/2)))) (lo+n-1))with
      |true=>exact wpS_pure (q1 (of_decide_eq_true z))
      |false=>exact wpS_pure (q2 (of_decide_eq_false z))
     ·intro j j1 j2 j3 _;exact wpS_pure (h j _ TB (by lia) j2 j3)
    ·rw [if_neg y];refine wpS_bind (wpS_reverse ?_);have TB:SB κ p a₁ lo (setArr t (mirror (arrOf t) lo (lo+m) ((lo+m-lo)/2))):=(tB).mir (Nat.le_refl _) (by lia);refine wpS_bind (qbU (R:=R) (mk:=fun n=>(none,n)) hn (by lia) m2 (Dsc.turn (tS) (by show lo+m≤(arrOf t).size;rw [(tB).size];lia)) ?_ ?_)
     ·intro x n Q' hl n1 q1 q2;dsimp only;refine wpS_bind (qaa C K Da (TB) hl (by lia) ?_);cases z:decide (Kr R (arrOf (setArr t (mirror (arrOf t) lo (lo+m) ((lo+m-lo)/2)))) (lo+n)<Kr R (arrOf (setArr t (mirror (arrOf t) lo (lo+m) ((lo+m-lo)/2)))) (lo+n-1))with
      |true=>exact wpS_pure (q1 (of_decide_eq_true z))
      |false=>exact wpS_pure (q2 (of_decide_eq_false z))
     ·intro j j1 j2 j3 _;exact wpS_pure (h j _ TB (by lia) j2 j3)
 ·rw [if_neg g];obtain rfl:n=1:=by lia
  have dS:Dsc R (arrOf st) lo (1+1):=Dsc.one.more fun _=>Int.le_of_lt lt
  refine wpS_bind (wpS_lift (wpAny_rule ⟨rfl,?_⟩));refine wpS_bind (qfG (mk:=fun n q=>(none,n,q)) hn (by lia) (by lia) (hB) dS ?_ ?_)
  ·intro x n neq t Q' tB hl n1 q1 q2 q3 q4;dsimp only;refine wpS_bind (qaa C K Da tB hl (by lia) ?_);cases z:decide (Kr R (arrOf t) (lo+n)<Kr R (arrOf t) (lo+n-1))with
   |true=>
    by_cases y:neq>0
    ·dsimp only;rw [if_pos rfl,if_pos y];exact wpS_bind (wpS_reverse (wpS_pure (q1 (of_decide_eq_true z) y)))
    ·dsimp only;rw [if_pos rfl,if_neg y];exact wpS_pure (q2 (of_decide_eq_true z) y)
   |false=>
    have z':=of_decide_eq_false z;refine wpS_bind (qaa C K Da tB (by lia) hl ?_);cases y:decide (Kr R (arrOf t) (lo+n-1)<Kr R (arrOf t) (lo+n))with
    |true=>exact wpS_pure (q3 (of_decide_eq_true y))
    |false=>
     have y':=of_decide_eq_false y;exact wpS_pure (q4 (by lia))
  ·intro m neq t tB m1 m2 tS nm f;have hz:lo+m≤(arrOf t).size:=by rw [tB.size];lia
   dsimp only;by_cases y:neq>0
   ·rw [if_pos y];refine wpS_bind (wpS_reverse ?_);have MB:SB κ p a₁ lo (setArr t (mirror (arrOf t) (lo+m-(neq+1)) (lo+m) ((lo+m-(lo+m-(neq+1)))/2))):=tB.mir (by lia) (by lia);have MS:Dsc R (arrOf (setArr t (mirror (arrOf t) (lo+m-(neq+1)) (lo+m) ((lo+m-(lo+m-(neq+1)))/2)))) lo m:=tS.alike (qat hz f);refine wpS_bind (wpS_reverse ?_);have TB:SB κ p a₁ lo (setArr (setArr t (mirror (arrOf t) (lo+m-(neq+1)) (lo+m) ((lo+m-(lo+m-(neq+1)))/2))) (mirror (arrOf (setArr t (mirror (arrOf t) (lo+m-(neq+1)) (lo+m) ((lo+m-(lo+m-(neq+1)))/2)))) lo (lo+m) ((lo+m-lo)/2))):=(MB).mir (Nat.le_refl _) (by lia);refine wpS_bind (qbU (R:=R) (mk:=fun n=>(none,n)) hn (by lia) m2 (Dsc.turn (MS) (by show lo+m≤(arrOf (setArr t (mirror (arrOf t) (lo+m-(neq+1)) (lo+m) ((lo+m-(lo+m-(neq+1)))/2)))).size;rw [(MB).size];lia)) ?_ ?_)
    ·intro x n Q' hl n1 q1 q2;dsimp only;refine wpS_bind (qaa C K Da (TB) hl (by lia) ?_);cases z:decide (Kr R (arrOf (setArr (setArr t (mirror (arrOf t) (lo+m-(neq+1)) (lo+m) ((lo+m-(lo+m-(neq+1)))/2))) (mirror (arrOf (setArr t (mirror (arrOf t) (lo+m-(neq+1)) (lo+m) ((lo+m-(lo+m-(neq+1)))/2)))) lo (lo+m) ((lo+m-lo)/2)))) (lo+n)<Kr R (arrOf (setArr (setArr t (mirror (arrOf t) (lo+m-(neq+1)) (lo+m) ((lo+m-(lo+m-(neq+1)))/2))) (mirror (arrOf (setArr t (mirror (arrOf t) (lo+m-(neq+1)) (lo+m) ((lo+m-(lo+m-(neq+1)))/2)))) lo (lo+m) ((lo+m-lo)/2)))) (lo+n-1))with
     |true=>exact wpS_pure (q1 (of_decide_eq_true z))
     |false=>exact wpS_pure (q2 (of_decide_eq_false z))
    ·intro j j1 j2 j3 _;exact wpS_pure (h j _ TB (by lia) j2 j3)
   ·rw [if_neg y];refine wpS_bind (wpS_reverse ?_);have TB:SB κ p a₁ lo (setArr t (mirror (arrOf t) lo (lo+m) ((lo+m-lo)/2))):=(tB).mir (Nat.le_refl _) (by lia);refine wpS_bind (qbU (R:=R) (mk:=fun n=>(none,n)) hn (by lia) m2 (Dsc.turn (tS) (by show lo+m≤(arrOf t).size;rw [(tB).size];lia)) ?_ ?_)
    ·intro x n Q' hl n1 q1 q2;dsimp only;refine wpS_bind (qaa C K Da (TB) hl (by lia) ?_);cases z:decide (Kr R (arrOf (setArr t (mirror (arrOf t) lo (lo+m) ((lo+m-lo)/2)))) (lo+n)<Kr R (arrOf (setArr t (mirror (arrOf t) lo (lo+m) ((lo+m-lo)/2)))) (lo+n-1))with
     |true=>exact wpS_pure (q1 (of_decide_eq_true z))
     |false=>exact wpS_pure (q2 (of_decide_eq_false z))
    ·intro j j1 j2 j3 _;exact wpS_pure (h j _ TB (by lia) j2 j3)
end
theorem qdt(a:Array Keyed)(i:Nat):at' a i=(a.toList[i]?).getD df:=by
 unfold at';rw [Array.getD_eq_getD_getElem?,Array.getElem?_toList]
theorem qkh{a:Array Keyed}{i j m:Nat}(hj:j≤a.size)(hm:i+m<j):at' (a.extract i j) m=at' a (i+m):=by
 refine qbi ?_;rw [Array.getElem?_extract,if_pos (by lia)]
noncomputable def putAll(s:Nat)(l:List Keyed)(n:Nat)(a:Array Keyed):Array Keyed:=(l.zipIdx n).foldl (fun a (p:Keyed×Nat)=>a.setIfInBounds (s+p.2) p.1) a
theorem qcw(s:Nat):∀(l:List Keyed) (n:Nat) (a:Array Keyed),s+n+l.length≤a.size→(putAll s l n a).toList=a.toList.take (s+n)++l++a.toList.drop (s+n+l.length)
 | [],n,a,_=>by
  show a.toList=_;simp
 |x::l,n,a,h=>by
  show (putAll s l (n+1) (a.setIfInBounds (s+n) x)).toList=_;rw [List.length_cons]at h;rw [qcw s l (n+1) _ (by rw [Array.size_setIfInBounds];lia)];have hl:s+n<a.toList.length:=by rw [Array.length_toList];lia
  rw [Array.toList_setIfInBounds,show s+(n+1)=s+n+1 by lia,List.take_set,List.drop_set,if_pos (by lia),List.length_cons,
   show s+n+1+l.length=s+n+(l.length+1)by lia]
  congr 1
  rw [show (x::l)=[x]++l from rfl,←List.append_assoc]
  congr 1
  rw [List.take_succ_eq_append_getElem hl,List.set_append_right _ _ (by rw [List.length_take];lia),List.length_take,Nat.min_eq_left (by lia),Nat.sub_self]
  rfl
theorem qgN{s:Nat}{r a:Array Keyed}(h:s+r.size≤a.size)(t:Nat):at' (putAll s r.toList 0 a) t=if s≤t∧t<s+r.size then at' r (t-s)else at' a t:=by
 rw [qdt,qcw s _ _ _ (by rw [Array.length_toList];lia),Nat.add_zero,Array.length_toList];have h1:(a.toList.take s).length=s:=by rw [List.length_take,Array.length_toList];lia
 by_cases e1:t<s
 ·rw [if_neg (by lia),List.append_assoc,List.getElem?_append_left (by lia),List.getElem?_take,if_pos e1,qdt]
 ·rw [List.append_assoc,List.getElem?_append_right (by lia),h1];by_cases e2:t<s+r.size
  ·rw [if_pos (by lia),List.getElem?_append_left (by rw [Array.length_toList];lia),qdt]
  ·rw [if_neg (by lia),List.getElem?_append_right (by rw [Array.length_toList];lia),List.getElem?_drop,Array.length_toList,qdt]
   congr 2;lia
theorem qgO{s e:Nat}{r x y a:Array Keyed}{m:Nat}(h1:s≤m)(h2:m≤e)(h3:e≤a.size)(hx:x=a.extract s m)(hy:y=a.extract m e)(hr:r.toList.Perm (x.toList++y.toList)):r.size=e-s∧(putAll s r.toList 0 a).Perm a:=by
 have hl:r.size=e-s:=by
  have:=hr.length_eq;rw [List.length_append,Array.length_toList,Array.length_toList,Array.length_toList,hx,hy,Array.size_extract,Array.size_extract]at this;lia
 refine⟨hl,Array.perm_iff_toList_perm.mpr ?_⟩;rw [qcw s _ _ _ (by rw [Array.length_toList];lia),Nat.add_zero,Array.length_toList,hl];have hxy:x.toList++y.toList=(a.toList.drop s).take (e-s):=by
  rw [hx,hy,zC,zC,show e-s=(m-s)+(e-m)by lia,List.take_add,List.drop_drop,show s+(m-s)=m by lia]
 have e0:a.toList=a.toList.take s++(a.toList.drop s).take (e-s)++a.toList.drop (s+(e-s)):=by
  rw [List.append_assoc,←List.drop_drop,List.take_append_drop,List.take_append_drop]
 conv=>rhs;rw [e0]
 rw [hxy]at hr;exact(hr.append_left _).append_right _
section
variable{prog:Program}{w:World}{A:Around}{E:Value→Shared→Prop}{s:Shared}{κ:SortKind}{D:Keyed→Prop}{LT:Keyed→Keyed→Bool}{R:Keyed→Int}
theorem qkI{a r x y:Array Keyed}{sa s' sb e' en:Nat}(h1:sa≤s')(h2:s'<sb)(h3:sb≤e')(h4:e'≤en)(h5:en≤a.size)
  (SX:∀i j,sa≤i→i≤j→j<sb→Kr R a i≤Kr R a j) (SY:∀i j,sb≤i→i≤j→j<en→Kr R a i≤Kr R a j)
  (F1:∀i,sa≤i→i<s'→Kr R a i≤Kr R a sb) (hbn:sb<en) (F2:∀i,e'≤i→i<en→Kr R a (sb-1)≤Kr R a i)
  (hx:x=a.extract s' sb) (hy:y=a.extract sb e') (hr:r.toList.Perm (x.toList++y.toList)) (hs:∀i j,i≤j→j<r.size→Kr R r i≤Kr R r j) :
  ∀i j,sa≤i→i≤j→j<en→Kr R (putAll s' r.toList 0 a) i≤Kr R (putAll s' r.toList 0 a) j:=by
 have hp:=qgO (by lia) h3 (by lia) hx hy hr;have mid:∀v,v<r.size→∃z,s'≤z∧z<e'∧at' r v=at' a z:=fun v hv=>by
  have:=hr.mem_iff.mp (qdX hv);rw [List.mem_append,hx,hy]at this;rcases this with q|q
  ·obtain⟨z,z1,z2,z3,z4⟩:=qS q;exact⟨z,z1,by lia,z4⟩
  ·obtain⟨z,z1,z2,z3,z4⟩:=qS q;exact⟨z,by lia,z2,z4⟩
 intro i j hi hij hj;unfold Kr;rw [qgN (by lia),qgN (by lia)];by_cases ci:s'≤i∧i<s'+r.size
 ·rw [if_pos ci];by_cases cj:s'≤j∧j<s'+r.size
  ·rw [if_pos cj];exact hs _ _ (by lia) (by lia)
  ·rw [if_neg cj];obtain⟨z,z1,z2,z3⟩:=mid (i-s') (by lia);rw [z3];by_cases hz:z<sb
   ·exact Int.le_trans (SX z (sb-1) (by lia) (by lia) (by lia)) (F2 j (by lia) hj)
   ·exact SY z j (by lia) (by lia) hj
 ·rw [if_neg ci];by_cases cj:s'≤j∧j<s'+r.size
  ·rw [if_pos cj];obtain⟨z,z1,z2,z3⟩:=mid (j-s') (by lia);rw [z3];by_cases hz:z<sb
   ·exact SX i z hi (by lia) hz
   ·exact Int.le_trans (F1 i hi (by lia)) (SY sb z (by lia) (by lia) (by lia))
  ·rw [if_neg cj];by_cases c1:i<s'
   ·by_cases c2:j<s'
    ·exact SX i j hi hij (by lia)
    ·exact Int.le_trans (F1 i hi c1) (SY sb j (by lia) (by lia) hj)
   ·exact SY i j (by lia) hij hj
end
theorem qot{σ:Type}{M:Model}{A:Around}{E:Value→Shared→Prop}{s:Shared}{x:σ}{Q:PUnit→σ→Prop}{st:σ}(h:Q ⟨⟩ x):wpS M A E s (set x:StateT σ Sem PUnit) Q st:=by
 unfold wpS;exact wpAny_pure ⟨rfl,h⟩
section
variable{prog:Program}{w:World}{A:Around}{E:Value→Shared→Prop}{s:Shared}{κ:SortKind}{D:Keyed→Prop}{LT:Keyed→Keyed→Bool}{R:Keyed→Int}
noncomputable def qaH(p:Array (Nat×Nat×Nat))(i sa na nb pw:Nat):Array (Nat×Nat×Nat):=(p.setIfInBounds i (sa,na+nb,pw)).eraseIdxIfInBounds (i+1)
theorem qgQ(C:Cmp prog w A s κ D LT)(K:Rk D LT R){st:SortSt}{i sa na pw sb nb pw2:Nat}{Q:Bool→SortSt→Prop}(hk:kindOf st=κ)(hf:failedOf st=none)(Da:∀x∈(arrOf st).toList,D x)
  (h1:(pendingOf st)[i]? = some (sa,na,pw)) (h2:(pendingOf st)[i+1]? = some (sb,nb,pw2)) (hsb:sb=sa+na) (hna:1≤na) (hnb:1≤nb) (hen:sb+nb≤(arrOf st).size)
  (SX:Seg R (arrOf st) sa na) (SY:Seg R (arrOf st) sb nb)
  (h:∀st',kindOf st'=κ→failedOf st'=none→pendingOf st'=qaH (pendingOf st) i sa na nb pw→(arrOf st').Perm (arrOf st)→(∀j,(j<sa∨sb+nb≤j)→at' (arrOf st') j=at' (arrOf st) j)→Seg R (arrOf st') sa (na+nb)→Q true st') :
  wpS (model prog w) A E s (mergeAt' i) Q st:=by
 have dm:∀j,j<(arrOf st).size→D (at' (arrOf st) j):=fun j hj=>Da _ (qdX hj)
 have rk:∀x y,x<(arrOf st).size→y<(arrOf st).size→LT (at' (arrOf st) x) (at' (arrOf st) y)=decide (Kr R (arrOf st) x<Kr R (arrOf st) y):=fun x y hx hy=>K.rk _ _ (dm x hx) (dm y hy)
 have SX':∀i j,sa≤i→i≤j→j<sb→Kr R (arrOf st) i≤Kr R (arrOf st) j:=fun i j a b c=>by
  have:=SX (i-sa) (j-sa) (by lia) (by lia)
  rwa [show sa+(i-sa)=i by lia,show sa+(j-sa)=j by lia]at this
 have SY':∀i j,sb≤i→i≤j→j<sb+nb→Kr R (arrOf st) i≤Kr R (arrOf st) j:=fun i j a b c=>by
  have:=SY (i-sb) (j-sb) (by lia) (by lia)
  rwa [show sb+(i-sb)=i by lia,show sb+(j-sb)=j by lia]at this
 have W:=C.wo;unfold mergeAt';refine wpS_bind (wpS_get ?_);rw [h1,h2];dsimp only;refine wpS_bind (qot ?_);refine wpS_bind (zh (ql (show sb<(arrOf st).size by lia)) ?_);refine wpS_bind (qap C (by exact hk) (dm sb (by lia)) (fun j=>at' (arrOf st) (sa+j)) (fun j hj=>⟨ql (show sa+j<(arrOf st).size by lia),dm _ (by lia)⟩) (by lia) ?_ ?_)
 ·intro i j hij hj hb;unfold bey at hb ⊢;simp only [Bool.false_eq_true,if_false]at hb ⊢;rw [rk _ _ (by lia) (by lia)]at hb ⊢;have:=SX' (sa+i) (sa+j) (by lia) (by lia) (by lia);simp only [Bool.not_eq_true',decide_eq_false_iff_not]at hb ⊢;lia
 intro k hk1 hk2 hk3;dsimp only;have F1:∀j,sa≤j→j<sa+k→Kr R (arrOf st) j≤Kr R (arrOf st) sb:=fun j a b=>by
  have:=hk2 (j-sa) (by lia);unfold bey at this;simp only [Bool.false_eq_true,if_false]at this;rw [show sa+(j-sa)=j by lia,rk _ _ (by lia) (by lia)]at this;simp only [Bool.not_eq_true',decide_eq_false_iff_not]at this;lia
 have F1':∀j,sa+k≤j→j<sb→Kr R (arrOf st) sb<Kr R (arrOf st) j:=fun j a b=>by
  have:=hk3 (j-sa) (by lia) (by lia);unfold bey at this;simp only [Bool.false_eq_true,if_false]at this;rw [show sa+(j-sa)=j by lia,rk _ _ (by lia) (by lia)]at this;simp only [Bool.not_eq_false',decide_eq_true_eq]at this;lia
 by_cases e1:(na-k==0)=true
 ·rw [if_pos e1];have e1':na-k=0:=by simpa using e1
  refine wpS_pure (h _ hk hf rfl (Array.Perm.refl _) (fun _ _=>rfl) ?_);intro x y hxy hy;show Kr R (arrOf st) (sa+x)≤Kr R (arrOf st) (sa+y);by_cases c:y<na
  ·exact SX x y hxy c
  ·by_cases c2:x<na
   ·exact Int.le_trans (F1 _ (by lia) (by lia)) (SY' sb _ (by lia) (by lia) (by lia))
   ·exact SY' _ _ (by lia) (by lia) (by lia)
 rw [if_neg e1];have e1':na-k≠0:=by simpa using e1
 rw [show sa+k+(na-k)-1=sb-1 by lia];refine wpS_bind (zh (ql (show sb-1<(arrOf st).size by lia)) ?_);refine wpS_bind (qap C (by exact hk) (dm (sb-1) (by lia)) (fun j=>at' (arrOf st) (sb+j)) (fun j hj=>⟨ql (show sb+j<(arrOf st).size by lia),dm _ (by lia)⟩) (by lia) ?_ ?_)
 ·intro i j hij hj hb;unfold bey at hb ⊢;simp only [if_true]at hb ⊢;rw [rk _ _ (by lia) (by lia)]at hb ⊢;have:=SY' (sb+i) (sb+j) (by lia) (by lia) (by lia);simp only [decide_eq_true_eq]at hb ⊢;lia
 intro m hm1 hm2 hm3;dsimp only;have F2:∀j,sb≤j→j<sb+m→Kr R (arrOf st) j<Kr R (arrOf st) (sb-1):=fun j a b=>by
  have:=hm2 (j-sb) (by lia);unfold bey at this;simp only [if_true]at this;rw [show sb+(j-sb)=j by lia,rk _ _ (by lia) (by lia)]at this
  simpa using this
 have F2':∀j,sb+m≤j→j<sb+nb→Kr R (arrOf st) (sb-1)≤Kr R (arrOf st) j:=fun j a b=>by
  have:=hm3 (j-sb) (by lia) (by lia);unfold bey at this;simp only [if_true]at this;rw [show sb+(j-sb)=j by lia,rk _ _ (by lia) (by lia)]at this;simp only [decide_eq_false_iff_not]at this;lia
 by_cases e2:(m==0)=true
 ·exfalso;have e2':m=0:=by simpa using e2
  have a1:=F1' (sb-1) (by lia) (by lia);have a2:=F2' sb (by lia) (by lia);lia
 rw [if_neg e2];have e2':m≠0:=by simpa using e2
 have sx:((arrOf st).extract (sa+k) sb).size=na-k:=by rw [Array.size_extract];lia
 have sy:((arrOf st).extract sb (sb+m)).size=m:=by rw [Array.size_extract];lia
 have ax:∀j,j<na-k→at' ((arrOf st).extract (sa+k) sb) j=at' (arrOf st) (sa+k+j):=fun j hj=>qkh (by lia) (by lia)
 have ay:∀j,j<m→at' ((arrOf st).extract sb (sb+m)) j=at' (arrOf st) (sb+j):=fun j hj=>qkh (by lia) (by lia)
 have srt:∀(z:Array Keyed) (o:Nat),(∀j,j<z.size→o+j<(arrOf st).size∧at' z j=at' (arrOf st) (o+j))→(∀i j,i≤j→j<z.size→Kr R (arrOf st) (o+i)≤Kr R (arrOf st) (o+j))→Srt LT z.toList:=fun z o hz hs=>by
  unfold Srt;rw [List.pairwise_iff_getElem];intro i j hi hj hij;rw [Array.length_toList]at hi hj;have b1:=ql hi;have b2:=ql hj;rw [Array.getElem?_eq_getElem hi]at b1;rw [Array.getElem?_eq_getElem hj]at b2;injection b1 with b1
  injection b2 with b2
  rw [Array.getElem_toList,Array.getElem_toList,b1,b2,(hz i hi).2,(hz j hj).2,rk _ _ (hz j hj).1 (hz i hi).1];have:=hs i j (by lia) hj;simp only [decide_eq_false_iff_not];lia
 have Sx:Srt LT ((arrOf st).extract (sa+k) sb).toList:=srt _ (sa+k) (fun j hj=>⟨by lia,ax j (by lia)⟩) (fun i j hij hj=>SX' _ _ (by lia) (by lia) (by lia));have Sy:Srt LT ((arrOf st).extract sb (sb+m)).toList:=srt _ sb (fun j hj=>⟨by lia,ay j (by lia)⟩) (fun i j hij hj=>SY' _ _ (by lia) (by lia) (by lia));have h0:LT (at' ((arrOf st).extract sb (sb+m)) 0) (at' ((arrOf st).extract (sa+k) sb) 0)=true:=by
  rw [ax 0 (by lia),ay 0 (by lia),rk _ _ (by lia) (by lia)];exact decide_eq_true (F1' _ (by lia) (by lia))
 have hl:∀j,j<((arrOf st).extract sb (sb+m)).size→LT (at' ((arrOf st).extract sb (sb+m)) j) (at' ((arrOf st).extract (sa+k) sb) (((arrOf st).extract (sa+k) sb).size-1))=true:=fun j hj=>by
  rw [ax _ (by lia),ay j (by lia),sx,rk _ _ (by lia) (by lia),show sa+k+(na-k-1)=sb-1 by lia];exact decide_eq_true (F2 _ (by lia) (by lia))
 have Dx:∀j,j<((arrOf st).extract (sa+k) sb).size→D (at' ((arrOf st).extract (sa+k) sb) j):=fun j hj=>by
  rw [ax j (by lia)];exact dm _ (by lia)
 have Dy:∀j,j<((arrOf st).extract sb (sb+m)).size→D (at' ((arrOf st).extract sb (sb+m)) j):=fun j hj=>by
  rw [ay j (by lia)];exact dm _ (by lia)
 have fin:∀r g,Mg LT ((arrOf st).extract (sa+k) sb) ((arrOf st).extract sb (sb+m)) r→wpS (model prog w) A E s (do
   modify fun s=>setArr s (putAll (sa+k) r.toList 0 (arrOf s))
   return (failedOf (←get)).isNone) Q (setG (setPending st (qaH (pendingOf st) i sa na nb pw)) g):=fun r g M=>by
  refine wpS_bind (wpS_modify ?_);refine wpS_bind (wpS_get ?_);refine wpS_pure ?_;have hp:=qgO (by lia) (by lia) (by lia) rfl rfl M.1;have e3:(failedOf (setArr (setG (setPending st (qaH (pendingOf st) i sa na nb pw)) g) (putAll (sa+k) r.toList 0 (arrOf st)))).isNone=true:=by
   show (failedOf st).isNone=true;rw [hf];rfl
  show Q (failedOf (setArr (setG (setPending st (qaH (pendingOf st) i sa na nb pw)) g) (putAll (sa+k) r.toList 0 (arrOf st)))).isNone _;rw [e3];refine h _ hk hf rfl hp.2 (fun j hj=>?_) ?_
  ·show at' (putAll (sa+k) r.toList 0 (arrOf st)) j=_;rw [qgN (by lia),if_neg (by lia)]
  ·have dr:∀j,j<r.size→D (at' r j):=fun j hj=>by
    have:=M.1.mem_iff.mp (qdX hj);rw [List.mem_append]at this;rcases this with q|q
    ·obtain⟨z,z1,z2,z3,z4⟩:=qS q;rw [z4];exact dm z z3
    ·obtain⟨z,z1,z2,z3,z4⟩:=qS q;rw [z4];exact dm z z3
   have:=qkI (R:=R) (a:=arrOf st) (sa:=sa) (s':=sa+k) (sb:=sb) (e':=sb+m) (en:=sb+nb) (by lia) (by lia) (by lia) (by lia) hen SX' SY' F1 (by lia) F2' rfl rfl M.1 (fun x y hxy hy=>by
    have:=zM W M.2 hxy hy;rw [K.rk _ _ (dr _ hy) (dr _ (by lia))]at this;simp only [decide_eq_false_iff_not]at this;unfold Kr;lia)
   intro x y hxy hy;exact this _ _ (by lia) (by lia) (by lia)
 by_cases e4:na-k≤m
 ·rw [if_pos e4];exact wpS_bind (qgD C (by exact hk) Dx Dy Sx Sy (show 0<((arrOf st).extract (sa+k) sb).size by lia) (show 0<((arrOf st).extract sb (sb+m)).size by lia) h0 hl fin)
 ·rw [if_neg e4];exact wpS_bind (qho C (by exact hk) Dx Dy Sx Sy (show 0<((arrOf st).extract (sa+k) sb).size by lia) (show 0<((arrOf st).extract sb (sb+m)).size by lia) h0 hl fin)
end
noncomputable def pr(x:Nat×Nat×Nat):Nat×Nat:=(x.1,x.2.1)
noncomputable def Runs(R:Keyed→Int)(a:Array Keyed):Nat→List (Nat×Nat)→Nat→Prop
 |b,[],e=>b=e
 |b,x::l,e=>x.1=b∧1≤x.2∧Seg R a b x.2∧Runs R a (b+x.2) l e
section
variable{R:Keyed→Int}{a a':Array Keyed}
theorem Runs.le:∀{l:List (Nat×Nat)}{b e:Nat},Runs R a b l e→b+l.length≤e
 | [],b,e,h=>by simp only [List.length_nil];exact Nat.le_of_eq h
 |x::l,b,e,h=>by
  have:=h.2.2.2.le;have:=h.2.1;simp only [List.length_cons];lia
theorem Seg.congr{b n:Nat}(h:Seg R a b n)(hc:∀j,b≤j→j<b+n→at' a' j=at' a j):Seg R a' b n:=fun i j hij hj=>by
 unfold Kr;rw [hc _ (by lia) (by lia),hc _ (by lia) (by lia)];exact h i j hij hj
theorem Runs.congr:∀{l:List (Nat×Nat)}{b e:Nat},Runs R a b l e→(∀j,b≤j→j<e→at' a' j=at' a j)→Runs R a' b l e
 | [],b,e,h,_=>h
 |x::l,b,e,h,hc=>by
  have:=h.2.2.2.le;exact⟨h.1,h.2.1,h.2.2.1.congr fun j h1 h2=>hc j h1 (by lia),h.2.2.2.congr fun j h1 h2=>hc j (by lia) h2⟩
theorem Runs.append:∀{l l':List (Nat×Nat)}{b e:Nat},Runs R a b (l++l') e↔∃m,Runs R a b l m∧Runs R a m l' e
 | [],l',b,e=>⟨fun h=>⟨b,rfl,h⟩,fun⟨m,h1,h2⟩=>by cases h1;exact h2⟩
 |x::l,l',b,e=>by
  constructor
  ·rintro⟨h1,h2,h3,h4⟩;obtain⟨m,h5,h6⟩:=Runs.append.mp h4;exact⟨m,⟨h1,h2,h3,h5⟩,h6⟩
  ·rintro⟨m,⟨h1,h2,h3,h4⟩,h5⟩;exact⟨h1,h2,h3,Runs.append.mpr ⟨m,h4,h5⟩⟩
theorem qqb{α:Type}{l:List α}{i:Nat}{x y:α}(h1:l[i]? = some x)(h2:l[i+1]? = some y):∃u v,l=u++x::y::v∧u.length=i:=by
 obtain⟨hl,e2⟩:=List.getElem?_eq_some_iff.mp h2;obtain⟨hl1,e1⟩:=List.getElem?_eq_some_iff.mp h1;refine⟨l.take i,l.drop (i+2),?_,by rw [List.length_take];lia⟩
 conv=>lhs;rw [←List.take_append_drop i l]
 rw [List.drop_eq_getElem_cons hl1,List.drop_eq_getElem_cons hl,e1,e2]
theorem qei{p:Array (Nat×Nat×Nat)}{u v:List (Nat×Nat×Nat)}{x y:Nat×Nat×Nat}{sa na nb pw:Nat}(h:p.toList=u++x::y::v):(qaH p u.length sa na nb pw).toList=u++(sa,na+nb,pw)::v:=by
 unfold qaH;have hs:p.size=u.length+v.length+2:=by rw [←Array.length_toList,h];simp;lia
 rw [Array.eraseIdxIfInBounds_eq,dif_pos (by rw [Array.size_setIfInBounds];lia),Array.toList_eraseIdx,Array.toList_setIfInBounds,h];rw [List.set_append_right _ _ (Nat.le_refl _),Nat.sub_self];rw [List.eraseIdx_append_of_length_le (by lia)];rw [show u.length+1-u.length=1 by lia]
 rfl
end
structure SR(κ:SortKind)(R:Keyed→Int)(a₁:Array Keyed)(lo:Nat)(st:SortSt):Prop where
 kd:kindOf st=κ
 fl:failedOf st=none
 pm:(arrOf st).Perm a₁
 rn:Runs R (arrOf st) 0 ((pendingOf st).toList.map pr) lo
 le:lo≤a₁.size
section
variable{prog:Program}{w:World}{A:Around}{E:Value→Shared→Prop}{s:Shared}{κ:SortKind}{D:Keyed→Prop}{LT:Keyed→Keyed→Bool}{R:Keyed→Int}{a₁:Array Keyed}{lo:Nat}
theorem SR.sz{st:SortSt}(h:SR κ R a₁ lo st):(arrOf st).size=a₁.size:=h.pm.size_eq
theorem SR.dom{st:SortSt}(h:SR κ R a₁ lo st)(Da:∀x∈a₁.toList,D x):∀x∈(arrOf st).toList,D x:=fun x hx=>Da x ((Array.perm_iff_toList_perm.mp h.pm).mem_iff.mp hx)
theorem SR.merge(C:Cmp prog w A s κ D LT)(K:Rk D LT R)(Da:∀x∈a₁.toList,D x){st:SortSt}{i:Nat}{Q:Bool→SortSt→Prop}(H:SR κ R a₁ lo st)(hi:i+1<(pendingOf st).size)
  (h:∀st',SR κ R a₁ lo st'→(∀j,lo≤j→at' (arrOf st') j=at' (arrOf st) j)→(pendingOf st').size+1=(pendingOf st).size→Q true st') :
  wpS (model prog w) A E s (mergeAt' i) Q st:=by
 obtain⟨⟨sa,na,pw⟩,hx⟩:∃x,(pendingOf st)[i]? = some x:=⟨_,Array.getElem?_eq_getElem (by lia)⟩
 obtain⟨⟨sb,nb,pw2⟩,hy⟩:∃x,(pendingOf st)[i+1]? = some x:=⟨_,Array.getElem?_eq_getElem hi⟩
 obtain⟨u,v,hl,hu⟩:=qqb (l:=(pendingOf st).toList) (by rw [Array.getElem?_toList];exact hx) (by rw [Array.getElem?_toList];exact hy);have rn:=H.rn;rw [hl,List.map_append]at rn;obtain⟨m,r1,r2⟩:=Runs.append.mp rn;obtain⟨q1,q2,q3,q4,q5,q6,q7⟩:=r2;have q1:sa=m:=q1;have q2:1≤na:=q2;have q3:Seg R (arrOf st) m na:=q3;have q4:sb=m+na:=q4;have q5:1≤nb:=q5;have q6:Seg R (arrOf st) (m+na) nb:=q6;have q7:Runs R (arrOf st) (m+na+nb) (v.map pr) lo:=q7;have hle:=q7.le;have hle2:=r1.le;have hlo:=H.le;have hz:=H.sz;subst q1;refine qgQ C K H.kd H.fl (H.dom Da) hx hy q4 q2 q5 (by lia) q3 (by rw [q4];exact q6) fun st' k1 k2 k3 k4 k5 k6=>?_
 have hp:(pendingOf st').toList=u++(sa,na+nb,pw)::v:=by rw [k3,←hu];exact qei hl
 refine h st' ⟨k1,k2,k4.trans H.pm,?_,H.le⟩ (fun j hj=>k5 j (.inr (by lia))) ?_
 ·rw [hp,List.map_append];refine Runs.append.mpr ⟨sa,r1.congr fun j _ hj=>k5 j (.inl hj),rfl,show 1≤na+nb by lia,k6,?_⟩;show Runs R (arrOf st') (sa+(na+nb)) (v.map pr) lo;rw [←Nat.add_assoc];exact q7.congr fun j hj _=>k5 j (.inr (by lia))
 ·rw [←Array.length_toList,hp,←Array.length_toList,hl];simp;lia
end
section
variable{prog:Program}{w:World}{A:Around}{E:Value→Shared→Prop}{s:Shared}{κ:SortKind}{D:Keyed→Prop}{LT:Keyed→Keyed→Bool}{R:Keyed→Int}{a₁:Array Keyed}{lo:Nat}
theorem qfx{p:Array (Nat×Nat×Nat)}{i pw:Nat}:(p.modify i fun x=>(x.1,x.2.1,pw)).toList.map pr=p.toList.map pr:=by
 apply List.ext_getElem?;intro k;rw [List.getElem?_map,List.getElem?_map,Array.getElem?_toList,Array.getElem?_toList,Array.getElem?_modify];split
 ·rename_i e
  subst e;cases p[i]? <;> rfl
 ·rfl
theorem SR.pend{st:SortSt}{p:Array (Nat×Nat×Nat)}(H:SR κ R a₁ lo st)(hp:p.toList.map pr=(pendingOf st).toList.map pr):SR κ R a₁ lo (setPending st p):=
 ⟨H.kd,H.fl,H.pm,by show Runs R (arrOf st) 0 (p.toList.map pr) lo;rw [hp];exact H.rn,H.le⟩
theorem SR.push{st:SortSt}{n:Nat}(H:SR κ R a₁ lo st)(h1:1≤n)(h2:lo+n≤a₁.size)(hs:Seg R (arrOf st) lo n):SR κ R a₁ (lo+n) (setPending st ((pendingOf st).push (lo,n,0))):=
 ⟨H.kd,H.fl,H.pm,by
  show Runs R (arrOf st) 0 (((pendingOf st).push (lo,n,0)).toList.map pr) (lo+n);rw [Array.toList_push,List.map_append];exact Runs.append.mpr ⟨lo,H.rn,rfl,h1,hs,rfl⟩,h2⟩
theorem SR.base{st:SortSt}(H:SR κ R a₁ lo st):SB κ (pendingOf st) (arrOf st) lo st:=⟨H.kd,H.fl,rfl,Array.Perm.refl _,fun _ _=>rfl⟩
theorem SR.back{st st':SortSt}(H:SR κ R a₁ lo st)(B:SB κ (pendingOf st) (arrOf st) lo st'):SR κ R a₁ lo st':=
 ⟨B.kd,B.fl,B.pm.trans H.pm,by rw [B.pn];exact H.rn.congr fun j _ hj=>B.lw j hj,H.le⟩
theorem qfY(C:Cmp prog w A s κ D LT)(K:Rk D LT R)(Da:∀x∈a₁.toList,D x){st:SortSt}{Q:Unit→SortSt→Prop}(hk:kindOf st=κ)(hf:failedOf st=none)(hp:pendingOf st = #[])(ha:arrOf st=a₁)(h2:2≤a₁.size)
  (h:∀st',(arrOf st').Perm a₁→failedOf st'=none→Seg R (arrOf st') 0 a₁.size→Q () st'):wpS (model prog w) A E s sortRuns' Q st:=by
 have H0:SR κ R a₁ 0 st:=⟨hk,hf,by rw [ha],by rw [hp];rfl,by lia⟩
 rw [sortRuns'_eq];refine wpS_bind (wpS_get ?_);dsimp only;rw [ha];generalize minRun' a₁.size a₁.size 0=mr;refine wpS_bind (wpS_mono (wpS_forRange
  (I:=fun x c st'=>∃lo,c=(none,lo)∧SR κ R a₁ lo st'∧x≤lo)
  (Q:=fun c st'=>c=(none,a₁.size)∧SR κ R a₁ a₁.size st') ?step ?fin ⟨0,rfl,H0,Nat.le_refl _⟩) ?post)
 case fin=>
  rintro c st' ⟨lo,rfl,H,hx⟩;have:=H.le;have:lo=a₁.size:=by lia
  subst this;exact⟨rfl,H⟩
 case step=>
  rintro x c st' _ hx ⟨lo,rfl,H,hxl⟩;dsimp only;have hle:=H.le;by_cases e:lo ≥ a₁.size
  ·rw [if_pos e];have:lo=a₁.size:=by lia
   subst this;exact wpS_pure ⟨rfl,H⟩
  rw [if_neg e];have hz:=H.sz;refine wpS_bind (qjz C K (H.dom Da) (by lia) (by lia) H.base fun m st2 B2 m1 m2 S2=>?_);dsimp only;by_cases e3:m<mr
  ·rw [if_pos e3];refine wpS_bind (wpS_lift (wpAny_rule ⟨rfl,?_⟩));by_cases e4:m≤min (a₁.size-lo) mr
   ·refine wpS_bind (qhR C K (H.dom Da) (by lia) e4 B2 S2 fun st3 B3 S3=>?_);simp only [Bool.not_true,Bool.false_eq_true,if_false];have Hn:=H.back B3;refine wpS_bind (wpS_get ?_);cases hb:(pendingOf st3).back? with
    |none=>
     dsimp only;exact wpS_bind (wpS_modify (wpS_pure ⟨_,rfl,Hn.push (by lia) (by lia) S3,by lia⟩))
    |some q=>
     obtain⟨s1,k1,w1⟩:=q;dsimp only;generalize power' _ _ _ _=pw;refine wpS_bind (wpS_mono (wpS_forRange (I:=fun _ c st'=>c=(none,())∧SR κ R a₁ lo st'∧∀j,lo≤j→at' (arrOf st') j=at' (arrOf st3) j)
      (Q:=fun c st'=>c=(none,())∧SR κ R a₁ lo st'∧∀j,lo≤j→at' (arrOf st') j=at' (arrOf st3) j) ?_ (fun _ _ h=>h) ⟨rfl,Hn,fun _ _=>rfl⟩) ?_)
     ·rintro y c st8 _ _ ⟨rfl,H8,c8⟩;refine wpS_bind (wpS_get ?_);by_cases e1:(pendingOf st8).size>1
      ·rw [if_pos e1];obtain⟨⟨u1,u2,older⟩,hy⟩:∃x,(pendingOf st8)[(pendingOf st8).size-2]? = some x:=⟨_,Array.getElem?_eq_getElem (by lia)⟩
       rw [hy];dsimp only;by_cases e2:older≤pw
       ·rw [if_pos e2];exact wpS_pure ⟨rfl,H8,c8⟩
       ·rw [if_neg e2];refine wpS_bind (H8.merge C K Da (by lia) fun st9 H9 c9 _=>?_);exact wpS_pure ⟨rfl,H9,fun j hj=>(c9 j hj).trans (c8 j hj)⟩
      ·rw [if_neg e1];exact wpS_pure ⟨rfl,H8,c8⟩
     ·rintro c st8 ⟨rfl,H8,c8⟩;dsimp only;refine wpS_bind (wpS_modify ?_);exact wpS_bind (wpS_modify (wpS_pure ⟨_,rfl,(H8.pend qfx).push (by lia) (by lia) (S3.congr fun j hj _=>c8 j hj),by lia⟩))
   ·exfalso;lia
  ·rw [if_neg e3];have Hn:=H.back B2;refine wpS_bind (wpS_get ?_);cases hb:(pendingOf st2).back? with
   |none=>
    dsimp only;exact wpS_bind (wpS_modify (wpS_pure ⟨_,rfl,Hn.push (m1) (by lia) S2,by lia⟩))
   |some q=>
    obtain⟨s1,k1,w1⟩:=q;dsimp only;generalize power' _ _ _ _=pw;refine wpS_bind (wpS_mono (wpS_forRange (I:=fun _ c st'=>c=(none,())∧SR κ R a₁ lo st'∧∀j,lo≤j→at' (arrOf st') j=at' (arrOf st2) j)
     (Q:=fun c st'=>c=(none,())∧SR κ R a₁ lo st'∧∀j,lo≤j→at' (arrOf st') j=at' (arrOf st2) j) ?_ (fun _ _ h=>h) ⟨rfl,Hn,fun _ _=>rfl⟩) ?_)
    ·rintro y c st8 _ _ ⟨rfl,H8,c8⟩;refine wpS_bind (wpS_get ?_);by_cases e1:(pendingOf st8).size>1
     ·rw [if_pos e1];obtain⟨⟨u1,u2,older⟩,hy⟩:∃x,(pendingOf st8)[(pendingOf st8).size-2]? = some x:=⟨_,Array.getElem?_eq_getElem (by lia)⟩
      rw [hy];dsimp only;by_cases e2:older≤pw
      ·rw [if_pos e2];exact wpS_pure ⟨rfl,H8,c8⟩
      ·rw [if_neg e2];refine wpS_bind (H8.merge C K Da (by lia) fun st9 H9 c9 _=>?_);exact wpS_pure ⟨rfl,H9,fun j hj=>(c9 j hj).trans (c8 j hj)⟩
     ·rw [if_neg e1];exact wpS_pure ⟨rfl,H8,c8⟩
    ·rintro c st8 ⟨rfl,H8,c8⟩;dsimp only;refine wpS_bind (wpS_modify ?_);exact wpS_bind (wpS_modify (wpS_pure ⟨_,rfl,(H8.pend qfx).push (m1) (by lia) (S2.congr fun j hj _=>c8 j hj),by lia⟩))
 case post=>
  rintro c st' ⟨rfl,H⟩;dsimp only;have hl:=H.rn.le;rw [List.length_map,Array.length_toList]at hl;refine wpS_bind (wpS_mono (wpS_forRange (I:=fun x c st''=>c=(none,())∧SR κ R a₁ a₁.size st''∧((pendingOf st'').size≤1∨(pendingOf st'').size+x≤a₁.size))
   (Q:=fun c st''=>c=(none,())∧SR κ R a₁ a₁.size st''∧(pendingOf st'').size≤1) ?_ ?_ ⟨rfl,H,.inr (by lia)⟩) ?_)
  ·rintro x c st3 _ hx ⟨rfl,H3,c3⟩;refine wpS_bind (wpS_get ?_);by_cases e1:(pendingOf st3).size≤1
   ·rw [if_pos e1];exact wpS_pure ⟨rfl,H3,e1⟩
   rw [if_neg e1];refine wpS_bind (H3.merge C K Da ?_ fun st4 H4 c4 z4=>?_)
   ·(repeat' split)<;>lia
   ·exact wpS_pure ⟨rfl,H4,by lia⟩
  ·rintro c st3 ⟨rfl,H3,c3⟩;exact⟨rfl,H3,by lia⟩
  ·rintro c st3 ⟨rfl,H3,c3⟩;refine wpS_pure (h st3 H3.pm H3.fl ?_);have rn:=H3.rn;generalize hq:(pendingOf st3).toList.map pr=q at rn;have hql:q.length≤1:=by rw [←hq,List.length_map,Array.length_toList];exact c3
   match q,rn,hql with
   | [],rn,_=>exact absurd rn (by show ¬ (0=a₁.size);lia)
   | [x],rn,_=>
    obtain⟨_,_,r3,r4⟩:=rn;have r4:0+x.2=a₁.size:=r4;rw [←r4,Nat.zero_add];exact r3
end
theorem qfC{α:Type}{p q:α→Bool}{a:α}:∀{l:List α},(∀x∈l,p x=true→q x=true)→a∈l→p a=false→q a=true→l.countP p<l.countP q
 | [],_,h,_,_=>nomatch h
 |x::l,hi,h,h1,h2=>by
  rw [List.countP_cons,List.countP_cons];have le:=List.countP_mono_left (l:=l) (p:=p) (q:=q) fun y hy=>hi y (List.mem_cons_of_mem _ hy)
  rcases List.mem_cons.mp h with e|h
  ·subst e;rw [h1,h2];simp only [Bool.false_eq_true,if_false,if_true];lia
  ·have:=qfC (fun y hy=>hi y (List.mem_cons_of_mem _ hy)) h h1 h2;have:=hi x List.mem_cons_self;cases e:p x with
   |true=>rw [this e];simp only [if_true];lia
   |false=>simp only [Bool.false_eq_true,if_false];split<;>lia
noncomputable def qer(LT:Keyed→Keyed→Bool)(l:List Keyed)(x:Keyed):Int:=(l.countP fun z=>LT z x:Nat)
theorem Wo.rank{LT:Keyed→Keyed→Bool}(W:Wo LT)(l:List Keyed):Rk (·∈l) LT (qer LT l):=⟨fun x y hx hy=>by
 unfold qer;cases e:LT x y with
 |true=>
  have:=qfC (p:=fun z=>LT z x) (q:=fun z=>LT z y) (a:=x) (fun z _ q=>W.lt_le (x:=z) (y:=x) (z:=y) q (W.asym x y e)) hx (W.irr x) e;exact(decide_eq_true (by lia)).symm
 |false=>
  have:=List.countP_mono_left (l:=l) (p:=fun z=>LT z y) (q:=fun z=>LT z x) fun z _ q=>W.lt_le (x:=z) (y:=y) (z:=x) q e
  exact(decide_eq_false (by lia)).symm⟩
noncomputable def ltL:List Int→List Int→Bool
 | [],[]=>false
 | [],_::_=>true
 |_::_,[]=>false
 |a::x,b::y=>if a=b then ltL x y else decide (a<b)
theorem qcc:∀{x y:List Int},ltL x y=true→ltL y x=false
 | [],[],h=>nomatch h
 | [],_::_,_=>rfl
 |_::_,[],h=>nomatch h
 |a::x,b::y,h=>by
  unfold ltL at h ⊢;by_cases e:a=b
  ·rw [if_pos e]at h;rw [if_pos e.symm];exact qcc h
  ·rw [if_neg e]at h;have:=of_decide_eq_true h;rw [if_neg (fun z=>e z.symm)];exact decide_eq_false (by lia)
theorem qcG:∀{x y z:List Int},ltL y x=false→ltL z y=false→ltL z x=false
 | [],_,[],_,_=>rfl
 |_::_,[],[],h,_=>nomatch h
 |_::_,_::_,[],_,h=>nomatch h
 | [],_,_::_,_,_=>rfl
 |_::_,[],_::_,h,_=>nomatch h
 |a::x,b::y,c::z,h1,h2=>by
  unfold ltL at h1 h2 ⊢;by_cases e1:b=a
  ·rw [if_pos e1]at h1;by_cases e2:c=b
   ·rw [if_pos e2]at h2;rw [if_pos (e2.trans e1)];exact qcG h1 h2
   ·rw [if_neg e2]at h2;have:=of_decide_eq_false h2;rw [if_neg (fun q=>e2 (q.trans e1.symm))];exact decide_eq_false (by lia)
  ·rw [if_neg e1]at h1;have q1:=of_decide_eq_false h1;by_cases e2:c=b
   ·rw [if_neg (fun q=>e1 (e2.symm.trans q))];exact decide_eq_false (by lia)
   ·rw [if_neg e2]at h2;have q2:=of_decide_eq_false h2;rw [if_neg (by lia)];exact decide_eq_false (by lia)
theorem qrF(f:Keyed→List Int):Wo fun x y=>ltL (f x) (f y):=⟨fun _ _ h=>qcc h,fun _ _ _ h1 h2=>qcG h1 h2⟩
theorem qkE:∀{x y:List Int},ltL x y=false→ltL y x=false→x=y
 | [],[],_,_=>rfl
 | [],_::_,h,_=>nomatch h
 |_::_,[],_,h=>nomatch h
 |a::x,b::y,h1,h2=>by
  unfold ltL at h1 h2;by_cases e:a=b
  ·rw [if_pos e]at h1;rw [if_pos e.symm]at h2;rw [e,qkE h1 h2]
  ·rw [if_neg e]at h1;rw [if_neg (fun z=>e z.symm)]at h2;have:=of_decide_eq_false h1;have:=of_decide_eq_false h2;lia
theorem qie:∀x y:List Int,ltL x y=HT.lexLt x y
 | [],[]=>(HT.qcX).symm
 | [],_::_=>(HT.qcF ..).symm
 |_::_,[]=>(HT.qcE ..).symm
 |a::x,b::y=>by
  rw [HT.qdY,←qie x y]
  rfl
section
variable{prog:Program}{w:World}{A:Around}{E:Value→Shared→Prop}{s:Shared}
theorem qlj{l b:Addr}{items items2:Array Value}{ns ms:List Int}{Q:Bool→Shared→Prop}(hl:IsTup s.heap l items)(hb:IsTup s.heap b items2)(hi:IntsAre items.toList ns)(hj:IntsAre items2.toList ms)
  (hu:A.units<cLine) (h:Q (ltL ns ms) s):wpAny (model prog w) A (oneLt' true (.ref l) (.ref b)) Q E s:=by
 obtain⟨⟨c1,d1,a1,s1⟩,ho,hc,n,hd⟩:=id hl;obtain⟨⟨c2,d2,a2,s2⟩,ho2,hc2,n2,hd2⟩:=id hb;simp only at hc hd hc2 hd2;subst hc hd hc2 hd2;rw [qie]at h;rw [oneLt'_eq];simp only [if_true];refine wpAny_bind (wpAny_cRoomFor hu ?_);refine wpAny_bind (wpAny_callSpecialIfBound?_slot ⟨_,ho,rfl⟩ PySem.F.slot_tuple_lt (call_meets PySem.F.slot_tuple_lt ⟨_,ho,rfl⟩ PySem.F.entry_tuple_lt (PySem.F.args_tuple_lt_2 _ _) (HT.qcY l b items items2 n n2 d1 d2 s1 s2 ns ms hi hj) ⟨ho,ho2,?_⟩));exact wpAny_truthy_bool h
end
end TS
namespace TS
open PySem PySem.W PyProof.Rows
noncomputable def TupAt(h:Heap)(v:Value)(ns:List Int):Prop:=∃a o items n,v=.ref a∧h.get? a=some o∧o.cls=.type "tuple"∧o.data=.seq items n∧IntsAre items.toList ns
inductive qar(h:Heap):List Value→List (List Int)→Prop
 |nil:qar h [] []
 |cons {v:Value}{vs:List Value}{k:List Int}{ks:List (List Int)}:TupAt h v k→qar h vs ks→qar h (v::vs) (k::ks)
theorem qar.mem{h:Heap}{vs:List Value}{ks:List (List Int)}(t:qar h vs ks):∀v∈vs,∃k,TupAt h v k:=by
 induction t with
 |nil=>intro v hv;cases hv
 |cons a t ih=>
  intro v hv;rcases List.mem_cons.mp hv with e|hv
  ·subst e;exact⟨_,a⟩
  ·exact ih v hv
section
variable{M:Model}{A:Around}{E:Value→Shared→Prop}{s:Shared}
theorem qfv{h:Heap}{v:Value}{k:List Int}(t:TupAt h v k):Looks M h (typeOf v) (.type "tuple"):=by
 obtain⟨a,o,items,n,rfl,ho,hc,_⟩:=t;have:Looks M h (typeOf (.ref a)) o.cls:=(Looks.ld ho).andThen .now
 rwa [hc]at this
theorem qjI{vs:List Value}{ks:List (List Int)}(t:qar s.heap vs ks):∀{Q:List (Option Value)→Shared→Prop},(∀os:List (Option Value),os.map Option.isSome=ks.map (fun k=>!k.isEmpty)→Q os s)→wpAny M A (vs.mapM firstOfTuple') Q E s:=by
 induction t with
 |nil=>intro Q h;rw [List.mapM_nil];exact wpAny_pure (h [] rfl)
 | @cons v vs k ks a t ih=>
  intro Q h;rw [List.mapM_cons];refine wpAny_bind ?_;rw [kas_first_eq];refine wpAny_bind ((qfv a).here ?_);rw [if_neg (by first|decide|simp)];obtain⟨b,o,items,n,rfl,ho,hc,hd,hi⟩:=a;refine wpAny_bind (listItems_at ho hd (wpAny_pure (wpAny_bind (ih fun os e=>wpAny_pure (h _ ?_)))));rw [List.map_cons,e,List.map_cons]
  congr 1
  obtain⟨l⟩:=items;cases hi with
  |nil=>rfl
  |cons _ _ _=>rfl
theorem qlV{vs:List Value}{ks:List (List Int)}{Q:SortKind→Shared→Prop}(t:qar s.heap vs ([]::ks))(h:Q oneType' s):wpAny M A (keyKind' vs.toArray) Q E s:=by
 rw [keyKind'_eq,List.mapM_toArray,map_eq_pure_bind];refine wpAny_bind (wpAny_bind (qjI t fun os e=>wpAny_pure ?_));obtain⟨o,os',rfl,eo⟩:∃o os',os=o::os'∧o.isSome=false:=by
  cases os with
  |nil=>cases e
  |cons o os'=>rw [List.map_cons,List.map_cons]at e;exact⟨o,os',rfl,(List.cons.inj e).1⟩
 obtain rfl:o=none:=by cases o with
  |none=>rfl
  |some _=>cases eo
 rw [if_neg (by simp),if_neg (by simp),oneTypeOnly'_eq,List.mapM_toArray,map_eq_pure_bind];refine wpAny_bind (wpAny_bind (wpAny_bind (kas_mapM (r:=Value.type "tuple") _ (fun v hv Q' hq=>by obtain⟨k,a⟩:=t.mem v hv;exact(qfv a).here hq) (wpAny_pure ?_))));have e0:(List.map (fun _=>Value.type "tuple") vs).toArray[0]? = some (Value.type "tuple"):=by
  cases t with
  |cons a t=>simp
 have e1:((List.map (fun _=>Value.type "tuple") vs).toArray.all fun x=>x==Value.type "tuple")=true:=by
  simp only [List.all_toArray,List.all_map,List.all_eq_true];intro _ _
  rfl
 rw [e0];simp only [e1,if_true];exact wpAny_pure (wpAny_pure h)
end
section
variable{M:Model}{A:Around}{E:Value→Shared→Prop}{s:Shared}
theorem qar.firsts{h:Heap}{vs:List Value}{ks:List (List Int)}(t:qar h vs ks)(hne:∀k∈ks,k≠[]):∃fs,KatTups h vs fs∧fs.length=vs.length∧∀v∈fs,∃i t,v=Value.int i t:=by
 induction t with
 |nil=>exact⟨[],trivial,rfl,fun _ h=>nomatch h⟩
 | @cons v vs k ks a t ih=>
  obtain⟨fs,k1,k2,k3⟩:=ih fun k hk=>hne k (List.mem_cons_of_mem _ hk)
  obtain⟨b,o,items,n,rfl,ho,hc,hd,hi⟩:=a;obtain⟨l⟩:=items;cases hi with
  |nil=>exact absurd rfl (hne [] List.mem_cons_self)
  |cons i t _=>exact⟨.int i t::fs,KatTups.cons ho hc hd rfl k1,by simp [k2],fun w hw=>(List.mem_cons.mp hw).elim (fun z=>⟨i,t,z⟩) (k3 w)⟩
theorem kind_all{vs:List Value}{ks:List (List Int)}{Q:SortKind→Shared→Prop}(t:qar s.heap vs ks)(h1:0<vs.length)(hne:∀k∈ks,k≠[])(h:Q (tuples' true) s):wpAny M A (keyKind' vs.toArray) Q E s:=by
 obtain⟨fs,k1,k2,k3⟩:=t.firsts hne;refine kat_kind (T:=.type "int") (fs:=fs) k1 (by lia) (fun v hv=>?_) (by decide) ?_
 ·obtain⟨i,t,rfl⟩:=k3 v hv;exact Looks.of_pure rfl
 ·have hb:((Value.type "int") != Value.type "tuple")=true:=by decide
  rw [hb];exact h
theorem qgt{prog:Program}{w:World}{Q:Bool→Shared→Prop}{fin:Bool}:∀{xs ys:List Value}{ns ms:List Int} (i:Nat),IntsAre xs ns→IntsAre ys ms→fin=decide (xs.length<ys.length)→Q (ltL ns ms) s→KatLex prog w A true fin Q (xs.zip ys) i s
 |_,_,_,_,i,.nil,.nil,hf,h=>kat_nil (by rw [hf];exact h)
 |_,_,_,_,i,.nil,.cons _ _ _,hf,h=>kat_nil (by rw [hf];exact h)
 |_,_,_,_,i,.cons _ _ _,.nil,hf,h=>kat_nil (by rw [hf];exact h)
 |_,_,_,_,i,.cons (vs:=xs) (ns:=ns) a t hx,.cons (vs:=ys) (ns:=ms) b u hy,hf,h=>by
  rw [List.zip_cons_cons];refine kat_cons (SeqAt.EqAt.int_int _ _ _ _ prog w _ _ ?_);unfold ltL at h;by_cases hc:a=b
  ·rw [if_pos hc]at h;rw [show (a==b)=true by simp [hc]];exact kat_yes (qgt (i+1) hx hy (by rw [hf];simp) h)
  ·rw [if_neg hc]at h;rw [show (a==b)=false by simp [hc]];refine kat_no ?_;cases i with
   |zero=>exact oneLt_int h
   |succ i=>exact kat_one _ _ (lt_int h)
end
noncomputable def zV(h:Heap)(x:Keyed):List Int:=open Classical in if z:∃k,TupAt h x.1 k then z.choose else []
theorem TupAt.keep{h h':Heap}(k:∀b o,h.get? b=some o→h'.get? b=some o){v:Value}{ns:List Int}(t:TupAt h v ns):TupAt h' v ns:=by
 obtain⟨a,o,its,n,e1,e2,e3⟩:=t;exact⟨a,o,its,n,e1,k _ _ e2,e3⟩
theorem qar.keep{h h':Heap}(k:∀b o,h.get? b=some o→h'.get? b=some o){vs:List Value}{ks:List (List Int)}(t:qar h vs ks):qar h' vs ks:=by
 induction t with
 |nil=>exact .nil
 |cons a _ ih=>exact .cons (a.keep k) ih
theorem qbR{h:Heap}{x:Keyed}(z:∃k,TupAt h x.1 k):TupAt h x.1 (zV h x):=by
 unfold zV;rw [dif_pos z];exact z.choose_spec
theorem qoi{prog:Program}{w:World}{A:Around}{s:Shared}{h0:Heap}{l:List Keyed}(hk:∀b o,h0.get? b=some o→s.heap.get? b=some o)(hl:∀x∈l,∃k,TupAt h0 x.1 k)(hu:A.units<cLine):Cmp prog w A s oneType' (·∈l) (fun x y=>ltL (zV h0 x) (zV h0 y)):=
 ⟨fun x y hx hy Q h=>by
  obtain⟨a,o,its,n,e1,e2,e3,e4,e5⟩:=(qbR (hl x hx)).keep hk;obtain⟨a',o',its',n',f1,f2,f3,f4,f5⟩:=(qbR (hl y hy)).keep hk;rw [keyLt'_oneType,e1,f1];exact qlj ⟨o,e2,e3,n,e4⟩ ⟨o',f2,f3,n',f4⟩ e5 f5 hu h,
  fun _ _ h=>qcc h,fun _ _ _ h1 h2=>qcG h1 h2⟩
theorem qnf{prog:Program}{w:World}{A:Around}{s:Shared}{h0:Heap}{l:List Keyed}(hk:∀b o,h0.get? b=some o→s.heap.get? b=some o)(hl:∀x∈l,∃k,TupAt h0 x.1 k):Cmp prog w A s (tuples' true) (·∈l) (fun x y=>ltL (zV h0 x) (zV h0 y)):=
 ⟨fun x y hx hy Q h=>by
  obtain⟨a,o,its,n,e1,e2,e3,e4,e5⟩:=(qbR (hl x hx)).keep hk;obtain⟨a',o',its',n',f1,f2,f3,f4,f5⟩:=(qbR (hl y hy)).keep hk;rw [e1,f1];refine kat_lt e2 e4 f2 f4 (qgt 0 e5 f5 ?_ h);rw [Array.length_toList,Array.length_toList],
  fun _ _ h=>qcc h,fun _ _ _ h1 h2=>qcG h1 h2⟩
theorem qgP{h:Heap}:∀(l:List Keyed),(∀x∈l,x.1=x.2∧∃k,TupAt h x.1 k)→qar h (l.map (·.2)) (l.map (zV h))
 | [],_=>.nil
 |x::l,z=>.cons (by have:=z x List.mem_cons_self;show TupAt h x.2 _;rw [←this.1];exact qbR this.2) (qgP l fun y hy=>z y (List.mem_cons_of_mem _ hy))
theorem qqp{LT:Keyed→Keyed→Bool}{R:Keyed→Int}{a:Array Keyed}(S:Seg R a 0 a.size)(K:∀x∈a.toList,∀y∈a.toList,LT x y=decide (R x<R y)):a.toList.Pairwise fun x y=>LT y x=false:=by
 rw [List.pairwise_iff_getElem];intro i j hi hj hij;rw [K _ (List.getElem_mem hj) _ (List.getElem_mem hi)];rw [Array.length_toList]at hi hj;have:=S i j (by lia) hj;unfold Kr at this;have e1:=ql hi;have e2:=ql hj;rw [Array.getElem?_eq_getElem hi]at e1;rw [Array.getElem?_eq_getElem hj]at e2;injection e1 with e1
 injection e2 with e2
 rw [Nat.zero_add,Nat.zero_add,←e1,←e2]at this;rw [Array.getElem_toList,Array.getElem_toList];exact decide_eq_false (by lia)
section
variable{prog:Program}{w:World}{A:Around}{E:Value→Shared→Prop}{s:Shared}
theorem qkY{h0:Heap}{a:Addr}{vs:List Value}{ks:List (List Int)}{P:Fin→Shared→Prop}(hoL:s.heap.get? a=some (seqObj "list" vs.toArray 0))(keep:∀b o,h0.get? b=some o→s.heap.get? b=some o)(hap:∀b o,h0.get? b=some o→b≠a)(h2:2≤vs.length)(hz:vs.length≤sizeLine)(t:qar h0 vs ks)(hed:ks.head? = some []∨∀k∈ks,k≠[])(hu:A.units<cLine)
  (h:∀(out:List Value) (ks':List (List Int)),out.Perm vs→qar h0 out ks'→ks'.Pairwise (fun a b=>ltL b a=false)→P (.done (.ret .none)) {s with heap:=sortedHeap s.heap a vs out.toArray}) :
  wpAny (model prog w) A (Builtin.«list.sort» ⟨[.ref a],[]⟩) P E s:=by
 rw [list_sort_plain];refine wpAny_bind (listItems_at  hoL rfl ?_);refine wpAny_bind (listUpdate_at  hoL rfl ?_ (by rw [List.size_toArray];exact hz) (Nat.zero_le _));obtain⟨e1,ho1⟩:∃e1,(s.heap.update a (Obj.mapSeq fun _=>#[])).get? a=some (seqObj "list" #[] e1):=⟨_,get?_update_seq hoL (fun _=>#[])⟩
 refine wpAny_bind (seqEpoch_at ho1 rfl ?_);refine wpAny_bind (wpAny_newTuple ?_ (by show vs.length≤_;exact hz));refine wpAny_bind (wpAny_newList ?_ (Nat.zero_le _));refine wpAny_holding ?_;have hlt:a<s.heap.objs.size:=Heap.lt_size hoL;have k6:∀b o,h0.get? b=some o→(((s.heap.update a (Obj.mapSeq fun _=>#[])).push (seqObj "tuple" vs.toArray 0)).push (seqObj "list" #[] 0)).get? b=some o:=fun b o q=>
  Heap.get?_push_of_some _ (Heap.get?_push_of_some _ (by rw [Heap.get?_update_ne _ _ _ _ (hap b o q)];exact keep b o q))
 have ho6:(((s.heap.update a (Obj.mapSeq fun _=>#[])).push (seqObj "tuple" vs.toArray 0)).push (seqObj "list" #[] 0)).get? a=some (seqObj "list" #[] e1):=Heap.get?_push_of_some _ (Heap.get?_push_of_some _ ho1);show wpAny (model prog w) _ _ _ _ {s with heap:=((s.heap.update a (Obj.mapSeq fun _=>#[])).push (seqObj "tuple" vs.toArray 0)).push (seqObj "list" #[] 0)};dsimp only;have h2':¬ vs.toArray.size<2:=by rw [List.size_toArray];lia
 rw [if_neg h2',if_neg h2'];have pz:(vs.toArray.zip vs.toArray)=pairsOf vs:=rfl;have hx:∀x∈(pairsOf vs).toList,x.1=x.2∧∃k,TupAt h0 x.1 k:=fun x hx=>by
  rw [pairsOf_toList]at hx;obtain⟨b1,b2⟩:=mem_zip_self hx;exact⟨b1,t.mem _ b2⟩
 obtain⟨κ,kk,C⟩:∃κ,(∀Q:SortKind→Shared→Prop,Q κ {s with heap:=((s.heap.update a (Obj.mapSeq fun _=>#[])).push (seqObj "tuple" vs.toArray 0)).push (seqObj "list" #[] 0)}→wpAny (model prog w) A (keyKind' vs.toArray) Q E {s with heap:=((s.heap.update a (Obj.mapSeq fun _=>#[])).push (seqObj "tuple" vs.toArray 0)).push (seqObj "list" #[] 0)})∧Cmp prog w A {s with heap:=((s.heap.update a (Obj.mapSeq fun _=>#[])).push (seqObj "tuple" vs.toArray 0)).push (seqObj "list" #[] 0)} κ (·∈(pairsOf vs).toList) (fun x y=>ltL (zV h0 x) (zV h0 y)):=by
  rcases hed with hh|hh
  ·refine⟨oneType',fun Q q=>?_,qoi k6 (fun x z=>(hx x z).2) hu⟩;cases ks with
   |nil=>cases hh
   |cons k ks=>
    cases hh;exact qlV (t.keep k6) q
  ·exact⟨tuples' true,fun Q q=>kind_all (t.keep k6) (by lia) hh q,qnf k6 fun x z=>(hx x z).2⟩
 refine wpAny_bind (kk _ ?_);have K:=(qrF (zV h0)).rank (pairsOf vs).toList;refine wpAny_bind (wpAny_mono (qfY (Q:=fun _ st'=>(arrOf st').Perm (pairsOf vs)∧failedOf st'=none∧Seg (qer (fun x y=>ltL (zV h0 x) (zV h0 y)) (pairsOf vs).toList) (arrOf st') 0 (pairsOf vs).size) C K (fun _ z=>z) rfl rfl rfl rfl (by rw [pairsOf_size];exact h2) fun st' z1 z2 z3=>⟨z1,z2,z3⟩) ?_ fun _ _ e=>e);rintro⟨⟨⟩,st'⟩ s' ⟨rfl,pm,fl,sg⟩;dsimp only;have pl:=Array.perm_iff_toList_perm.mp pm;have om:((arrOf st').map (·.2))=((arrOf st').toList.map (·.2)).toArray:=by
  generalize arrOf st'=z;apply Array.toList_inj.mp;rw [Array.toList_map]
 have op:((arrOf st').toList.map (·.2)).Perm vs:=by
  have:=pl.map (·.2)
  rwa [pairsOf_toList,List.map_snd_zip (Nat.le_refl _)]at this
 have ht:=qgP (arrOf st').toList fun x z=>hx x (pl.mem_iff.mp z)
 have hs:=qqp (LT:=fun x y=>ltL (zV h0 x) (zV h0 y)) (R:=qer (fun x y=>ltL (zV h0 x) (zV h0 y)) (pairsOf vs).toList) (a:=arrOf st') (by rw [pm.size_eq];exact sg) fun x z1 y z2=>K.rk x y (pl.mem_iff.mp z1) (pl.mem_iff.mp z2)
 have fin:=h _ _ op ht (by rw [List.pairwise_map];exact hs);refine wpAny_bind (seqEpoch_at ho6 rfl ?_);refine wpAny_bind (listUpdate_at ho6 rfl ?_ (Nat.zero_le _) (by rw [om,List.size_toArray,op.length_eq];lia));rw [fl];simp only [bne_self_eq_false,Bool.false_eq_true,if_false];refine wpAny_pure ?_;rw [om];exact fin
theorem qkF{l:Addr}{vs:List Value}{ks:List (List Int)}{Q:Value→Shared→Prop}(hl:s.heap.IsList l vs.toArray)(h2:2≤vs.length)(hz:vs.length≤sizeLine)(t:qar s.heap vs ks)(hed:ks.head? = some []∨∀k∈ks,k≠[])(hu:A.in1.in1.units<cLine)
  (h:∀(out:List Value) (ks':List (List Int)),out.Perm vs→qar s.heap out ks'→ks'.Pairwise (fun a b=>ltL b a=false)→Q (.ref (s.heap.objs.size+1)) {s with heap:=sortedAll s.heap vs out.toArray}) :
  wpAny (model prog w) A (call (.builtin "sorted") [.ref l]) Q E s:=by
 refine Calls.call_function_entry kind_sorted plain_sorted entry_sorted (args_sorted1 _) ?_;unfold Builtin.«sorted»;refine wpAny_bind (m:=checkCount "sorted" 1 1 _) (wpAny_pure ?_);refine wpAny_bind (collect_list hl ?_ hz);refine wpAny_bind (wpAny_newList ?_ hz);have hsz:((s.heap.push (seqObj "list" #[] 0)).update s.heap.objs.size (Obj.mapSeq (· ++ vs.toArray))).objs.size=s.heap.objs.size+1:=by rw [Heap.size_update,size_push']
 have hoL:(((s.heap.push (seqObj "list" #[] 0)).update s.heap.objs.size (Obj.mapSeq (· ++ vs.toArray))).push (seqObj "list" vs.toArray 0)).get? (s.heap.objs.size+1)=some (seqObj "list" vs.toArray 0):=by rw [←hsz];exact Heap.get?_push_size _ rfl
 have keep:∀b o,s.heap.get? b=some o→(((s.heap.push (seqObj "list" #[] 0)).update s.heap.objs.size (Obj.mapSeq (· ++ vs.toArray))).push (seqObj "list" vs.toArray 0)).get? b=some o:=fun b o q=>by
  have hlt:b<s.heap.objs.size:=Heap.lt_size q;rw [Heap.get?_push_ne _ _ _ (by rw [hsz];exact Nat.ne_of_lt (Nat.lt_succ_of_lt hlt)),Heap.get?_update_ne _ _ _ _ (Nat.ne_of_lt hlt),Heap.get?_push_ne _ _ _ (Nat.ne_of_lt hlt)];exact q
 show wpAny _ _ _ _ _ {s with heap:=((s.heap.push (seqObj "list" #[] 0)).update s.heap.objs.size (Obj.mapSeq (· ++ vs.toArray))).push (seqObj "list" vs.toArray 0)};rw [hsz];refine wpAny_bind (wpAny_holding (wpAny_call_entry slot_list_sort ⟨_,hoL,rfl⟩ entry_list_sort ?body (args_list_sort _)))
 case body=>
  have hap:∀b o,s.heap.get? b=some o→b≠s.heap.objs.size+1:=fun b o q=>Nat.ne_of_lt (Nat.lt_succ_of_lt (Heap.lt_size q))
  refine qkY (h0:=s.heap) hoL keep hap h2 hz t hed hu fun out ks' a1 a2 a3=>⟨_,rfl,wpAny_pure ⟨_,rfl,h out ks' a1 a2 a3⟩⟩
end
end TS
namespace L2
open PySem PySem.Spec PyProof.Rows TS
theorem qfy:∀{vs:List Value}{a b:List Int},IntsAre vs a→IntsAre vs b→a=b
 |_,_,_,.nil,.nil=>rfl
 |_,_,_,.cons n t h,h'=>by
  cases h' with
  |cons n' t' h''=>rw [qfy h h'']
theorem qeA{h:Heap}{v:Value}{a b:List Int}(x:TupAt h v a)(y:TupAt h v b):a=b:=by
 obtain⟨p,o,its,n,rfl,e2,_,e4,e5⟩:=x;obtain⟨p',o',its',n',f1,f2,_,f4,f5⟩:=y;cases f1;rw [e2]at f2;cases f2;rw [e4]at f4;cases f4;exact qfy e5 f5
theorem qcs{h:Heap}{f:Addr→List Int}:∀(ps:List Addr),(∀p∈ps,TupAt h (.ref p) (f p))→qar h (ps.map Value.ref) (ps.map f)
 | [],_=>.nil
 |p::ps,z=>.cons (z p List.mem_cons_self) (qcs ps fun q hq=>z q (List.mem_cons_of_mem _ hq))
theorem qkt{h:Heap}{vs:List Value}{a b:List (List Int)}(x:qar h vs a)(y:qar h vs b):a=b:=by
 induction x generalizing b with
 |nil=>cases y;rfl
 |cons t _ ih=>
  cases y with
  |cons t' y'=>rw [qeA t t',ih y']
theorem qnC{ps:List Addr}:∀{us:List Value},Vals (ps.map V.ref) us→us=ps.map Value.ref:=by
 induction ps with
 |nil=>intro us r;cases r;rfl
 |cons p ps ih=>
  intro us r;cases r with
  |cons h t=>rw [ih t,show _=Value.ref p from h];rfl
theorem qfp:∀(ps:List Addr),Vals (ps.map V.ref) (ps.map Value.ref)
 | []=>.nil
 |p::ps=>.cons rfl (qfp ps)
noncomputable def qdN:Value→Addr
 | .ref a=>a
 |_=>0
noncomputable def qqA(K:PySem.W.Frag):List V→Hp→VK→Prop:=fun vs H Q=>∃(l:Addr) (p:Addr) (ps:List Addr) (f:Addr→List Int),vs=[.ref l]∧SqL K H l ((p::ps).map V.ref)∧ps≠[]∧(f p=[]∨∀q∈p::ps,f q≠[]) ∧
 (∀q∈p::ps,SqT K H q ((f q).map V.int))∧∀(D:Addr) (qs:List Addr),H D=none→qs.Perm (p::ps)→(qs.map f).Pairwise (fun a b=>ltL b a=false)→Q (.ref D) (upd H D (.lst (qs.map V.ref)))
theorem qiZ{X:Cx}(hu:X.A.in1.in1.units<cLine):qT X (.builtin "sorted") (qqA X.K):=by
 intro pins s σ H xs us Q I r h;obtain⟨l,p,ps,f,rfl,hl,hne,hf,hp,q⟩:=h;obtain⟨u,rfl,ru⟩:=r.one;cases ru;obtain⟨its,rv,pl,hz⟩:=I.list hl;have ei:=qnC rv;subst ei;have tp:∀z∈p::ps,TupAt s.heap (.ref z) (f z):=fun z hz=>by
  obtain⟨its,r2,⟨o,e1,e2,n,e3⟩,_⟩:=I.tuple (hp z hz);exact⟨z,o,its.toArray,n,rfl,e1,e2,e3,by simpa using intsAre_of r2⟩
 have t:=qcs (p::ps) tp;have hz':((p::ps).map Value.ref).length≤sizeLine:=by simpa using hz
 refine qkF pl.isList (by cases ps with
  |nil=>exact absurd rfl hne
  |cons _ _=>simp) hz' t (by
   rcases hf with hf|hf
   ·left;rw [List.map_cons,hf];rfl
   ·right;intro k hk;obtain⟨q,hq,rfl⟩:=List.mem_map.mp hk;exact hf q hq) hu fun out ks' op ot os=>?_
 have eo:out=(out.map qdN).map Value.ref:=by
  rw [List.map_map]
  conv=>lhs;rw [←List.map_id out]
  refine List.map_congr_left fun v hv=>?_
  obtain⟨a,_,rfl⟩:=List.mem_map.mp (op.mem_iff.mp hv)
  rfl
 have qp:(out.map qdN).Perm (p::ps):=by
  have:=op.map qdN
  rwa [List.map_map,show (qdN∘Value.ref)=id from rfl,List.map_id]at this
 have ek:ks'=(out.map qdN).map f:=by
  rw [eo]at ot;exact qkt ot (qcs _ fun z hz=>tp z (qp.mem_iff.mp hz))
 subst ek;obtain⟨c,hc⟩:=sortedAll_at s.heap ((p::ps).map Value.ref) out.toArray;have hD0:s.heap.get? (s.heap.objs.size+1)=none:=Heap.get?_none_of_le (Nat.le_succ _);have q':=q (s.heap.objs.size+1) (out.map qdN) (I.hok.free_of hD0) qp os;refine⟨.ref (s.heap.objs.size+1),_,I.newList (s':={s with heap:=sortedAll s.heap ((p::ps).map Value.ref) out.toArray}) (c:=c) (its:=out) rfl rfl (fun b o _ e=>sortedAll_old e) (fun m hm=>hm.keeps fun b o e=>sortedAll_old e) hD0 (Nat.ne_of_gt (Nat.lt_succ_of_lt I.lt)) hc (by have:=qfp (out.map qdN);rwa [←eo]at this) (by rw [List.length_map,List.length_map,op.length_eq];exact hz'),rfl,q'⟩
noncomputable def qkj(K:PySem.W.Frag):List V→Hp→VK→Prop:=fun vs H Q=>∃(l:Addr) (as:List Addr) (ts:List (List Int)),vs=[.ref l]∧SqL K H l (as.map V.ref)∧as.length=ts.length∧2≤ts.length∧(ts[0]? = some []∨∀t∈ts,t≠[]) ∧
 (∀(i:Nat) a t,as[i]? = some a→ts[i]? = some t→SqT K H a (t.map V.int)) ∧
 ∀(D:Addr) (qs:List Addr) (f:Addr→List Int),H D=none→qs.Perm as→(∀(i:Nat) a t,as[i]? = some a→ts[i]? = some t→f a=t)→(qs.map f).Pairwise (fun a b=>ltL b a=false)→Q (.ref D) (upd H D (.lst (qs.map V.ref)))
theorem qiR{X:Cx}(hu:X.A.in1.in1.units<cLine):qT X (.builtin "sorted") (qkj X.K):=by
 intro pins s σ H xs us Q I r h;obtain⟨l,as,ts,rfl,hl,hlen,h2,h0,ht,q⟩:=h;have tp:∀(i:Nat) a t,as[i]? = some a→ts[i]? = some t→TupAt s.heap (.ref a) t:=fun i a t ha hb=>by
  obtain⟨its,r2,⟨o,e1,e2,n,e3⟩,_⟩:=I.tuple (ht i a t ha hb);exact⟨a,o,its.toArray,n,rfl,e1,e2,e3,by simpa using intsAre_of r2⟩
 let f:Addr→List Int:=fun a=>ts.getD (as.idxOf a) []
 have hf:∀(i:Nat) a t,as[i]? = some a→ts[i]? = some t→f a=t:=fun i a t ha hb=>by
  have hm:a∈as:=List.mem_of_getElem? ha;have hi:=List.idxOf_lt_length_of_mem hm;have e1:as[as.idxOf a]? = some a:=by rw [List.getElem?_eq_getElem hi];simp
  have e2:ts[as.idxOf a]? = some (f a):=by
   have:as.idxOf a<ts.length:=by lia
   simp [f,this]
  exact qeA (tp _ _ _ e1 e2) (tp _ _ _ ha hb)
 match as,hlen with
 | [],hlen=>simp at hlen;lia
 |p::ps,hlen=>
  have hne:ps≠[]:=fun z=>by subst z;simp at hlen;lia
  refine qiZ hu pins s σ H _ us Q I r ⟨l,p,ps,f,rfl,hl,hne,?_,fun a ha=>?_,fun D qs hD hp hs=>q D qs f hD hp hf hs⟩
  ·rcases h0 with h0|h0
   ·exact .inl (hf 0 p [] (by simp) h0)
   ·refine .inr fun a ha=>?_
    obtain⟨i,hi,rfl⟩:=List.getElem_of_mem ha;have hi':i<ts.length:=by lia
    rw [hf i (p::ps)[i] ts[i] (by simp) (by simp)];exact h0 _ (List.getElem_mem hi')
  obtain⟨i,hi,rfl⟩:=List.getElem_of_mem ha;have hi':i<ts.length:=by lia
  have e:=ht i (p::ps)[i] ts[i] (by simp) (by simp)
  rwa [←hf i (p::ps)[i] ts[i] (by simp) (by simp)]at e
noncomputable def qqF(K:PySem.W.Frag):List V→Hp→VK→Prop:=fun vs H Q=>∃(l:Addr) (xs:List V),vs=[.ref l]∧SqL K H l xs∧xs.length<2∧∀D,H D=none→Q (.ref D) (upd H D (.lst xs))
theorem qrA{X:Cx}:qT X (.builtin "sorted") (qqF X.K):=by
 intro pins s σ H xs us Q I r h;obtain⟨l,ys,rfl,hl,h2,q⟩:=h;obtain⟨u,rfl,ru⟩:=r.one;cases ru;obtain⟨its,rv,pl,hz⟩:=I.list hl;have hl':=rv.length;refine qiL pl.isList (by lia) ?_;obtain⟨c,hc⟩:=sortedAll_at s.heap its its.toArray;have hD0:s.heap.get? (s.heap.objs.size+1)=none:=Heap.get?_none_of_le (Nat.le_succ _);exact⟨.ref (s.heap.objs.size+1),_,I.newList (s':={s with heap:=sortedAll s.heap its its.toArray}) (c:=c) rfl rfl (fun b o _ e=>sortedAll_old e) (fun m hm=>hm.keeps fun b o e=>sortedAll_old e) hD0 (Nat.ne_of_gt (Nat.lt_succ_of_lt I.lt)) hc rv (by rw [sizeLine_eq];lia),rfl,q _ (I.hok.free_of hD0)⟩
end L2
namespace L2
open PySem PySem.Spec PyProof.Rows
section
variable{X:Cx}
end
theorem qhh{its:List Value}{ns:List Int}(hi:IntsAre its ns):∃ps:Array (Int×Tok),its.toArray=intItems ps∧ns=ps.toList.map Prod.fst:=by
 rcases hi.allInts.items with ⟨ps,hx⟩
 refine⟨ps,hx,?_⟩;have z:numsOf its.toArray.toList=ns:=hi.numsOf;rw [hx,nums_intItems]at z;exact z.symm
section
variable{X:Cx}
theorem qkZ(hc:X.calm=true):qT X (.builtin "sum") (fun xs H Q=>∃(l:Addr) (ns:List Int),xs=[.ref l]∧SqL X.K H l (ns.map V.int)∧Q (.int ns.sum) H):=by
 intro pins s σ H xs us Q I r h;obtain⟨l,ns,rfl,hl,q⟩:=h;obtain⟨u,rfl,ru⟩:=r.one;cases ru;obtain⟨its,rv,pl,hz⟩:=I.list hl;obtain⟨ps,hx,e1⟩:=qhh (intsAre_of rv);refine sum_intListG (I.ok.hd hc) (hx▸pl.isList) fun h' tk t' hk=>?_
 have e2:preSum (numAt ps) ps.size=ns.sum:=by
  rw [preSum_eq,e1];exact congrArg List.sum (List.take_of_length_le (by simp))
 rw [e2];exact⟨.int _,H,I.kept hk,⟨_,rfl⟩,q⟩
noncomputable def qlt(mx:Bool)(ns:List Int)(n:Int):Prop:=n∈ns∧∀m∈ns,if mx then m≤n else n≤m
theorem qeF(hc:X.calm=true)(mx:Bool):qT X (.builtin (if mx then "max" else "min")) (fun xs H Q=>∃(l:Addr) (ns:List Int),xs=[.ref l]∧SqL X.K H l (ns.map V.int)∧ns≠[]∧∀n,qlt mx ns n→Q (.int n) H):=by
 intro pins s σ H xs us Q I r h;obtain⟨l,ns,rfl,hl,hne,q⟩:=h;obtain⟨u,rfl,ru⟩:=r.one;cases ru;obtain⟨its,rv,pl,hz⟩:=I.list hl;obtain⟨xs,hx,e1⟩:=qhh (intsAre_of rv);have hl':s.heap.IsList l (intItems xs):=by rw [←hx];exact pl.isList
 have hsz:0<xs.size:=by
  cases ns with
  |nil=>exact absurd rfl hne
  |cons a r=>
   have:=congrArg List.length e1;simp at this;lia
 have atN:∀i,i<xs.size→∃h:i<ns.length,numAt xs i=ns[i]:=fun i hi'=>by
  subst e1;refine⟨by simpa using hi',?_⟩;simp [numAt,hi']
 cases mx with
 |true=>
  refine max_intList (I.ok.hd hc) hl' hsz fun v h' tk hv hk=>?_
  obtain⟨t,rfl⟩:=intItems_at hv;refine⟨.int _,H,I.kept hk,⟨_,rfl⟩,q _ ?_⟩;obtain⟨b1,b2⟩:=argBest_gt (numAt xs) (xs.size-1);obtain⟨z1,z2⟩:=atN _ (show argBest (fun i j=>decide (numAt xs i>numAt xs j)) (xs.size-1)<xs.size by lia);refine⟨by rw [z2];exact List.getElem_mem _,fun m hm=>?_⟩;obtain⟨j,hj,rfl⟩:=List.getElem_of_mem hm;have hj':j<xs.size:=by rw [e1]at hj;simpa using hj
  obtain⟨_,y2⟩:=atN j hj';rw [←y2];exact b2 j (by lia)
 |false=>
  refine min_intList (I.ok.hd hc) hl' hsz fun v h' tk hv hk=>?_
  obtain⟨t,rfl⟩:=intItems_at hv;refine⟨.int _,H,I.kept hk,⟨_,rfl⟩,q _ ?_⟩;obtain⟨b1,b2⟩:=argBest_lt (numAt xs) (xs.size-1);obtain⟨z1,z2⟩:=atN _ (show argBest (fun i j=>decide (numAt xs i<numAt xs j)) (xs.size-1)<xs.size by lia);refine⟨by rw [z2];exact List.getElem_mem _,fun m hm=>?_⟩;obtain⟨j,hj,rfl⟩:=List.getElem_of_mem hm;have hj':j<xs.size:=by rw [e1]at hj;simpa using hj
  obtain⟨_,y2⟩:=atN j hj';rw [←y2];exact b2 j (by lia)
end
end L2
namespace EV
open PySem PySem.Spec PySem.P PyProof.Rows L2
theorem qhf:∀(a b:List Int),qba a b=TS.ltL a b
 | [],[]=>rfl
 | [],_::_=>rfl
 |_::_,[]=>rfl
 |a::r,b::t=>by
  unfold qba TS.ltL;rw [qhf r t]
theorem qdl(p:List Int):∀l,(qcT p l).Perm (p::l)
 | []=>.refl _
 |j::r=>by
  unfold qcT;split
  ·exact((qdl p r).cons j).trans (.swap ..)
  ·exact .refl _
theorem qeD:∀l,(qbJ l).Perm l
 | []=>.refl _
 |i::r=>(qdl i _).trans ((qeD r).cons i)
theorem qdA(p:List Int):∀{l:List (List Int)},l.Pairwise (fun a b=>TS.ltL b a=false)→(qcT p l).Pairwise (fun a b=>TS.ltL b a=false)
 | [],_=>by simp [qcT]
 |j::r,h=>by
  unfold qcT;obtain⟨h1,h2⟩:=List.pairwise_cons.mp h;rw [qhf];split
  ·rename_i hij
   refine List.pairwise_cons.mpr ⟨fun x hx=>?_,qdA p h2⟩;rcases List.mem_cons.mp ((qdl p r).mem_iff.mp hx)with rfl|hx
   ·exact TS.qcc hij
   ·exact h1 x hx
  ·rename_i hij
   have hij':TS.ltL j p=false:=by simpa using hij
   refine List.pairwise_cons.mpr ⟨fun x hx=>?_,h⟩;rcases List.mem_cons.mp hx with rfl|hx
   ·exact hij'
   ·exact TS.qcG hij' (h1 x hx)
theorem qcZ:∀l:List (List Int),(qbJ l).Pairwise (fun a b=>TS.ltL b a=false)
 | []=>.nil
 |i::r=>qdA i (qcZ r)
theorem qlX{l m:List (List Int)}(h1:m.Perm l)(h2:m.Pairwise (fun a b=>TS.ltL b a=false)):m=qbJ l:=
 (h1.trans (qeD l).symm).eq_of_pairwise (fun a b _ _ z1 z2=>TS.qkE z2 z1) h2 (qcZ l)
theorem qeZ(mx:Bool):∀(i:Int) (r:List Int) (n:Int),qlt mx (i::r) n→n=qcq mx i r
 |i,[],n,h=>by
  obtain⟨h1,_⟩:=h
  simpa [qcq]using h1
 |i,j::r,n,h=>by
  obtain⟨h1,h2⟩:=h;unfold qcq;refine qeZ mx _ r n ⟨?_,?_⟩
  ·have hi:=h2 i (by simp);have hj:=h2 j (by simp);rcases List.mem_cons.mp h1 with rfl|h1
   ·cases mx<;>simp at hi hj ⊢ <;> left<;>first|lia|(intro _;lia)
   ·rcases List.mem_cons.mp h1 with rfl|h1
    ·cases mx<;>simp at hi hj ⊢ <;> left<;>first|lia|(intro _;lia)
    ·exact List.mem_cons_of_mem _ h1
  ·intro m hm;rcases List.mem_cons.mp hm with rfl|hm
   ·have hi:=h2 i (by simp);have hj:=h2 j (by simp);cases mx<;>simp at hi hj ⊢ <;> split<;>assumption
   ·exact h2 m (by simp [hm])
section
variable{X:Cx}{g:Gc}
theorem qi.tups{H:Hp}{ds:List D}:∀{vs:List V}{ts:List (List Int)},qi g H ds vs→tups? ds=some ts→ds=ts.map qeM∧∃as:List Addr,vs=as.map V.ref∧as.length=ts.length∧∀(i:Nat) a t,as[i]? = some a→ts[i]? = some t→SqT g.K H a (t.map V.int)∧Rep g H (qeM t) (.ref a):=by
 induction ds with
 |nil=>intro vs ts h e;cases h;cases e;exact⟨rfl,[],rfl,rfl,fun i a p h=>by cases h⟩
 |cons d ds ih=>
  intro vs ts h e;cases h with
  |cons h t=>cases d with
   |tup xs=>
    obtain⟨n,e0,e⟩:=Option.bind_eq_some_iff.mp (show (ints? xs).bind (fun n=>(tups? ds).map (n :: ·))=some ts from e);obtain⟨ms,e1,rfl⟩:=Option.map_eq_some_iff.mp e;obtain⟨h1,as,h2,h3,h4⟩:=ih t e1;have hh:=h;cases h with
    | @tup a _ _ q r=>
     obtain⟨rfl,e2⟩:=r.ints e0;refine⟨by rw [h1,e2];rfl,a::as,by rw [h2];rfl,congrArg (· + 1) h3,fun i b p hb hp=>?_⟩;cases i with
     |zero=>cases hb;cases hp;exact⟨q,by rw [e2]at hh;exact hh⟩
     |succ i=>exact h4 i b p hb hp
   |_=>cases (show none=some ts from e)
theorem qi.pairs{H:Hp}{ds:List D}:∀{vs:List V}{ps:List (Int×Int)},qi g H ds vs→pairs? ds=some ps→ds=ps.map pairD∧∃as:List Addr,vs=as.map V.ref∧as.length=ps.length∧∀(i:Nat) a p,as[i]? = some a→ps[i]? = some p→SqT g.K H a [.int p.1,.int p.2]:=by
 induction ds with
 |nil=>intro vs ps h e;cases h;cases e;exact⟨rfl,[],rfl,rfl,fun i a p h=>by cases h⟩
 |cons d ds ih=>
  intro vs ps h e;have no:∀{P:Prop},pairs? (d::ds)=none→P:=fun z=>by rw [z]at e;cases e
  cases h with
  |cons h t=>cases d with
   |tup xs=>cases xs with
    |nil=>exact no rfl
    |cons a xs=>cases a with
     |int x=>cases xs with
      |nil=>exact no rfl
      |cons b xs=>cases b with
       |int y=>cases xs with
        |cons _ _=>exact no rfl
        |nil=>
         obtain⟨ms,e1,rfl⟩:=Option.map_eq_some_iff.mp (show (pairs? ds).map ((x,y) :: ·)=some ps from e);obtain⟨h1,as,h2,h3,h4⟩:=ih t e1;cases h with
         | @tup a xs _ q r=>
          obtain⟨rfl,_⟩:=r.ints (ns:=[x,y]) rfl;refine⟨by rw [h1];rfl,a::as,by rw [h2];rfl,congrArg (· + 1) h3,fun i b p hb hp=>?_⟩;cases i with
          |zero=>cases hb;cases hp;exact q
          |succ i=>exact h4 i b p hb hp
       |_=>exact no rfl
     |_=>exact no rfl
   |_=>exact no rfl
theorem qid{H:Hp}:∀{ts:List (List Int)}{as:List Addr},as.length=ts.length→(∀(i:Nat) a t,as[i]? = some a→ts[i]? = some t→Rep g H (qeM t) (.ref a))→qi g H (ts.map qeM) (as.map V.ref)
 | [],[],_,_=>.nil
 |t::ts,a::as,e,h=>.cons (h 0 a t rfl rfl) (qid (by simpa using e) fun i b u hb hu=>h (i+1) b u (by simpa using hb) (by simpa using hu))
theorem qea:∀{xs:List D}{ps:List (Int×Int)},pairs? xs=some ps→tups? xs=some (ps.map fun p=>[p.1,p.2])
 | [],_,h=>by cases h;rfl
 | .tup [.int i,.int j]::r,ps,h=>by
  simp only [pairs?,Option.map_eq_some_iff]at h;obtain⟨qs,h1,rfl⟩:=h;show (some [i,j]).bind (fun n=>(tups? r).map (n :: ·))=_;rw [qea h1];rfl
theorem qeG(p:Int×Int):∀qs:List (Int×Int),qcT [p.1,p.2] (qs.map fun p=>[p.1,p.2])=(qjA p qs).map fun p=>[p.1,p.2]
 | []=>rfl
 |q::r=>by
  have e:qba [q.1,q.2] [p.1,p.2]=ltP q p:=by
   simp only [qba,ltP];by_cases h:q.1=p.1
   ·rw [if_pos h,if_pos h];by_cases h':q.2=p.2
    ·rw [if_pos h',h'];simp
    ·rw [if_neg h']
   ·rw [if_neg h,if_neg h]
  rw [List.map_cons,qcT,qjA,e,qeG p r];cases ltP q p<;>rfl
theorem qdB:∀qs:List (Int×Int),qbJ (qs.map fun p=>[p.1,p.2])=(qcC qs).map fun p=>[p.1,p.2]
 | []=>rfl
 |q::r=>by rw [List.map_cons,qbJ,qcC,qdB r,qeG]
theorem qhS{xs:List D}{ps:List (Int×Int)}(h:pairs? xs=some ps)(h2:2≤ps.length):qds xs=.ok (.lst ((qcC ps).map pairD)):=by
 rw [qds,qea h];have e:qcB (ps.map fun p=>[p.1,p.2])=true:=by
  match ps,h2 with
  |p::q::r,_=>simp [qcB]
 show (if qcB _=true then _ else _)=_;rw [e,if_pos rfl,qdB,List.map_map]
 rfl
theorem qkz(hK:X.K=g.K)(hu:X.A.units+64<cLine):qT X (.builtin "sorted") (rB1 g .sorted):=qbc (qrA.or (qiR (show X.A.units+1+1<cLine by lia))) fun S ds d vs H Q hs rs h q=>by
 obtain⟨x,rfl,h'⟩:=qbl (fun _ _=>rfl) h;obtain⟨xs,rfl,h2⟩:=qbj h'
 replace h:=h2
 cases rs with
 |cons r rs=>
  cases rs;obtain⟨a,us,rfl,h1,r1⟩:=r.lst;have big:qds xs=.ok d→qkj X.K [.ref a] H Q:=fun h=>by
   obtain⟨ts,e,h⟩:=qbm h;split at h
   ·rename_i hh
    cases h;obtain⟨rfl,as,rfl,hl,hp⟩:=r1.tups e;have hh':2≤ts.length∧(ts[0]? = some []∨∀t∈ts,t≠[]):=by
     match ts,hh with
     |p::q::r,hh=>
      refine⟨by simp,?_⟩;rw [qcB,Bool.or_eq_true]at hh;rcases hh with hh|hh
      ·exact .inl (by simpa using hh)
      ·exact .inr fun t ht=>by simpa using List.all_eq_true.mp hh t ht
    refine⟨a,as,ts,rfl,by rw [hK];exact h1,hl,hh'.1,hh'.2,fun i b t hb ht=>by rw [hK];exact zT zL (hp i b t hb ht).1,fun D qs f hn pm hf ps=>?_⟩;have e1:as.map f=ts:=by
     refine List.ext_getElem (by simp [hl]) fun i h1 h2=>?_
     rw [List.getElem_map];have:i<as.length:=by simpa using h1
     exact hf i as[i] ts[i] (by simp [this]) (by simp [h2])
    have e2:qs.map f=qbJ ts:=qlX (by have:=pm.map f;rwa [e1]at this) ps;have hR:qi g (hid H S) ((qbJ ts).map qeM) (qs.map V.ref):=by
     rw [←e2];refine qid (by simp) fun i b t hb ht=>?_
     have hm:b∈as:=pm.mem_iff.mp (List.mem_of_getElem? hb);obtain⟨j,hj,rfl⟩:=List.getElem_of_mem hm;have hj':j<ts.length:=by lia
     have e3:t=ts[j]:=by
      have e4:=hf j as[j] ts[j] (by simp [hj]) (by simp [hj']);rw [List.getElem?_map,hb]at ht;simp at ht;rw [←ht,e4]
     rw [e3];exact(hp j as[j] ts[j] (by simp [hj]) (by simp [hj'])).2
    exact q _ _ (qW hn) (qaU hs hn hR) fun _=>qca (qc.refl _) hn hR
   ·cases h
  by_cases hz:xs.length<64
  ·rw [if_pos hz]at h
   all_goals
    cases e2:pairs? xs with
    |none=>rw [e2]at h;exact .inr (big h)
    |some ps=>
     rw [e2]at h;cases h;obtain⟨rfl,as,rfl,hl,hp⟩:=r1.pairs e2;by_cases h2:2≤ps.length
     ·exact .inr (big (qhS e2 h2))
     ·have e3:qcC ps=ps:=by
       match ps,h2 with
       | [],_=>rfl
       | [_],_=>rfl
       |_::_::r,h=>exact absurd (show 2≤r.length+1+1 by lia) h
      refine .inl ⟨a,as.map V.ref,rfl,by rw [hK];exact h1,by rw [List.length_map];lia,fun p hn=>?_⟩;rw [e3]at q;exact q _ _ (qW hn) (qaU hs hn r1) fun _=>qca (qc.refl _) hn r1
  ·rw [if_neg hz]at h;exact .inr (big h)
theorem qfE(hK:X.K=g.K)(hc:X.calm=true)(mx:Bool):qT X (.builtin (if mx then "max" else "min")) (rB1 g (if mx then .max else .min)):=by
 have two:∀{S:Sh}{H:Hp}{x y:D}{vs:List V}{i j:Int},x=.int i→y=.int j→qbM g H S [x,y] vs→vs=[.int i,.int j]:=by
  intro S H x y vs i j hx hy rs;subst hx hy;cases rs with
  |cons r1 rs=>
   cases rs with
   |cons r2 rs=>cases rs;rw [r1.int,r2.int]
 have one:∀{S:Sh}{H:Hp}{x d:D}{vs:List V},qbM g H S [x] vs→(qaO x fun xs=>qaA (ints? xs) fun ns=>qeH mx ns)=.ok d→∃(l:Addr) (ns:List Int),vs=[.ref l]∧SqL X.K H l (ns.map V.int)∧ns≠[]∧∀n,qlt mx ns n→d=.int n:=by
  intro S H x d vs rs hA;obtain⟨xs,rfl,hB⟩:=qbj hA;obtain⟨ns,e,hC⟩:=qbm hB;clear hA hB;have h:qeH mx ns=.ok d:=hC;clear hC;cases rs with
  |cons r rs=>
   cases rs;obtain⟨a,us,rfl,h1,r1⟩:=r.lst;obtain⟨rfl,rfl⟩:=r1.ints e
   match ns,h with
   |i::r,h=>
    cases h;exact⟨a,i::r,rfl,by rw [hK];exact h1,by simp,fun n hb=>by rw [qeZ _ _ _ _ hb]⟩
 have inv:∀{b:B1}{ds:List D}{d:D},b1 b ds=.ok d→(∃x,ds=[x]∧b11 b x=.ok d)∨∃x y,ds=[x,y]∧b12 b x y=.ok d:=by
  intro b ds d h
  match ds,h with
  | [x],h=>exact .inl ⟨x,rfl,h⟩
  | [x,y],h=>exact .inr ⟨x,y,rfl,h⟩
  | [],h=>cases h
  |_::_::_::_,h=>cases h
 cases mx
 ·exact qbc ((qjU hc).or (qeF hc false)) fun S ds d vs H Q hs rs h q=>by
   rcases inv h with ⟨x,rfl,h'⟩|⟨x,y,rfl,h'⟩
   ·obtain⟨l,ns,e1,e2,e3,e4⟩:=one rs h';exact .inr ⟨l,ns,e1,e2,e3,fun n hb=>q _ _ (qc.refl _) (by rw [e4 n hb];exact .int _) (by simp)⟩
   ·obtain⟨i,j,hx,hy,h'⟩:=qir h';cases h';exact .inl ⟨i,j,two hx hy rs,q _ _ (qc.refl _) (.int _) (by simp)⟩
 ·exact qbc ((qjV hc).or (qeF hc true)) fun S ds d vs H Q hs rs h q=>by
   rcases inv h with ⟨x,rfl,h'⟩|⟨x,y,rfl,h'⟩
   ·obtain⟨l,ns,e1,e2,e3,e4⟩:=one rs h';exact .inr ⟨l,ns,e1,e2,e3,fun n hb=>q _ _ (qc.refl _) (by rw [e4 n hb];exact .int _) (by simp)⟩
   ·obtain⟨i,j,hx,hy,h'⟩:=qir h';cases h';exact .inl ⟨i,j,two hx hy rs,q _ _ (qc.refl _) (.int _) (by simp)⟩
theorem qfg{S:Sh}{H:Hp}{vs:List V}{i:Int}(rs:qbM g H S [.int i] vs):vs=[.int i]:=by
 cases rs with
 |cons r1 rs=>cases rs;rw [r1.int]
theorem qlb{S:Sh}{H:Hp}{vs:List V}{i:Bool}(rs:qbM g H S [.bl i] vs):vs=[.bl i]:=by
 cases rs with
 |cons r1 rs=>cases rs;rw [r1.bl]
theorem qpg:qT X (.builtin "abs") (rB1 g .abs):=qbc qmb fun S ds d vs H Q hs rs h q=>by
 obtain⟨x,rfl,h'⟩:=qbl (fun _ _=>rfl) h;rcases qeY h' with ⟨i,rfl,h'⟩|⟨i,rfl,h'⟩
 ·cases h';exact⟨i,qfg rs,q _ _ (qc.refl _) (.int _) (by simp)⟩
 ·cases h'
theorem qpq:qT X (.type "int") (rB1 g .int):=qbc qkd fun S ds d vs H Q hs rs h q=>by
 obtain⟨x,rfl,h'⟩:=qbl (fun _ _=>rfl) h;rcases qeY h' with ⟨i,rfl,h'⟩|⟨i,rfl,h'⟩
 ·cases h';exact .inl ⟨i,qfg rs,q _ _ (qc.refl _) (.int _) (by simp)⟩
 ·cases h';exact .inr ⟨i,qlb rs,q _ _ (qc.refl _) (.int _) (by simp)⟩
theorem qoo:qT X (.type "bool") (rB1 g .bool):=qbc qjR fun S ds d vs H Q hs rs h q=>by
 obtain⟨x,rfl,h'⟩:=qbl (fun _ _=>rfl) h;rcases qeY h' with ⟨i,rfl,h'⟩|⟨i,rfl,h'⟩
 ·cases h';exact .inl ⟨i,qfg rs,q _ _ (qc.refl _) (.bl _) (by simp)⟩
 ·cases h';exact .inr ⟨i,qlb rs,q _ _ (qc.refl _) (.bl _) (by simp)⟩
theorem qqv(hK:X.K=g.K)(hc:X.calm=true):qT X (.builtin "sum") (rB1 g .sum):=qbc (qkZ hc) fun S ds d vs H Q hs rs h q=>by
 obtain⟨x,rfl,h'⟩:=qbl (fun _ _=>rfl) h;obtain⟨xs,rfl,h'⟩:=qbj h';obtain⟨ns,e,h'⟩:=qbm h';cases h';cases rs with
 |cons r rs=>
  cases rs;obtain⟨a,us,rfl,h1,r1⟩:=r.lst;obtain⟨rfl,rfl⟩:=r1.ints e;exact⟨a,ns,rfl,by rw [hK];exact h1,q _ _ (qc.refl _) (.int _) (by simp)⟩
theorem qle(hK:X.K=g.K)(hu:X.A.units+64<cLine):∀b,(X.calm=true∨b=.len∨b=.abs∨b=.tuple∨b=.list∨b=.int∨b=.bool)→qT X (b1V b) (rB1 g b)
 | .len,_=>qqf hK
 | .tuple,_=>qls hK
 | .list,_=>qnR hK
 | .sorted,_=>qkz hK hu
 | .all,h=>qfo hK (by simpa using h) true
 | .any,h=>qfo hK (by simpa using h) false
 | .sum,h=>qqv hK (by simpa using h)
 | .min,h=>qfE hK (by simpa using h) false
 | .max,h=>qfE hK (by simpa using h) true
 | .abs,_=>qpg
 | .int,_=>qpq
 | .bool,_=>qoo
theorem qdk{H:Hp}{ds:List D}{vs:List V}(r:qi g H ds vs):ds.isEmpty=vs.isEmpty:=by cases r<;>rfl
theorem qnY(hK:X.K=g.K){S:Sh}{H:Hp}{d:D}{v:V}{b:Bool}(r:zu g H S d v)(e:truth d=.ok b):qms X.K v H b:=by
 cases d with
 |non=>cases r.rep;cases e;exact rfl
 |bl c=>cases r.rep;cases e;exact rfl
 |int i=>cases r.rep;cases e;exact rfl
 |tup xs=>
  cases e;obtain⟨a,vs,rfl,h1,r1⟩:=r.tup;exact .inr (.inl ⟨vs,by rw [hK];exact h1,by rw [qdk r1]⟩)
 |lst xs=>
  cases e;obtain⟨a,vs,rfl,h1,r1⟩:=r.lst;exact .inl ⟨vs,by rw [hK];exact h1,by rw [qdk r1]⟩
 |_=>cases e
theorem qpk(hK:X.K=g.K):qT X (.builtin "isinstance") (fun xs H Q=>∃S d v n t,xs=[v,.ty n]∧zu g H S d v∧tyD d=some t∧n∈["int","bool","str","list","tuple"]∧Q (.bl (qdK t n)) H):=by
 intro pins s σ H xs us Q I r h;obtain⟨S,d,v,n,t,rfl,rd,ht,hn,q⟩:=h;obtain⟨u,cu,rfl,rx,rc⟩:=r.two;cases rc;have fin:∀tk,EP X pins σ Q (.bool (qdK t n)) {s with toks:=tk}:=fun tk=>⟨.bl _,H,I.tok tk,rfl,q⟩
 have kb:t∈["NoneType","bool","int","str","list","tuple","dict"]→PySem.W.kitOne X.K (.type t) (.type n)=some (qdK t n):=fun h=>qoV h hn
 cases d with
 |non=>cases ht;cases rd.rep;exact qaP I rx .non (kb (by simp)) fin
 |bl c=>cases ht;cases rd.rep;exact qaP I rx (.bl c) (kb (by simp)) fin
 |int i=>cases ht;cases rd.rep;exact qaP I rx (.int i) (kb (by simp)) fin
 |str i=>cases ht;cases rd.rep;exact qaP I rx (.str i) (kb (by simp)) fin
 |tup xs=>
  cases ht;obtain⟨a,vs,rfl,h1,_⟩:=rd.tup;cases rx;obtain⟨its,_,⟨o,e1,e2,_⟩,_⟩:=I.tuple (by rw [hK];exact h1);exact PySem.W.kia_one PySem.W.kitx_tuple I.kIn ⟨o,e1,e2⟩ (kb (by simp)) (fun z=>nomatch z) fin
 |lst xs=>
  cases ht;obtain⟨a,vs,rfl,h1,_⟩:=rd.lst;cases rx;obtain⟨its,_,pl,_⟩:=I.list (by rw [hK];exact h1);obtain⟨o,e1,e2,_⟩:=pl.isList;exact PySem.W.kia_one PySem.W.kitx_list I.kIn ⟨o,e1,e2⟩ (kb (by simp)) (fun z=>nomatch z) fin
 |dic=>
  cases ht;cases rd.rep with
  |dic h1=>exact qaP I rx (.dK h1) (kb (by simp)) fin
 |_=>cases ht
end
theorem qqi{o:O2}{a b:Int}{c:Str}:opI o a b≠.ex c:=by
 cases o<;>simp only [opI]<;>(try split)<;>intro h<;>cases h
theorem qoN{o:O2}{a b:D}{c:Str}:op2 o a b≠.ex c:=by
 unfold op2;split
 ·exact qqi
 all_goals ((try split)<;>intro h<;>cases h)
theorem qoQ{n:Bool}{a b:D}{c:Str}:isB n a b≠.ex c:=by
 unfold isB;split<;>intro h<;>cases h
theorem qob{o:C2}{a b:D}{c:Str}:qh o a b≠.ex c:=by
 unfold qh;split<;>(try split)<;>(try split)<;>intro h<;>first|cases h|exact qoQ h
theorem qlq{a:D}{c:Str}:truth a≠.ex c:=by
 unfold truth;split<;>intro h<;>cases h
theorem qqT{a b:D}{c:Str}:ixD a b≠.ex c:=by
 unfold ixD;split<;>(try split)<;>intro h<;>cases h
theorem qqC{a:D}{l h:Option Int}{c:Str}:slD a l h≠.ex c:=by
 unfold slD;split<;>(try split)<;>intro h<;>cases h
theorem qbo{x:D}{k:List D→R D}{c:Str}(h:∀xs,k xs≠.ex c):qaO x k≠.ex c:=by
 cases x with
 |lst xs=>exact h xs
 |_=>intro z;cases z
theorem qgU{x:D}{f:Int→R D}{q:Bool→R D}{c:Str}(h:∀i,f i≠.ex c)(h':∀i,q i≠.ex c):ibR x f q≠.ex c:=by
 cases x with
 |int i=>exact h i
 |bl i=>exact h' i
 |_=>intro z;cases z
theorem qkR{x y:D}{k:Int→Int→R D}{c:Str}(h:∀i j,k i j≠.ex c):iiR x y k≠.ex c:=by
 cases x with
 |int i=>
  cases y with
  |int j=>exact h i j
  |_=>intro z;cases z
 |_=>intro z;cases z
theorem qao{α β:Type}{o:Option α}{k:α→R β}{c:Str}(h:∀a,k a≠.ex c):qaA o k≠.ex c:=by
 cases o with
 |some a=>exact h a
 |none=>intro z;cases z
theorem zR{α:Type}{a:α}{c:Str}:R.ok a≠.ex c:=by intro z;cases z
theorem qbI{α:Type}{c:Str}:(R.no:R α)≠.ex c:=by intro z;cases z
theorem qhj{xs:List D}{c:Str}:qds xs≠.ex c:=qao fun _=>by
 split
 ·exact zR
 ·exact qbI
theorem qhl{mx:Bool}{ns:List Int}{c:Str}:qeH mx ns≠.ex c:=by
 cases ns
 ·exact qbI
 ·exact zR
theorem qqQ{b:B1}{d:D}{c:Str}:b11 b d≠.ex c:=by
 cases b with
 |len=>exact qao fun _=>zR
 |tuple=>exact qao fun _=>zR
 |list=>exact qao fun _=>zR
 |all=>exact qbo fun _=>qao fun _=>zR
 |any=>exact qbo fun _=>qao fun _=>zR
 |sorted=>
  refine qbo fun _=>?_
  split
  ·split
   ·exact zR
   ·exact qhj
  ·exact qhj
 |abs=>exact qgU (fun _=>zR) fun _=>qbI
 |int=>exact qgU (fun _=>zR) fun _=>zR
 |bool=>exact qgU (fun _=>zR) fun _=>zR
 |sum=>exact qbo fun _=>qao fun _=>zR
 |min=>exact qbo fun _=>qao fun _=>qhl
 |max=>exact qbo fun _=>qao fun _=>qhl
theorem qrE{b:B1}{ds:List D}{c:Str}:b1 b ds≠.ex c:=by
 match ds with
 | []=>exact qbI
 | [_]=>exact qqQ
 | [x,y]=>
  cases b with
  |min=>exact qkR fun _ _=>zR
  |max=>exact qkR fun _ _=>zR
  |_=>exact qbI
 |_::_::_::_=>exact qbI
structure qbB(g:Gc)(c:Cc)(e:E)(S:Sh)(H:Hp)(d:D)(v:V)(H':Hp):Prop where
 same:qc H H'
 rb:zu g H' S d v
 st:esc e=true→Rep g (hid H' S) d v
 fr:fresh c e=true→Fr g H S H' d v
structure SE(g:Gc)(c:Cc)(τ:Env)(σ:L2.St)(H:Hp)(S:Sh):Prop where
 len:τ.length=σ.length
 val:∀(i:Nat) (d:D),τ[i]? = some (some d)→∃v,σ[i]? = some (some v)∧zu g H S d v∧∀x,c.N[i]? = some x→c.own.contains x=false→Rep g (hid H S) d v
 sub:Sub S H
theorem SE.up{g:Gc}{c:Cc}{τ:Env}{σ:L2.St}{H H':Hp}{S:Sh}(s:SE g c τ σ H S)(e:qc H H'):SE g c τ σ H' S:=
 ⟨s.len,fun i d h=>let ⟨v,h1,h2,h3⟩:=s.val i d h;⟨v,h1,h2.mono e,fun x a b=>(h3 x a b).mono (qk e)⟩,s.sub.same e⟩
noncomputable def tR{α:Type}(g:Gc)(E:XK)(H:Hp)(r:R α)(k:α→Prop):Prop:=match r with
 | .ok a=>k a
 | .ex c=>∀H' C,qc H H'→g.clA c=some C→E (.ref C) none H'
 | .no=>False
theorem tR.up{α:Type}{g:Gc}{E:XK}{H H':Hp}{r:R α}{k:α→Prop}(h:tR g E H r k)(e:qc H H'):tR g E H' r k:=by
 cases r with
 |ok a=>exact h
 |ex c=>exact fun H2 C e2 hc=>h H2 C (e.trans e2) hc
 |no=>exact h
theorem tR.imp{α:Type}{g:Gc}{E:XK}{H:Hp}{r:R α}{k k':α→Prop}(h:tR g E H r k)(i:∀a,k a→k' a):tR g E H r k':=by
 cases r with
 |ok a=>exact i a h
 |ex c=>exact h
 |no=>exact h
section
variable(w:W)(g:Gc)(c:Cc)(E:XK)
noncomputable def tE(e:EV.E):TE:=fun σ H Q=>∃τ S,SE g c τ σ H S∧tR g E H (evE w e τ) fun d=>∀v H',qbB g c e S H d v H'→Q v H'
noncomputable def tT(t:T):TT:=fun σ H Q=>∃τ S,SE g c τ σ H S∧tR g E H (evT w t τ) fun b=>∀H',qc H H'→Q b H'
noncomputable def tA(es:Es):TA:=fun σ H Q=>∃τ S,SE g c τ σ H S∧tR g E H (zJ w es τ) fun ds=>∀vs H',qc H H'→qbM g H' S ds vs→(qbr es=true→qi g (hid H' S) ds vs)→Q vs H'
noncomputable def tOe(o:OE):TO:=fun σ H Q=>∃τ S,SE g c τ σ H S∧tR g E H (evO w o τ) fun i=>∀H',qc H H'→Q i H'
noncomputable def Goes(g:Gc)(J:L2.It)(ds:List D)(H:Hp)(S:Sh):Prop:=
 (∀i,ds.length≤i→J.stop i H)∧∀i d,ds[i]? = some d→J.go i H∧∀x H',J.yld i H x H'→qc H H'∧Rep g (hid H' S) d x
noncomputable def tIt(it:It):TI:=fun σ H R=>∃τ S,SE g c τ σ H S∧tR g E H (evI w it τ) fun ds=>∀J H',qc H H' →
 (∀H2 S2,qc H' H2→qc (hid H' S) (hid H2 S2)→Sub S2 H2→Goes g J ds H2 S2)→(owned it=false→∀H2 S2,qc (hid H' S) (hid H2 S2)→Sub S2 H2→Goes g J ds H2 S2)→R J H'
end
theorem PE.imp{X:Cx}{e:Expr}{t t':TE}(h:PE X e t)(i:∀σ H Q,t' σ H Q→t σ H Q):PE X e t':=fun pins s σ H Q I q=>h pins s σ H Q I (i _ _ _ q)
theorem PT.imp{X:Cx}{e:Expr}{t t':TT}(h:PT X e t)(i:∀σ H Q,t' σ H Q→t σ H Q):PT X e t':=fun pins s σ H Q I q=>h pins s σ H Q I (i _ _ _ q)
theorem PW.imp{X:Cx}{e:Expr}{t t':TT}(h:PW X e t)(i:∀σ H Q,t' σ H Q→t σ H Q):PW X e t':=fun wh pins s σ H Q I q=>h wh pins s σ H Q I (i _ _ _ q)
theorem PA.imp{X:Cx}{e:List Expr}{t t':TA}(h:PA X e t)(i:∀σ H Q,t' σ H Q→t σ H Q):PA X e t':=fun pos pins s σ H Q I q=>h pos pins s σ H Q I (i _ _ _ q)
theorem PO.imp{X:Cx}{e:Option Expr}{t t':TO}(h:PO X e t)(i:∀σ H Q,t' σ H Q→t σ H Q):PO X e t':=fun pins s σ H Q I q=>h pins s σ H Q I (i _ _ _ q)
theorem PI.imp{X:Cx}{tg e:Expr}{t t':TI}(h:PI X tg e t)(i:∀σ H Q,t' σ H Q→t σ H Q):PI X tg e t':=fun pins s σ H Q I q=>h pins s σ H Q I (i _ _ _ q)
theorem PS.imp{X:Cx}{e:Stmt}{t t':TS}(h:PS X e t)(i:∀D σ H,t' D σ H→t D σ H):PS X e t':=fun pins s σ H Q I q=>h pins s σ H Q I (i _ _ _ q)
theorem PSs.imp{X:Cx}{e:List Stmt}{t t':TS}(h:PSs X e t)(i:∀D σ H,t' D σ H→t D σ H):PSs X e t':=fun pins s σ H Q I q=>h pins s σ H Q I (i _ _ _ q)
section
variable{w:W}{g:Gc}{c:Cc}{E:XK}{τ:Env}{σ:L2.St}{H H0:Hp}{S:Sh}
theorem qU{α:Type}{e:EV.E}{f:D→R α}{P:α→Prop}{Q:VK}(se:SE g c τ σ H S)(h:tR g E H ((evE w e τ).bind f) P)(k:∀d v H',evE w e τ=.ok d→qbB g c e S H d v H'→tR g E H' (f d) P→Q v H'):tE w g c E e σ H Q:=by
 refine⟨τ,S,se,?_⟩;cases q:evE w e τ with
 |ok d=>rw [q]at h;exact fun v H' p=>k d v H' q p (tR.up h p.same)
 |ex x=>rw [q]at h;exact h
 |no=>rw [q]at h;exact h
theorem qjp{α:Type}{t:T}{f:Bool→R α}{P:α→Prop}{Q:Bool→Hp→Prop}(se:SE g c τ σ H S)(h:tR g E H ((evT w t τ).bind f) P)(k:∀b H',evT w t τ=.ok b→qc H H'→tR g E H' (f b) P→Q b H'):tT w g c E t σ H Q:=by
 refine⟨τ,S,se,?_⟩;cases q:evT w t τ with
 |ok d=>rw [q]at h;exact fun H' p=>k d H' q p (tR.up h p)
 |ex x=>rw [q]at h;exact h
 |no=>rw [q]at h;exact h
theorem qeL{α:Type}{es:Es}{f:List D→R α}{P:α→Prop}{Q:List V→Hp→Prop}(se:SE g c τ σ H S)(h:tR g E H ((zJ w es τ).bind f) P)
  (k:∀ds vs H',zJ w es τ=.ok ds→qc H H'→qbM g H' S ds vs→(qbr es=true→qi g (hid H' S) ds vs)→tR g E H' (f ds) P→Q vs H'):tA w g c E es σ H Q:=by
 refine⟨τ,S,se,?_⟩;cases q:zJ w es τ with
 |ok d=>rw [q]at h;exact fun vs H' p r r'=>k d vs H' q p r r' (tR.up h p)
 |ex x=>rw [q]at h;exact h
 |no=>rw [q]at h;exact h
theorem qph{α:Type}{o:OE}{f:Option Int→R α}{P:α→Prop}{Q:Option Int→Hp→Prop}(se:SE g c τ σ H S)(h:tR g E H ((evO w o τ).bind f) P)(k:∀b H',evO w o τ=.ok b→qc H H'→tR g E H' (f b) P→Q b H'):tOe w g c E o σ H Q:=by
 refine⟨τ,S,se,?_⟩;cases q:evO w o τ with
 |ok d=>rw [q]at h;exact fun H' p=>k d H' q p (tR.up h p)
 |ex x=>rw [q]at h;exact h
 |no=>rw [q]at h;exact h
theorem qbB.of{e:EV.E}{d:D}{v:V}{H':Hp}(s:qc H H')(r:Rep g (hid H' S) d v)(f:fresh c e=false):qbB g c e S H d v H':=⟨s,.inl r,fun _=>r,fun z=>by rw [f]at z;cases z⟩
theorem qbB.new{e:EV.E}{d:D}{v:V}{H':Hp}(s:qc H H')(r:Rep g (hid H' S) d v)(f:Fr g H S H' d v):qbB g c e S H d v H':=⟨s,.inl r,fun _=>r,fun _=>f⟩
theorem Fr.low{d:D}{v:V}{H1 H':Hp}(f:Fr g H1 S H' d v)(e:qc H H1):Fr g H S H' d v:=by
 obtain⟨a,vs,ds,h1,h2,h3,h4,h5⟩:=f;exact⟨a,vs,ds,h1,h2,e.free h3,h4,h5⟩
end
noncomputable def b1N:B1→Str
 | .len=>"len"
 | .tuple=>"tuple"
 | .list=>"list"
 | .sorted=>"sorted"
 | .all=>"all"
 | .any=>"any"
 | .sum=>"sum"
 | .min=>"min"
 | .max=>"max"
 | .abs=>"abs"
 | .int=>"int"
 | .bool=>"bool"
theorem qfj:∀b,bootBuiltins (b1N b)=some (b1V b)
 | .len | .tuple | .list | .sorted | .all | .any | .sum | .min | .max | .abs | .int | .bool=>by decide +kernel
noncomputable def spF(w:W)(g:Gc)(x:Str)(fr:Bool):Sp:=fun vs H Q E=>∃S ds,Sub S H∧qi g (hid H S) ds vs ∧
 tR g E H (w.call x ds) fun d=>∀v H',qc H H'→Rep g (hid H' S) d v→(fr=true→Fr g H S H' d v)→Q v H'
structure qeo(w:W)(g:Gc)(P:Program)(wl:World)(mg:Str→Option Value)(base:Heap)(A:Around)(calm:Bool)(x:Str)(f:Addr)(fr:Bool):Prop where
 at_:mg x=some (.ref f)
 kp:PySem.W.keepIn g.K (.ref f)=true
 fn:∃k fd ps,Binds g.K fd ps []∧((calm=true∧qdf P wl g.K mg base (CX1 P wl) k f fd ps (spF w g x fr)∧qaY k A)∨(calm=false∧qja P wl g.K mg base (CX1 P wl) k f fd ps (spF w g x fr)∧qew k A))
noncomputable def GM(w:W)(g:Gc)(P:Program)(wl:World)(mg:Str→Option Value)(base:Heap)(A:Around)(calm:Bool)(x:Str):GK→Prop
 | .fn fr=>∃f,g.fnA x=some f∧qeo w g P wl mg base A calm x f fr
 | .val=>∃u v d,mg x=some u∧RelV v u∧w.glb x=some d∧∀H,Rep g H d v
 | .bi b=>mg x=none∧x=b1N b∧∃id,b1V b=.builtin id
 | .rng=>mg x=none∧x = "range"
 | .enum=>mg x=none∧x = "enumerate"
 | .zip=>mg x=none∧x = "zip"
 | .isi=>mg x=none∧x = "isinstance"
 | .ty n b=>mg x=none∧bootBuiltins x=some (.type n)∧(n∈["int","bool","str","list","tuple"]∨n = "ValueError")∧∀b',b=some b'→x=b1N b'∧b1V b'=.type n
 | .exc=>∃C,mg x=some (.ref C)∧g.clA x=some C
 | .exk=>∃C,mg x=some (.ref C)∧g.clA x=some C
 | .set=>mg x=none∧bootBuiltins x=some (.type "set")
structure XO(w:W)(g:Gc)(c:Cc)(E:XK)(X:Cx):Prop where
 K:X.K=g.K
 nm:X.env.scope.names=c.nm
 N:X.N=c.N
 nd:c.N.Nodup
 calm:c.calm=true→X.calm=true
 units:X.A.units+64<cLine
 fn:∀x,(c.fnc=true∨c.oc.contains x=true)→X.fn x=true
 kind:X.env.scope.kind=.function
 pass:Passes (CX1 X.prog X.w) X E
 gok:∀x k,c.G.lookup x=some k→GM w g X.prog X.w X.mg X.base X.A X.calm x k
 fns:X.calm=true→∀x f,g.fnA x=some f→∃fr,qeo w g X.prog X.w X.mg X.base X.A X.calm x f fr
 -- what isinstance says of a caught error
 sub:∀k cl b,w.sub k cl=some b→∃C cv,g.clA k=some C∧qaz g.K C∧PySem.W.kitOne g.K (.ref C) cv=some b∧match cl with
  | .ty n=>n = "ValueError"∧cv=.type n
  | .ex x=>∃D,g.clA x=some D∧cv=.ref D
section
variable{w:W}{g:Gc}{c:Cc}{E:XK}{X:Cx}
theorem zv{x:Str}{i:Nat}(h:loc c x=some i):c.N[i]? = some x∧(c.nm.lookup x=some .local∨c.nm.lookup x=some .cell∨c.nm.lookup x=some .free)∧(x==("__debug__" : Str))=false∧(x==("__classdict__" : Str))=false:=by
 unfold loc at h;split at h
 ·cases h
 ·rename_i hd
  have hd':(x==("__debug__" : Str))=false∧(x==("__classdict__" : Str))=false:=by simpa using hd
  have fin:∀{j},(if c.N[j]? = some x then some j else none)=some i→c.N[i]? = some x:=fun {j} z=>by
   split at z
   ·cases z;assumption
   ·cases z
  split at h
  ·rename_i q;exact⟨fin h,.inl q,hd'⟩
  ·rename_i q;exact⟨fin h,.inr (.inl q),hd'⟩
  ·rename_i q;exact⟨fin h,.inr (.inr q),hd'⟩
  ·cases h
theorem qR{x:Str}{k:GK}(h:glob c x=some k):c.nm.lookup x=some .globalImplicit∧c.G.lookup x=some k∧(x==("__debug__" : Str))=false∧x≠"__name__":=by
 unfold glob at h;split at h
 ·cases h
 ·rename_i hd
  have hd':(x==("__debug__" : Str))=false∧(x==("__name__" : Str))=false:=by simpa using hd
  split at h
  ·rename_i q;exact⟨q,h,hd'.1,by simpa using hd'.2⟩
  ·cases h
theorem XO.gl(O:XO w g c E X){x:Str}{k:GK}(h:glob c x=some k):Gl X x:=by
 show X.env.scope.names.lookup x=_;rw [O.nm];exact(qR h).1
theorem XO.gm(O:XO w g c E X){x:Str}{k:GK}(h:glob c x=some k):GM w g X.prog X.w X.mg X.base X.A X.calm x k:=O.gok x k (qR h).2.1
theorem qe{e:Expr}{es:List Expr}{env:PySem.Env}(h:isStar e=false):starEach (e::es) env=(false,eval e env)::starEach es env:=by
 cases e<;>first|rfl|(simp [isStar]at h)
theorem qeu{es:List Expr}{env:PySem.Env}{pos:Pos}:(∀e∈es,isStar e=false)→(backTo pos (starEach es env)).any (·.1)=false:=by
 induction es with
 |nil=>intro _;rfl
 |cons e es ih=>
  intro h;rw [qe (h e List.mem_cons_self)];show (false||(backTo pos (starEach es env)).any (·.1))=false;rw [ih fun e he=>h e (List.mem_cons_of_mem _ he)]
  rfl
theorem qal:∀{n:Nat}{es:List Expr}{ir:Es},cEs n c es=some ir→∀e∈es,isStar e=false
 | 0,_,_,h=>by simp [cEs]at h
 |n+1,[],_,_=>by simp
 |n+1,e::es,ir,h=>by
  simp only [cEs]at h;cases hs:isStar e with
  |true=>simp [hs]at h
  |false=>
   simp only [hs,Bool.false_eq_true,if_false,Option.bind_eq_bind,Option.bind_eq_some_iff]at h;obtain⟨_,_,r,hr,_⟩:=h;intro x hx;rcases List.mem_cons.mp hx with rfl|hx
   ·exact hs
   ·exact qal hr x hx
theorem qlG{x:Str}{f:Addr}{fr:Bool}{e:Expr}{es:List Expr}{p pos:Pos}{t:TA}(O:XO w g c E X)(C:qeo w g X.prog X.w X.mg X.base X.A X.calm x f fr)(hg:Gl X x)(hd:(x==("__debug__" : Str))=false)(ha:PA X (e::es) t)
  (hs:∀z∈e::es,isStar z=false):PE X (.Call (.Name x p) (e::es) [] pos) (qjE (spF w g x fr) [] E t):=by
 obtain⟨k,fd,ps,hb,h⟩:=C.fn;have he:=qe (es:=es) (env:=X.env) (hs e List.mem_cons_self);have hp:=qeu (env:=X.env) (pos:=pos) fun z hz=>hs z (List.mem_cons_of_mem _ hz)
 rw [←O.K]at hb h;rcases h with ⟨_,F,r⟩|⟨_,F,r⟩
 ·exact qno F r hg C.at_ (by rw [O.K];exact C.kp) hb .nil O.pass ha hd he hp
 ·exact qlP F r hg C.at_ (by rw [O.K];exact C.kp) hb .nil O.pass ha hd he hp
end
end EV
namespace L2
open PySem PySem.Spec PyProof.Rows
theorem Inv.nsKept{X:Cx}{pins:List (Addr×Obj)}{σ:St}{H:Hp}{s s':Shared}(I:Inv X pins σ H s)(hos:s'.os=s.os)(hg:s'.gens=s.gens)
  (k:∀b o,b≠X.env.locals→s.heap.get? b=some o→s'.heap.get? b=some o) (ns:∀m,s.heap.Ns X.env.locals m→s'.heap.Ns X.env.locals m):Inv X pins σ H s':=by
 obtain⟨h',g',d',t',o'⟩:=s';have eo:o'=s.os:=hos;have eg:g'=s.gens:=hg;subst eo eg;obtain⟨m0,n0,_⟩:=id I.loc;obtain⟨oL',es',ep',hoL',_⟩:=ns _ n0;refine I.step (g':=s.gens) (d':=d') (ch:=[]) (fun b hb=>absurd hb (by simp)) (fun b o hL _ _ e _=>k b o hL e) (fun b o hL _ _ e _=>⟨o.slots,k b o hL e⟩) (fun b o _ e n=>n) (fun b o _ e=>?_)
  (fun b xs e=>e) (fun b o u e=>e) (fun b ps e=>⟨#[],by rw [e];simp⟩) ns (fun b u e=>?_) I.bare
 ·by_cases hL:b=X.env.locals
  ·exact⟨oL',by rw [hL];exact hoL'⟩
  ·exact⟨o,k b o hL e⟩
 ·have nl:∀c,(∃u,H c=some u)→c≠X.env.locals:=fun c ⟨u,e⟩ z=>by rw [z,I.free]at e;cases e
  refine(I.hok b u e).stay (fun c v hc q=>k c v (nl c ?_) q) (fun c q=>q) fun c xs q=>q
  rcases hc with z|z
  ·exact⟨u,by rw [z];exact e⟩
  ·exact⟨_,z⟩
section
variable{X:Cx}
noncomputable def qlc(mx:Bool)(ns:List Int)(i:Nat):Prop:=∀(n:Int),ns[i]? = some n→∀(j:Nat) (m:Int),ns[j]? = some m→if mx then m≤n∧(j<i→m<n)else n≤m∧(j<i→n<m)
theorem qmq(hc:X.calm=true)(mx:Bool){pins:List (Addr×Obj)}{s:Shared}{σ:St}{H:Hp}{Q:VK}(I:Inv X pins σ H s){l:Addr}{ps:List Addr}{ns:List Int}(hl:SqL X.K H l (ps.map V.ref))(hn:ns.length=ps.length)(h0:ps≠[])
  (hp:∀(i:Nat) p n,ps[i]? = some p→ns[i]? = some n→∃ys,(SqL X.K H p ys∨SqT X.K H p ys)∧(ys.length:Int)=n)
  (q:∀(i:Nat) p,ps[i]? = some p→qlc mx ns i→Q (.ref p) H) :
  wpAny (model X.prog X.w) X.A (call (.builtin (if mx then "max" else "min")) [.ref l] [(Str.ofString "key",.builtin "len")]) (EP X pins σ Q) X.xe s:=by
 obtain⟨its,rv,pl,hz⟩:=I.list hl;have hits:its.length=ps.length:=by rw [←rv.length,List.length_map]
 obtain⟨m,F⟩:=I.fr;have N:=qmo (g:=X.base) (h:=s.heap) (L:=X.env.locals);have keep:∀(h':Heap),PyProof.Rows.Fr X.base X.env.locals h' m→News X.base X.env.locals h' (qab X.base s.heap X.env.locals)→∀b o,b≠X.env.locals→s.heap.get? b=some o→h'.get? b=some o:=fun h' F' N' b o hb e=>by
  cases qb:X.base.get? b with
  |some ob=>have:=I.bk b ob qb;rw [e]at this;cases this;exact F'.keep b _ qb
  |none=>exact(N' (b,o) (qhM hb qb e)).1
 have notL:∀b o vs n,s.heap.get? b=some o→o.data=.seq vs n→b≠X.env.locals:=fun b o vs n e1 e3 z=>by
  obtain⟨_,⟨oL,es,ep,hoL,hdL,_⟩,_⟩:=I.loc;rw [z,hoL]at e1;cases e1;rw [hdL]at e3;cases e3
 have lst:∀(h':Heap) b vs,PyProof.Rows.Fr X.base X.env.locals h' m→News X.base X.env.locals h' (qab X.base s.heap X.env.locals)→s.heap.IsList b vs→h'.IsList b vs:=fun h' b vs F' N' hh=>by
  obtain⟨o,e1,e2,n,e3⟩:=hh;exact⟨o,keep h' F' N' b o (notL _ _ _ _ e1 e3) e1,e2,n,e3⟩
 have tup:∀(h':Heap) b vs,PyProof.Rows.Fr X.base X.env.locals h' m→News X.base X.env.locals h' (qab X.base s.heap X.env.locals)→s.heap.IsTuple b vs→h'.IsTuple b vs:=fun h' b vs F' N' hh=>by
  obtain⟨o,e1,e2,n,e3⟩:=hh;exact⟨o,keep h' F' N' b o (notL _ _ _ _ e1 e3) e1,e2,n,e3⟩
 have h63:=qcI;have turn:∀(i:Nat) (v:Value),its[i]? = some v→∀(h:Heap) (tk:Nat) (own:List (Addr×Obj)),PyProof.Rows.Fr X.base X.env.locals h m→News X.base X.env.locals h (qab X.base s.heap X.env.locals++own) →
   wpAny (model X.prog X.w) X.A.in1 (call (.builtin "len") [v]) (KskEnd X.base X.env.locals m (qab X.base s.heap X.env.locals++own) (ns.getD i 0) {s with heap:=h,toks:=tk}) (fun _ _=>False) {s with heap:=h,toks:=tk}:=by
  intro i v hv h tk own F' N';have hi:i<ps.length:=by rw [←hits];exact(List.getElem?_eq_some_iff.mp hv).1
  obtain⟨v',hv',rvv⟩:=rv.get (i:=i) (x:=.ref ps[i]) (by simp [hi]);rw [hv]at hv';cases hv';cases rvv;have hni:ns[i]? = some (ns.getD i 0):=by simp [show i<ns.length by lia]
  have N'':News X.base X.env.locals h (qab X.base s.heap X.env.locals):=fun p hp=>N' p (List.mem_append_left _ hp)
  obtain⟨ys,hy,hlen⟩:=hp i ps[i] _ (by simp [hi]) hni;rcases hy with hy|hy
  ·obtain⟨i2,r2,p2,z2⟩:=I.list hy;have e:=r2.length;refine Calls.call_len_list (lst h _ _ F' N'' p2.isList) (by simp only [List.size_toArray]<;>lia) ?_;rw [show ((i2.toArray.size:Nat):Int)=ns.getD i 0 by rw [List.size_toArray,←e];exact hlen];exact .intro F' N' fun p hp=>hp
  ·obtain⟨i2,r2,p2,z2⟩:=I.tuple hy;have e:=r2.length;refine len_tuple (tup h _ _ F' N'' p2) (by simp only [List.size_toArray]<;>lia) ?_;rw [show ((i2.toArray.size:Nat):Int)=ns.getD i 0 by rw [List.size_toArray,←e];exact hlen];exact .intro F' N' fun p hp=>hp
 have hne:0<its.length:=by
  rw [hits];cases ps with
  |nil=>exact absurd rfl h0
  |cons _ _=>simp
 have fin:∀i v h' tk',its[i]? = some v→(∀j,j<its.length→if mx then ns.getD i 0 ≥ ns.getD j 0∧(j<i→ns.getD i 0>ns.getD j 0)else ns.getD i 0≤ns.getD j 0∧(j<i→ns.getD i 0<ns.getD j 0))→PyProof.Rows.Fr X.base X.env.locals h' m→News X.base X.env.locals h' (qab X.base s.heap X.env.locals)→EP X pins σ Q v {s with heap:=h',toks:=tk'}:=by
  intro i v h' tk' hv hb F' N';have hi:i<ps.length:=by rw [←hits];exact(List.getElem?_eq_some_iff.mp hv).1
  obtain⟨v',hv',rvv⟩:=rv.get (i:=i) (x:=.ref ps[i]) (by simp [hi]);rw [hv]at hv';cases hv';cases rvv;refine⟨.ref ps[i],H,I.nsKept (s':={s with heap:=h',toks:=tk'}) rfl rfl (keep h' F' N') (fun m' hm'=>by rw [qnl hm' F.ns];exact F'.ns),rfl,q i _ (by simp [hi]) fun n en j m' em=>?_⟩;have hj:=(List.getElem?_eq_some_iff.mp em).1;have:=hb j (by rw [hits];lia);rw [List.getD_eq_getElem?_getD,List.getD_eq_getElem?_getD,en,em]at this;exact this
 cases mx with
 |true=>exact kmb_max (fun i=>ns.getD i 0) (I.ok.hd hc) F N (fun h' F' N'=>lst h' _ _ F' N' pl.isList) hne turn fun i v h' tk' hv hb F' N'=>fin i v h' tk' hv hb F' N'
 |false=>exact kmb_min (fun i=>ns.getD i 0) (I.ok.hd hc) F N (fun h' F' N'=>lst h' _ _ F' N' pl.isList) hne turn fun i v h' tk' hv hb F' N'=>fin i v h' tk' hv hb F' N'
end
end L2
namespace EV
open PySem PySem.Spec PySem.P PyProof.Rows L2
section
variable{w:W}{g:Gc}{c:Cc}{E:XK}{X:Cx}{a b d f:Expr}{ia ib id' if':EV.E}{pos p2:Pos}{ta tb:T}
theorem qgn{e:Expr}{v:V}{dd:D}(h:PE X e (tC v))(r:∀H,Rep g H dd v):PE X e (tE w g c E (.con dd)):=PE.imp h fun σ H Q ⟨τ,S,se,k⟩=>k v H (qbB.of (qc.refl _) (r _) rfl)
theorem qnb{x:Str}{i:Nat}(O:XO w g c E X)(h:loc c x=some i):PE X (.Name x pos) (tE w g c E (if c.own.contains x then .own i else .var i)):=by
 obtain⟨h1,h2,h3,h4⟩:=zv h;refine PE.imp (qed (i:=i) (by rw [O.N];exact h1) (by unfold Vis;rw [O.nm];exact h2) h3 h4) fun σ H Q ⟨τ,S,se,k⟩=>?_
 have key:∀e,evE w e τ=qaj τ i→fresh c e=false→(esc e=true→c.own.contains x=false)→tR g E H (evE w e τ) (fun d=>∀v H',qbB g c e S H d v H'→Q v H')→qgT i σ H Q:=fun e e1 e2 e3 k=>by
  rw [e1]at k;unfold qaj at k;cases q:τ[i]? with
  |none=>rw [q]at k;exact k.elim
  |some o=>
   cases o with
   |none=>rw [q]at k;exact k.elim
   |some d=>
    rw [q]at k;obtain⟨v,z1,z2,z3⟩:=se.val i d q;exact⟨v,z1,k v H ⟨qc.refl _,z2,fun z=>z3 x h1 (e3 z),fun z=>by rw [e2]at z;cases z⟩⟩
 cases ho:c.own.contains x with
 |true=>rw [ho]at k;exact key (.own i) (by simp [qV,zc,zd,zb,qY,za,ze,zf,qZ,qt,qz,qC,qB,qx,qO,qw,qy,qu,qA,qo,qI,qq,qE,qH,qr,qD,qL,qP,qQ,qF,qN,qG,qM,qJ,qK]) rfl (by intro z;cases z) k
 |false=>rw [ho]at k;exact key (.var i) (by simp [qV,zc,zd,zb,qY,za,ze,zf,qZ,qt,qz,qC,qB,qx,qO,qw,qy,qu,qA,qo,qI,qq,qE,qH,qr,qD,qL,qP,qQ,qF,qN,qG,qM,qJ,qK]) rfl (fun _=>ho) k
theorem qrK{x:Str}(O:XO w g c E X)(h:glob c x=some .val):PE X (.Name x pos) (tE w g c E (.glb x)):=by
 obtain⟨u,v,d,h1,h2,h3,h4⟩:=O.gm h;refine PE.imp (qdu (O.gl h) h1 h2 (qR h).2.2.1) fun σ H Q ⟨τ,S,se,k⟩=>?_
 simp only [qV,zc,zd,zb,qY,za,ze,zf,qZ,qt,qz,qC,qB,qx,qO,qw,qy,qu,qA,qo,qI,qq,qE,qH,qr,qD,qL,qP,qQ,qF,qN,qG,qM,qJ,qK,h3]at k;exact k v H (qbB.of (qc.refl _) (h4 _) rfl)
theorem qsb{x:Str}{fr:Bool}(O:XO w g c E X)(h:glob c x=some (.fn fr)):PE X (.Name x pos) (tE w g c E (.fnv x)):=by
 obtain⟨f,h1,h2⟩:=O.gm h;refine PE.imp (qdu (v:=.ref f) (O.gl h) h2.at_ rfl (qR h).2.2.1) fun σ H Q ⟨τ,S,se,k⟩=>?_
 simp only [qV,zc,zd,zb,qY,za,ze,zf,qZ,qt,qz,qC,qB,qx,qO,qw,qy,qu,qA,qo,qI,qq,qE,qH,qr,qD,qL,qP,qQ,qF,qN,qG,qM,qJ,qK]at k;exact k _ H (qbB.of (qc.refl _) (.fn h1) rfl)
theorem qiE{τ:EV.Env}{e:EV.E}{d:D}(h:isL e=true)(he:evE w e τ=.ok d):qmU d=true:=by
 cases e<;>first|(cases h;done)|skip
 ·simp only [qV,zc,zd,zb,qY,za,ze,zf,qZ,qt,qz,qC,qB,qx,qO,qw,qy,qu,qA,qo,qI,qq,qE,qH,qr,qD,qL,qP,qQ,qF,qN,qG,qM,qJ,qK]at he;cases q:zJ w ‹_› τ with
  |ok ds=>rw [q]at he;cases he;rfl
  |ex z=>rw [q]at he;cases he
  |no=>rw [q]at he;cases he
 ·simp only [qV,zc,zd,zb,qY,za,ze,zf,qZ,qt,qz,qC,qB,qx,qO,qw,qy,qu,qA,qo,qI,qq,qE,qH,qr,qD,qL,qP,qQ,qF,qN,qG,qM,qJ,qK]at he;cases q:evI w ‹_› τ with
  |ok ds=>rw [q]at he;cases he;rfl
  |ex z=>rw [q]at he;cases he
  |no=>rw [q]at he;cases he
 ·simp only [qV,zc,zd,zb,qY,za,ze,zf,qZ,qt,qz,qC,qB,qx,qO,qw,qy,qu,qA,qo,qI,qq,qE,qH,qr,qD,qL,qP,qQ,qF,qN,qG,qM,qJ,qK]at he;cases q:evI w ‹_› τ with
  |ok ds=>
   rw [q]at he;simp only [R.bind_ok]at he;split at he
   ·cases he
   ·generalize zD _ _ _ _=r at he;cases r with
    |ok o=>cases he;rfl
    |ex z=>cases he
    |no=>cases he
  |ex z=>rw [q]at he;cases he
  |no=>rw [q]at he;cases he
theorem qtf(O:XO w g c E X){op:Operator}{o:O2}(ho:o2 op=some o)(ha:PE X a (tE w g c E ia))(hb:PE X b (tE w g c E ib)):PE X (.BinOp a op b pos) (tE w g c E (.op o ia ib)):=
 PE.imp (qro (qpp O.K ho) ha hb) fun σ H Q ⟨τ,S,se,k⟩=>by
  simp only [qV,zc,zd,zb,qY,za,ze,zf,qZ,qt,qz,qC,qB,qx,qO,qw,qy,qu,qA,qo,qI,qq,qE,qH,qr,qD,qL,qP,qQ,qF,qN,qG,qM,qJ,qK]at k;refine qU se k fun da va H1 e1 p1 k1=>qU (se.up p1.same) k1 fun db vb H2 e2 p2 k2=>⟨S,da,db,(se.up (p1.same.trans p2.same)).sub,p1.rb.mono p2.same,p2.rb,?_⟩
  cases q:op2 o da db with
  |ok r=>
   rw [q]at k2;exact fun v H' s r f=>k2 v H' ⟨(p1.same.trans p2.same).trans s,.inl r,fun _=>r,fun z=>by
    simp only [fresh,Bool.or_eq_true,Bool.and_eq_true,beq_iff_eq]at z;refine(f ?_).low (p1.same.trans p2.same);rcases z with z|⟨rfl,z⟩
    ·exact qiE z.2 e1
    ·have:=qiE z e2;cases db<;>first|(cases this;done)|skip
     cases da<;>first|rfl|(cases q;done)⟩
  |ex z=>exact qoN q
  |no=>rw [q]at k2;exact k2
theorem qrB(ha:PE X a (tE w g c E ia)):PE X (.UnaryOp .USub a pos) (tE w g c E (.neg ia)):=
 PE.imp (qmW qpR ha) fun σ H Q ⟨τ,S,se,k⟩=>by
  simp only [qV,zc,zd,zb,qY,za,ze,zf,qZ,qt,qz,qC,qB,qx,qO,qw,qy,qu,qA,qo,qI,qq,qE,qH,qr,qD,qL,qP,qQ,qF,qN,qG,qM,qJ,qK]at k;refine qU se k fun da va H1 e1 p1 k1=>?_
  cases da with
  |int i=>exact⟨i,p1.rb.int,k1 _ _ (qbB.of p1.same (.int _) rfl)⟩
  |_=>exact k1.elim
theorem qri(O:XO w g c E X){o:Expr}{m:Str}{ap cp:Pos}{as:List Expr}{e:EV.E}(h:cMt c o m ap as cp=some e):PE X (.Call (.Attribute o m ap) as [] cp) (tE w g c E e):=by cases h
theorem qnA{o:Expr}{m:Str}(h:baseOk o=true):attributeBase o m X.env (eval o X.env)=eval o X.env:=by
 unfold baseOk at h;split at h
 ·rfl
 ·rfl
 ·cases h
theorem qsf(O:XO w g c E X){o:Expr}{ap cp:Pos}(hb:baseOk o=true)(ho:PE X o (tE w g c E ia))(ha:PE X a (tE w g c E ib))(hs:isStar a=false)(hl:(ap.endLine==cp.line)=true) :
  PE X (.Call (.Attribute o "count" ap) [a] [] cp) (tE w g c E (.cnt ia ib)):=by
 have hst:=qe (es:=[]) (env:=X.env) hs;refine PE.imp (qmK (X:=X) (apos:=ap) (cpos:=cp) PySem.F.plainAttrs_list PySem.F.slot_list_count (by rfl) (qqa O.K O.units) ho (zi ha zI hst) (qnA hb) (by rw [hst];rfl) hl hst rfl) fun σ H Q ⟨τ,S,se,k⟩=>?_
 simp only [qV,zc,zd,zb,qY,za,ze,zf,qZ,qt,qz,qC,qB,qx,qO,qw,qy,qu,qA,qo,qI,qq,qE,qH,qr,qD,qL,qP,qQ,qF,qN,qG,qM,qJ,qK]at k;refine qU se k fun da va H1 e1 p1 k1=>?_
 cases hda:da with
 |lst xs=>
  subst hda;obtain⟨a,vs,rfl,h1,h2⟩:=p1.rb.lst;refine⟨.inl ⟨rfl,_,by rw [O.K];exact h1⟩,?_⟩;refine qU (se.up p1.same) k1 fun db vb H2 e2 p2 k2=>?_
  simp only [qmw]at k2;by_cases hq:(db.asks&&xs.all D.asks)=true
  ·rw [if_pos hq]at k2;simp only [Bool.and_eq_true]at hq;exact⟨S,xs,db,vb,rfl,p1.rb.mono p2.same,p2.rb,hq.1,hq.2,k2 _ _ (qbB.of (p1.same.trans p2.same) (.int _) rfl)⟩
  ·rw [if_neg hq]at k2;exact k2.elim
 |_=>subst hda;exact k1.elim
theorem qrQ(ha:PE X a (tE w g c E ia)):PE X (.UnaryOp .Invert a pos) (tE w g c E (.inv ia)):=
 PE.imp (qmW qqm ha) fun σ H Q ⟨τ,S,se,k⟩=>by
  simp only [qV,zc,zd,zb,qY,za,ze,zf,qZ,qt,qz,qC,qB,qx,qO,qw,qy,qu,qA,qo,qI,qq,qE,qH,qr,qD,qL,qP,qQ,qF,qN,qG,qM,qJ,qK]at k;refine qU se k fun da va H1 e1 p1 k1=>?_
  cases da with
  |int i=>exact⟨i,p1.rb.int,k1 _ _ (qbB.of p1.same (.int _) rfl)⟩
  |_=>exact k1.elim
theorem qsa(ha:PE X a (tE w g c E ia)):PE X (.UnaryOp .Not a pos) (tE w g c E (.not ia)):=
 PE.imp (qqU ha) fun σ H Q ⟨τ,S,se,k⟩=>by
  simp only [qV,zc,zd,zb,qY,za,ze,zf,qZ,qt,qz,qC,qB,qx,qO,qw,qy,qu,qA,qo,qI,qq,qE,qH,qr,qD,qL,qP,qQ,qF,qN,qG,qM,qJ,qK]at k;refine qU se k fun da va H1 e1 p1 k1=>?_
  cases da with
  |bl i=>exact⟨i,p1.rb.bl,k1 _ _ (qbB.of p1.same (.bl _) rfl)⟩
  |_=>exact k1.elim
theorem qbB.pass{e e':EV.E}{S:Sh}{H H1 H':Hp}{dd:D}{v:V}(s:qc H H1)(p:qbB g c e S H1 dd v H')(h:esc e=true)(f:fresh c e'=false):qbB g c e' S H dd v H':=qbB.of (s.trans p.same) (p.st h) f
theorem qrs{rest:List Expr}{ir:EV.E}(ha:PE X a (tE w g c E ia))(hb:PE X (.BoolOp .And (b::rest) pos) (tE w g c E ir))(he:esc ir=true):PE X (.BoolOp .And (a::b::rest) pos) (tE w g c E (.and ia ir)):=
 PE.imp (qpe ha hb) fun σ H Q ⟨τ,S,se,k⟩=>by
  simp only [qV,zc,zd,zb,qY,za,ze,zf,qZ,qt,qz,qC,qB,qx,qO,qw,qy,qu,qA,qo,qI,qq,qE,qH,qr,qD,qL,qP,qQ,qF,qN,qG,qM,qJ,qK]at k;refine qU se k fun da va H1 e1 p1 k1=>?_
  cases da with
  |bl i=>
   refine⟨i,p1.rb.bl,?_⟩;cases i with
   |true=>
    refine⟨τ,S,se.up p1.same,tR.imp k1 fun d hk v H' p=>hk v H' (p.pass p1.same he rfl)⟩
   |false=>exact k1 _ _ (qbB.of p1.same (.bl _) rfl)
  |_=>exact k1.elim
theorem qsv{rest:List Expr}{ir:EV.E}(ha:PE X a (tE w g c E ia))(hb:PE X (.BoolOp .Or (b::rest) pos) (tE w g c E ir))(he:esc ir=true):PE X (.BoolOp .Or (a::b::rest) pos) (tE w g c E (.or ia ir)):=
 PE.imp (qrb ha hb) fun σ H Q ⟨τ,S,se,k⟩=>by
  simp only [qV,zc,zd,zb,qY,za,ze,zf,qZ,qt,qz,qC,qB,qx,qO,qw,qy,qu,qA,qo,qI,qq,qE,qH,qr,qD,qL,qP,qQ,qF,qN,qG,qM,qJ,qK]at k;refine qU se k fun da va H1 e1 p1 k1=>?_
  cases da with
  |bl i=>
   refine⟨i,p1.rb.bl,?_⟩;cases i with
   |false=>
    refine⟨τ,S,se.up p1.same,tR.imp k1 fun d hk v H' p=>hk v H' (p.pass p1.same he rfl)⟩
   |true=>exact k1 _ _ (qbB.of p1.same (.bl _) rfl)
  |_=>exact k1.elim
theorem qaq{op:CmpOp}{b:Expr}(h:zg b=true):behindInMarks op b=false:=by cases b<;>first|rfl|(simp [zg]at h)
theorem qan{o:C2}{S:Sh}{H:Hp}{da db:D}{va vb:V}{r:R Bool}{P:Bool→Prop}{Q:VK}(ra:zu g H S da va)(rb:zu g H S db vb)(q:tR g E H (qh o da db) P)(k:∀z,qh o da db=.ok z→P z→Q (.bl z) H):rCm g o va vb H Q:=by
 refine⟨S,da,db,ra,rb,?_⟩;cases e:qh o da db with
 |ok z=>rw [e]at q;exact k z e q
 |ex z=>exact qob e
 |no=>rw [e]at q;exact q
theorem tR.bnd{α β:Type}{H:Hp}{r:R α}{f:α→R β}{P:β→Prop}(h:tR g E H (r.bind f) P):tR g E H r fun a=>tR g E H (f a) P:=by
 cases r with
 |ok a=>exact h
 |ex z=>exact h
 |no=>exact h
theorem qrw(O:XO w g c E X){op:CmpOp}(ha:PE X a (tE w g c E ia))(hb:PE X b (tE w g c E ib))(hs:zg b=true):PE X (.Compare a [op] [b] pos) (tE w g c E (.cmp (c2 op) ia ib)):=
 PE.imp (qoy (qam O.K O.units op) ha hb (qaq hs)) fun σ H Q ⟨τ,S,se,k⟩=>by
  simp only [qV,zc,zd,zb,qY,za,ze,zf,qZ,qt,qz,qC,qB,qx,qO,qw,qy,qu,qA,qo,qI,qq,qE,qH,qr,qD,qL,qP,qQ,qF,qN,qG,qM,qJ,qK]at k;refine qU se k fun da va H1 e1 p1 k1=>qU (se.up p1.same) k1 fun db vb H2 e2 p2 k2=>?_
  exact qan (r:=.no) (p1.rb.mono p2.same) p2.rb (tR.bnd k2) fun z _ q=>q _ _ (qbB.of (p1.same.trans p2.same) (.bl _) rfl)
theorem qoT(O:XO w g c E X){op:CmpOp}(ha:PE X a (tE w g c E ia))(hb:PE X b (tE w g c E ib))(hs:zg b=true):PT X (.Compare a [op] [b] pos) (tT w g c E (.cmp (c2 op) ia ib)):=
 PT.imp (qnc (qam O.K O.units op) ha hb (qaq hs)) fun σ H Q ⟨τ,S,se,k⟩=>by
  simp only [qcl,qcf,qck,qcj,qcg,qce,qcp]at k;refine qU se k fun da va H1 e1 p1 k1=>qU (se.up p1.same) k1 fun db vb H2 e2 p2 k2=>?_
  exact qan (r:=.no) (p1.rb.mono p2.same) p2.rb k2 fun z _ q=>⟨z,rfl,q _ (p1.same.trans p2.same)⟩
theorem qqg(O:XO w g c E X){op op':CmpOp}(ha:PE X a (tE w g c E ia))(hb:PE X b (tE w g c E ib))(hd:PE X d (tE w g c E id'))(hs':zg d=true):PE X (.Compare a [op,op'] [b,d] pos) (tE w g c E (.cmp2 (c2 op) (c2 op') ia ib id')):=
 PE.imp (qmz (qam O.K O.units op) (qam O.K O.units op') ha hb hd (qaq hs')) fun σ H Q ⟨τ,S,se,k⟩=>by
  simp only [qV,zc,zd,zb,qY,za,ze,zf,qZ,qt,qz,qC,qB,qx,qO,qw,qy,qu,qA,qo,qI,qq,qE,qH,qr,qD,qL,qP,qQ,qF,qN,qG,qM,qJ,qK]at k;refine qU se k fun da va H1 e1 p1 k1=>qU (se.up p1.same) k1 fun db vb H2 e2 p2 k2=>?_
  have s2:=p1.same.trans p2.same;refine qan (r:=.no) (p1.rb.mono p2.same) p2.rb (tR.bnd k2) fun z _ q=>⟨z,rfl,?_⟩
  cases z with
  |true=>
   exact qU (se.up s2) q fun dd vd H3 e3 p3 k3=>qan (r:=.no) (p2.rb.mono p3.same) p3.rb (tR.bnd k3) fun z _ q=>q _ _ (qbB.of (s2.trans p3.same) (.bl _) rfl)
  |false=>exact q _ _ (qbB.of s2 (.bl _) rfl)
theorem qox(O:XO w g c E X){op op':CmpOp}(ha:PE X a (tE w g c E ia))(hb:PE X b (tE w g c E ib))(hd:PE X d (tE w g c E id'))(hs':zg d=true):PT X (.Compare a [op,op'] [b,d] pos) (tT w g c E (.cmp2 (c2 op) (c2 op') ia ib id')):=
 PT.imp (qlp (qam O.K O.units op) (qam O.K O.units op') ha hb hd (qaq hs')) fun σ H Q ⟨τ,S,se,k⟩=>by
  simp only [qcl,qcf,qck,qcj,qcg,qce,qcp]at k;refine qU se k fun da va H1 e1 p1 k1=>qU (se.up p1.same) k1 fun db vb H2 e2 p2 k2=>?_
  have s2:=p1.same.trans p2.same;refine qan (r:=.no) (p1.rb.mono p2.same) p2.rb (tR.bnd k2) fun z _ q=>⟨z,rfl,?_⟩
  cases z with
  |true=>
   exact qU (se.up s2) q fun dd vd H3 e3 p3 k3=>qan (r:=.no) (p2.rb.mono p3.same) p3.rb k3 fun z _ q=>⟨z,rfl,q _ (s2.trans p3.same)⟩
  |false=>exact⟨false,rfl,q _ s2⟩
theorem qqz(O:XO w g c E X){op op' op'':CmpOp}(ha:PE X a (tE w g c E ia))(hb:PE X b (tE w g c E ib))(hd:PE X d (tE w g c E id'))(hf:PE X f (tE w g c E if'))(hs':zg f=true):PE X (.Compare a [op,op',op''] [b,d,f] pos) (tE w g c E (.cmp3 (c2 op) (c2 op') (c2 op'') ia ib id' if')):=
 PE.imp (qjY (qam O.K O.units op) (qam O.K O.units op') (qam O.K O.units op'') ha hb hd hf (qaq hs')) fun σ H Q ⟨τ,S,se,k⟩=>by
  simp only [qV,zc,zd,zb,qY,za,ze,zf,qZ,qt,qz,qC,qB,qx,qO,qw,qy,qu,qA,qo,qI,qq,qE,qH,qr,qD,qL,qP,qQ,qF,qN,qG,qM,qJ,qK]at k;refine qU se k fun da va H1 e1 p1 k1=>qU (se.up p1.same) k1 fun db vb H2 e2 p2 k2=>?_
  have s2:=p1.same.trans p2.same;refine qan (r:=.no) (p1.rb.mono p2.same) p2.rb (tR.bnd k2) fun z _ q=>⟨z,rfl,?_⟩
  cases z with
  |true=>
   refine qU (se.up s2) q fun dd vd H3 e3 p3 k3=>qan (r:=.no) (p2.rb.mono p3.same) p3.rb (tR.bnd k3) fun z _ q=>⟨z,rfl,?_⟩
   have s3:=s2.trans p3.same;cases z with
   |true=>exact qU (se.up s3) q fun df vf H4 e4 p4 k4=>qan (r:=.no) (p3.rb.mono p4.same) p4.rb (tR.bnd k4) fun z _ q=>q _ _ (qbB.of (s3.trans p4.same) (.bl _) rfl)
   |false=>exact q _ _ (qbB.of s3 (.bl _) rfl)
  |false=>exact q _ _ (qbB.of s2 (.bl _) rfl)
theorem qlk{a b c d:Expr}{ta tb tc td:TE}{pos:Pos}{op op' op'':CmpOp}{r r' r'':R2}(ho:OpR X (compareOp op) r)(ho':OpR X (compareOp op') r')(ho'':OpR X (compareOp op'') r'')(ha:PE X a ta)(hb:PE X b tb)(hc:PE X c tc)(hd:PE X d td)
  (hm:lastMarks [op,op',op''] [b,c,d]=false):PT X (.Compare a [op,op',op''] [b,c,d] pos) (qjt (qii r r' r'' ta tb tc td)):=by
 intro pins s σ H Q I h;refine isTrue_chain (thn (ha pins s σ H _ I h) fun v s1 ⟨x,H1,I1,r1,q1⟩=>test_link (thn (hb pins s1 σ H1 _ I1 q1) fun u s2 ⟨y,H2,I2,r2,q2⟩=>
  thn (ho pins s2 σ H2 x y v u _ I2 r1 r2 q2) fun d s3 ⟨z,H3,I3,r3,k,e,q3⟩=>?_)) hm
 subst e;cases r3;refine wpAny_truthy_bool ?_;cases k with
 |false=>
  obtain⟨k',e',q'⟩:=q3;cases e';exact ite_ff ⟨H3,I3,q'⟩
 |true=>
  refine ite_tt (test_link (thn (hc pins s3 σ H3 _ I3 q3) fun w' s4 ⟨z',H4,I4,r4,q4⟩=>thn (ho' pins s4 σ H4 y z' u w' _ I4 r2 r4 q4) fun d' s5 ⟨z2,H5,I5,r5,k2,e2,q5⟩=>?_));subst e2;cases r5;refine wpAny_truthy_bool ?_;cases k2 with
  |false=>
   obtain⟨k',e',q'⟩:=q5;cases e';exact ite_ff ⟨H5,I5,q'⟩
  |true=>
   refine ite_tt (test_last (thn (hd pins s5 σ H5 _ I5 q5) fun w'' s6 ⟨z3,H6,I6,r6,q6⟩=>thn (ho'' pins s6 σ H6 z' z3 w' w'' _ I6 r4 r6 q6) fun d'' s7 ⟨z4,H7,I7,r7,k4,e4,q7⟩=>?_));subst e4;cases r7;exact wpAny_truthy_bool ⟨H7,I7,q7⟩
theorem R.bind_assoc{α β γ:Type}(r:R α)(f:α→R β)(h:β→R γ):(r.bind f).bind h=r.bind fun a=>(f a).bind h:=by cases r<;>rfl
theorem qou(O:XO w g c E X){op op' op'':CmpOp}(ha:PE X a (tE w g c E ia))(hb:PE X b (tE w g c E ib))(hd:PE X d (tE w g c E id'))(hf:PE X f (tE w g c E if'))(hs':zg f=true):PT X (.Compare a [op,op',op''] [b,d,f] pos) (tT w g c E (.val (.cmp3 (c2 op) (c2 op') (c2 op'') ia ib id' if'))):=
 PT.imp (qlk (qam O.K O.units op) (qam O.K O.units op') (qam O.K O.units op'') ha hb hd hf (qaq hs')) fun σ H Q ⟨τ,S,se,k⟩=>by
  simp only [qcl,qcf,qck,qcj,qcg,qce,qcp,qV,zc,zd,zb,qY,za,ze,zf,qZ,qt,qz,qC,qB,qx,qO,qw,qy,qu,qA,qo,qI,qq,qE,qH,qr,qD,qL,qP,qQ,qF,qN,qG,qM,qJ,qK,R.bind_assoc]at k;refine qU se k fun da va H1 e1 p1 k1=>qU (se.up p1.same) k1 fun db vb H2 e2 p2 k2=>?_
  have s2:=p1.same.trans p2.same;refine qan (r:=.no) (p1.rb.mono p2.same) p2.rb (tR.bnd k2) fun z _ q=>⟨z,rfl,?_⟩
  cases z with
  |true=>
   simp only [if_true,R.bind_assoc]at q;refine qU (se.up s2) q fun dd vd H3 e3 p3 k3=>qan (r:=.no) (p2.rb.mono p3.same) p3.rb (tR.bnd k3) fun z _ q=>⟨z,rfl,?_⟩
   have s3:=s2.trans p3.same;cases z with
   |true=>
    simp only [if_true,R.bind_assoc]at q;exact qU (se.up s3) q fun df vf H4 e4 p4 k4=>qan (r:=.no) (p3.rb.mono p4.same) p4.rb (tR.bnd k4) fun z _ q=>⟨z,rfl,q _ (s3.trans p4.same)⟩
   |false=>exact⟨false,rfl,q _ s3⟩
  |false=>exact⟨false,rfl,q _ s2⟩
theorem qrZ(ht:PT X d (tT w g c E ta))(ha:PE X a (tE w g c E ia))(hb:PE X b (tE w g c E ib))(h1:esc ia=true)(h2:esc ib=true):PE X (.IfExp d a b pos) (tE w g c E (.ite ta ia ib)):=
 PE.imp (qmC ht ha hb) fun σ H Q ⟨τ,S,se,k⟩=>by
  simp only [qV,zc,zd,zb,qY,za,ze,zf,qZ,qt,qz,qC,qB,qx,qO,qw,qy,qu,qA,qo,qI,qq,qE,qH,qr,qD,qL,qP,qQ,qF,qN,qG,qM,qJ,qK]at k;refine qjp se k fun z H1 e1 s1 k1=>?_
  cases z with
  |true=>exact⟨τ,S,se.up s1,tR.imp k1 fun dd hk v H' p=>hk v H' (p.pass s1 h1 rfl)⟩
  |false=>exact⟨τ,S,se.up s1,tR.imp k1 fun dd hk v H' p=>hk v H' (p.pass s1 h2 rfl)⟩
theorem qoP:PA X [] (tA w g c E .nil):=PA.imp zI fun σ H Q ⟨τ,S,se,k⟩=>k [] H (qc.refl _) .nil fun _=>.nil
theorem qny{es:List Expr}{ies:Es}(ha:PE X a (tE w g c E ia))(hr:PA X es (tA w g c E ies))(hs:isStar a=false):PA X (a::es) (tA w g c E (.cons ia ies)):=
 PA.imp (zi ha hr (qe hs)) fun σ H Q ⟨τ,S,se,k⟩=>by
  simp only [zJ]at k;refine qU se k fun da va H1 e1 p1 k1=>qeL (se.up p1.same) k1 fun ds vs H2 e2 s2 r2 r2' k2=>k2 _ _ (p1.same.trans s2) (.cons (p1.rb.mono s2) r2) fun z=>?_
  simp only [qbr,Bool.and_eq_true]at z;exact .cons ((p1.st z.1).mono (qk s2)) (r2' z.2)
theorem qdP:∀{es:Es}{τ:Env}{ds:List D}{l:List Expr}{n:Nat},cEs n c l=some es→zJ w es τ=.ok ds→ds.length=l.length
 |_,_,_,l,0,h,_=>by simp [cEs]at h
 |es,τ,ds,[],n+1,h,e=>by
  simp only [cEs,Option.some.injEq]at h;subst h;simp only [zJ,R.ok.injEq]at e;subst e;rfl
 |es,τ,ds,x::l,n+1,h,e=>by
  simp only [cEs]at h;cases hs:isStar x with
  |true=>simp [hs]at h
  |false=>
   simp only [hs,Bool.false_eq_true,if_false,Option.bind_eq_bind,Option.bind_eq_some_iff]at h;obtain⟨i1,_,r,hr,h⟩:=h;cases h;simp only [zJ]at e;cases q:evE w i1 τ with
   |ok z=>
    rw [q]at e;simp only [R.bind_ok]at e;cases q2:zJ w r τ with
    |ok zs=>
     rw [q2]at e;cases e;simp [qdP hr q2]
    |ex z=>rw [q2]at e;cases e
    |no=>rw [q2]at e;cases e
   |ex z=>rw [q]at e;cases e
   |no=>rw [q]at e;cases e
theorem qeE{n:Nat}(h:n≤100000):n≤sizeLine:=Nat.le_trans h (by rw [sizeLine_eq];decide)
theorem qrn{es:List Expr}{ies:Es}{k:Nat}(ha:PA X es (tA w g c E ies))(he:qbr ies=true)(hl:∀τ ds,zJ w ies τ=.ok ds→ds.length≤100000):PE X (.Tuple es k pos) (tE w g c E (.tup ies)):=
 PE.imp (qpM ha) fun σ H Q ⟨τ,S,se,k⟩=>by
  simp only [qV,zc,zd,zb,qY,za,ze,zf,qZ,qt,qz,qC,qB,qx,qO,qw,qy,qu,qA,qo,qI,qq,qE,qH,qr,qD,qL,qP,qQ,qF,qN,qG,qM,qJ,qK]at k;refine qeL se k fun ds vs H1 e1 s1 r1 r1' k1=>?_
  have r:=r1' he;exact⟨by rw [←r.length];exact qeE (hl _ _ e1),fun p hp=>k1 _ _ (qbB.of (s1.trans (qW hp)) (qaT (se.sub.same s1) hp r) rfl)⟩
theorem qrp{es:List Expr}{ies:Es}(ha:PA X es (tA w g c E ies))(he:qbr ies=true)(hl:∀τ ds,zJ w ies τ=.ok ds→ds.length≤100000):PE X (.List es pos) (tE w g c E (.lst ies)):=
 PE.imp (qoZ ha) fun σ H Q ⟨τ,S,se,k⟩=>by
  simp only [qV,zc,zd,zb,qY,za,ze,zf,qZ,qt,qz,qC,qB,qx,qO,qw,qy,qu,qA,qo,qI,qq,qE,qH,qr,qD,qL,qP,qQ,qF,qN,qG,qM,qJ,qK]at k;refine qeL se k fun ds vs H1 e1 s1 r1 r1' k1=>?_
  have r:=r1' he;exact⟨by rw [←r.length];exact qeE (hl _ _ e1),fun p hp=>k1 _ _ (qbB.new (s1.trans (qW hp)) (qaU (se.sub.same s1) hp r) (qca s1 hp r))⟩
theorem qjy{b:Expr}(h:isSlice b=false):qiC b:=fun o i=>by cases b<;>first|rfl|(simp [isSlice]at h)
theorem qsn(O:XO w g c E X)(ha:PE X a (tE w g c E ia))(hb:PE X b (tE w g c E ib))(hs:isSlice b=false):PE X (.Subscript a b pos) (tE w g c E (.ix ia ib)):=
 PE.imp (qrl (qpz O.K) ha hb (qjy hs)) fun σ H Q ⟨τ,S,se,k⟩=>by
  simp only [qV,zc,zd,zb,qY,za,ze,zf,qZ,qt,qz,qC,qB,qx,qO,qw,qy,qu,qA,qo,qI,qq,qE,qH,qr,qD,qL,qP,qQ,qF,qN,qG,qM,qJ,qK]at k;refine qU se k fun da va H1 e1 p1 k1=>qU (se.up p1.same) k1 fun db vb H2 e2 p2 k2=>⟨S,da,db,p1.rb.mono p2.same,p2.rb,?_⟩
  cases q:ixD da db with
  |ok r=>rw [q]at k2;exact fun v r=>k2 v H2 (qbB.of (p1.same.trans p2.same) r rfl)
  |ex z=>exact qqT q
  |no=>rw [q]at k2;exact k2
theorem qsD(O:XO w g c E X){lo hi:Option Expr}{il ih:OE}(ha:PE X a (tE w g c E ia))(hl:PO X lo (tOe w g c E il))(hh:PO X hi (tOe w g c E ih)):PE X (.Subscript a (.Slice lo hi none p2) pos) (tE w g c E (.sl ia il ih)):=
 PE.imp (qmr (qqS O.K) ha hl hh) fun σ H Q ⟨τ,S,se,k⟩=>by
  simp only [qV,zc,zd,zb,qY,za,ze,zf,qZ,qt,qz,qC,qB,qx,qO,qw,qy,qu,qA,qo,qI,qq,qE,qH,qr,qD,qL,qP,qQ,qF,qN,qG,qM,qJ,qK]at k;refine qU se k fun da va H1 e1 p1 k1=>qph (se.up p1.same) k1 fun l H2 e2 s2 k2=>qph (se.up (p1.same.trans s2)) k2 fun h H3 e3 s3 k3=>?_
  have s:=(p1.same.trans s2).trans s3;refine⟨S,da,se.sub.same s,p1.rb.mono (s2.trans s3),?_⟩;cases q:slD da l h with
  |ok r=>rw [q]at k3;exact fun v H' s' r=>k3 v H' (qbB.of (s.trans s') r rfl)
  |ex z=>exact qqC q
  |no=>rw [q]at k3;exact k3
theorem qnU:PO X none (tOe w g c E .none):=PO.imp qnn fun σ H Q ⟨τ,S,se,k⟩=>k H (qc.refl _)
theorem qnD(ha:PE X a (tE w g c E ia)):PO X (some a) (tOe w g c E (.some ia)):=PO.imp (qnI ha) fun σ H Q ⟨τ,S,se,k⟩=>by
 simp only [evO]at k;refine qU se k fun da va H1 e1 p1 k1=>?_
 cases da with
 |int i=>exact⟨i,p1.rb.int,k1 _ p1.same⟩
 |_=>exact k1.elim
theorem qql(O:XO w g c E X){x:Str}{fr:Bool}{e:Expr}{es:List Expr}{ies:Es}(h:glob c x=some (.fn fr))(ha:PA X (e::es) (tA w g c E ies))(he:qbr ies=true)(hs:∀z∈e::es,isStar z=false):PE X (.Call (.Name x p2) (e::es) [] pos) (tE w g c E (.call x ies)):=by
 obtain⟨f,h1,h2⟩:=O.gm h;refine PE.imp (qlG O h2 (O.gl h) (qR h).2.2.1 ha hs) fun σ H Q ⟨τ,S,se,k⟩=>?_
 simp only [qV,zc,zd,zb,qY,za,ze,zf,qZ,qt,qz,qC,qB,qx,qO,qw,qy,qu,qA,qo,qI,qq,qE,qH,qr,qD,qL,qP,qQ,qF,qN,qG,qM,qJ,qK]at k;refine qeL se k fun ds vs H1 e1 s1 r1 r1' k1=>⟨S,ds,se.sub.same s1,by rw [List.append_nil];exact r1' he,tR.imp k1 fun dd hk v H' s' r f=>hk v H' ⟨s1.trans s',.inl r,fun _=>r,fun z=>?_⟩⟩
 simp only [fresh,(qR h).2.1,beq_iff_eq,Option.some.injEq,GK.fn.injEq]at z;exact(f z).low s1
theorem qoq(O:XO w g c E X){x:Str}{fr:Bool}{e:Expr}{es:List Expr}{ies:Es}(h:glob c x=some (.fn fr))(ha:PA X (e::es) (tA w g c E ies))(hs:∀z∈e::es,isStar z=false):PE X (.Call (.Name x p2) (e::es) [] pos) (tE w g c E (.callo x ies)):=fun pins s σ H Q I ⟨τ,S,se,kk⟩=>by
 simp only [qV,zc,zd,zb,qY,za,ze,zf,qZ,qt,qz,qC,qB,qx,qO,qw,qy,qu,qA,qo,qI,qq,qE,qH,qr,qD,qL,qP,qQ,qF,qN,qG,qM,qJ,qK]at kk;exact False.elim kk
theorem szl:SZ≤sizeLine:=by rw [sizeLine_eq];decide
theorem qfw{i:Int}(h:qg i=true):i.natAbs.log2<1920:=by
 simp only [qg,Bool.and_eq_true,decide_eq_true_eq]at h;by_cases h0:i.natAbs=0
 ·rw [h0];decide
 ·exact Nat.lt_trans ((Nat.log2_lt h0).mpr (show i.natAbs<2^20 by lia)) (by decide)
theorem qrD{a b:Expr}{ia ib:EV.E}{t0 t1 t2:Str}{k0 k1 k2}{p0 p1 p2 p3 p4 pos:Pos}(h0:(Str.empty++t0).length≤1000)(ha:PE X a (tE w g c E ia))(hb:PE X b (tE w g c E ib)) :
  PE X (.JoinedStr [.Constant (.str t0) k0 p0,.FormattedValue a (-1) none p1,.Constant (.str t1) k1 p2,.FormattedValue b (-1) none p3,.Constant (.str t2) k2 p4] pos) (tE w g c E (.fst2 t0 ia t1 ib t2)):=by
 refine PE.imp (qpy (by rw [sizeLine_eq];lia) ha hb) fun σ H Q ⟨τ,S,se,k⟩=>?_
 simp only [qV,zc,zd,zb,qY,za,ze,zf,qZ,qt,qz,qC,qB,qx,qO,qw,qy,qu,qA,qo,qI,qq,qE,qH,qr,qD,qL,qP,qQ,qF,qN,qG,qM,qJ,qK]at k;refine qU se k fun da va H1 e1 p1 k1=>?_
 cases da with
 |int i=>
  simp only at k1;cases hc:qg i&&decide ((qdL t0 i t1).length≤SZ)with
  |false=>rw [hc]at k1;exact k1.elim
  |true=>
   rw [hc,if_pos rfl]at k1;simp only [Bool.and_eq_true,decide_eq_true_eq]at hc;refine⟨i,by rw [p1.rb.int],⟨qfw hc.1,Nat.le_trans hc.2 szl⟩,qU (se.up p1.same) k1 fun db vb H2 e2 p2 k2=>?_⟩;cases db with
   |int j=>
    simp only at k2;cases hd:qg j&&decide ((qde t0 i t1 j t2).length≤SZ)with
    |false=>rw [hd]at k2;exact k2.elim
    |true=>
     rw [hd,if_pos rfl]at k2;simp only [Bool.and_eq_true,decide_eq_true_eq]at hd;exact⟨j,by rw [p2.rb.int],⟨qfw hd.1,Nat.le_trans hd.2 szl⟩,k2 _ _ (qbB.of (p1.same.trans p2.same) (.str _) rfl)⟩
   |_=>exact k2.elim
 |_=>exact k1.elim
theorem qrh:PE X (.Dict [] [] pos) (tE w g c E .dic):=PE.imp qlY fun σ H Q ⟨τ,S,se,k⟩ p hp=>by
 simp only [qV,zc,zd,zb,qY,za,ze,zf,qZ,qt,qz,qC,qB,qx,qO,qw,qy,qu,qA,qo,qI,qq,qE,qH,qr,qD,qL,qP,qQ,qF,qN,qG,qM,qJ,qK]at k;exact k _ _ (qbB.of (qW hp) (.dic (qfl se.sub hp)) rfl)
theorem qih(O:XO w g c E X)(hc:X.calm=true){fe e:Expr}{fi:EV.E}{es:List Expr}{ies:Es}(hf:PE X fe (tE w g c E fi))(ha:PA X (e::es) (tA w g c E ies))(he:qbr ies=true)(hs:∀z∈e::es,isStar z=false)
  (hq:eval (.Call fe (e::es) [] pos) X.env=(do callWith pos (←eval fe X.env) [] (backTo pos (starEach (e::es) X.env)) (backToKw pos (keywordEach [] X.env)))) :
  PE X (.Call fe (e::es) [] pos) (tE w g c E (.callE fi ies)):=fun pins s σ H Q I ⟨τ,S,se,kk⟩=>by
 simp only [qV,zc,zd,zb,qY,za,ze,zf,qZ,qt,qz,qC,qB,qx,qO,qw,qy,qu,qA,qo,qI,qq,qE,qH,qr,qD,qL,qP,qQ,qF,qN,qG,qM,qJ,qK]at kk;exact False.elim kk
theorem qjW{b:B1}{S:Sh}{H0 H:Hp}{ds:List D}{vs:List V}{Q:VK}{ies:Es}(s:qc H0 H)(hS:Sub S H)(r:qbM g H S ds vs)(k:tR g E H (b1 b ds) fun d=>∀v H',qbB g c (.bi b ies) S H0 d v H'→Q v H'):rB1 g b vs H Q:=by
 refine⟨S,ds,hS,r,?_⟩;cases q:b1 b ds with
 |ok d=>
  rw [q]at k;exact fun v H' s' r' f=>k v H' ⟨s.trans s',.inl r',fun _=>r',fun z=>by
   have:b=.list∨b=.sorted:=by cases b<;>simp [fresh]at z ⊢
   exact(f this).low s⟩
 |ex z=>exact qrE q
 |no=>rw [q]at k;exact k
theorem qsF(O:XO w g c E X){x:Str}{b:B1}{e:Expr}{es:List Expr}{ies:Es}(h:glob c x=some (.bi b))(hc:X.calm=true∨b=.len∨b=.abs)(ha:PA X (e::es) (tA w g c E ies))(hs:∀z∈e::es,isStar z=false):PE X (.Call (.Name x p2) (e::es) [] pos) (tE w g c E (.bi b ies)):=by
 obtain⟨h1,h2,id,h3⟩:=O.gm h;have hb:=qfj b;rw [←h2,h3]at hb;have hcall:=qle (X:=X) (g:=g) O.K O.units b (by rcases hc with z|z|z;exact .inl z;exact .inr (.inl z);exact .inr (.inr (.inl z)));rw [h3]at hcall;refine PE.imp (qgV hcall (O.gl h) h1 hb ha (qR h).2.2.2 (qR h).2.2.1 (qe (hs e List.mem_cons_self)) (qeu fun z hz=>hs z (List.mem_cons_of_mem _ hz))) fun σ H Q ⟨τ,S,se,k⟩=>?_
 simp only [qV,zc,zd,zb,qY,za,ze,zf,qZ,qt,qz,qC,qB,qx,qO,qw,qy,qu,qA,qo,qI,qq,qE,qH,qr,qD,qL,qP,qQ,qF,qN,qG,qM,qJ,qK]at k;exact qeL se k fun ds vs H1 e1 s1 r1 r1' k1=>qjW (ies:=ies) s1 (se.sub.same s1) r1 k1
theorem qi.lens{H:Hp}:∀{ds:List D}{vs:List V}{ns:List Int},qi g H ds vs→lens? ds=some ns→ds.length=ns.length∧∃ps:List Addr,vs=ps.map V.ref∧ns.length=ps.length∧∀(i:Nat) p n,ps[i]? = some p→ns[i]? = some n→∃ys,(SqL g.K H p ys∨SqT g.K H p ys)∧(ys.length:Int)=n
 | [],_,ns,.nil,e=>by simp [lens?]at e;subst e;exact⟨rfl,[],rfl,rfl,fun i a p h=>by simp at h⟩
 |x::r,_,ns,.cons h t,e=>by
  simp only [lens?,Option.map_eq_some_iff,Option.bind_eq_some_iff]at e;obtain⟨xs,e0,ms,e1,rfl⟩:=e;obtain⟨h0,ps,h2,h3,h4⟩:=qi.lens t e1
  rename_i v0 vs0
  have key:∃p ys,v0=V.ref p∧(SqL g.K H p ys∨SqT g.K H p ys)∧(ys.length:Int)=xs.length:=by
   cases x with
   |tup zs=>
    cases e0;cases h with
    |tup q r=>exact⟨_,_,rfl,.inr q,by rw [r.length]⟩
   |lst zs=>
    cases e0;cases h with
    |lst q r=>exact⟨_,_,rfl,.inl q,by rw [r.length]⟩
   |_=>cases e0
  obtain⟨p,ys,rfl,k1,k2⟩:=key;refine⟨by simp [h0],p::ps,by rw [h2];rfl,by simp [h3],fun i b n hb hn=>?_⟩;cases i with
  |zero=>simp at hb hn;subst hb hn;exact⟨ys,k1,k2⟩
  |succ i=>exact h4 i b n (by simpa using hb) (by simpa using hn)
theorem qil(n:Int):∀(ds:List D) (ns:List Int) (i:Nat),ds.length=ns.length→ns[i]? = some n→(∀(j:Nat) m,j<i→ns[j]? = some m→m≠n)→∃d,ds[i]? = some d∧pickK n ds ns=.ok d
 | [],[],_,_,h,_=>by simp at h
 |d::ds,m::ms,0,_,h,_=>by
  simp at h;exact⟨d,rfl,by rw [pickK,if_pos h]⟩
 |d::ds,m::ms,i+1,e,h,k=>by
  obtain⟨d',h1,h2⟩:=qil n ds ms i (by simpa using e) (by simpa using h) fun j m' hj hm=>k (j+1) m' (by lia) (by simpa using hm)
  exact⟨d',by simpa using h1,by rw [pickK,if_neg (k 0 m (by lia) rfl)];exact h2⟩
theorem qlB{mx:Bool}{ds:List D}{ns:List Int}{i:Nat}{d:D}(hl:ds.length=ns.length)(hi:i<ns.length)(h:qlc mx ns i)(hm:qdR mx (.lst ds)=.ok d)(he:lens? ds=some ns):ds[i]? = some d:=by
 simp only [qdR,qaO,qaA]at hm;rw [he]at hm
 match ns,hi,h,hl,he,hm with
 |a::r,hi,h,hl,he,hm=>
  have hm:pickK (qcq mx a r) ds (a::r)=.ok d:=hm;have e:(a::r)[i]? = some (a::r)[i]:=by simp [hi]
  have hb:(a::r)[i]=qcq mx a r:=qeZ mx a r _ ⟨List.getElem_mem _,fun m hmm=>by
   obtain⟨j,hj,rfl⟩:=List.getElem_of_mem hmm;have:=h _ e j (a::r)[j] (List.getElem?_eq_getElem hj);cases mx<;>exact this.1⟩
  rw [hb]at e;obtain⟨d',h1,h2⟩:=qil _ ds (a::r) i hl e fun j m hj hmj z=>by
   have:=h _ e j m hmj;cases mx
   ·exact absurd (this.2 hj) (by rw [z];exact Int.lt_irrefl _)
   ·exact absurd (this.2 hj) (by rw [z];exact Int.lt_irrefl _)
  rw [h2]at hm;cases hm;exact h1
theorem qow{mx:Bool}{x:D}{z:Str}:qdR mx x≠.ex z:=by
 have pk:∀n ds ns,pickK n ds ns≠.ex z:=by
  intro n ds
  induction ds with
  |nil=>intro ns;exact qbI
  |cons d ds ih=>
   intro ns;cases ns with
   |nil=>exact qbI
   |cons m ms=>
    rw [pickK];split
    ·exact zR
    ·exact ih ms
 refine qbo fun xs=>qao fun ns=>?_
 split
 ·exact qbI
 ·exact pk _ _ _
theorem qmR(O:XO w g c E X)(hc:X.calm=true)(mx:Bool){x y:Str}{p3 kp:Pos}(h:glob c x=some (.bi (if mx then .max else .min)))(hy:glob c y=some (.bi .len))(ha:PE X a (tE w g c E ia))(hs:isStar a=false) :
  PE X (.Call (.Name x p2) [a] [⟨some "key",.Name y p3,kp⟩] pos) (tE w g c E (.mxk mx ia)):=by
 obtain⟨h1,h2,id,h3⟩:=O.gm h;obtain⟨y1,y2,idy,y3⟩:=O.gm hy;have hb:=qfj (if mx then .max else .min);rw [←h2]at hb;have hby:=qfj .len;rw [←y2]at hby;have ev:b1V (if mx then .max else .min)=.builtin (if mx then "max" else "min"):=by cases mx<;>rfl
 rw [ev]at hb;have hst:=qe (es:=[]) (env:=X.env) hs;have hst':backTo pos (starEach [a] X.env)=(false,eval a X.env)::backTo pos (starEach [] X.env):=by rw [hst];rfl
 intro pins s σ H Q I hq;refine wpAny_Call_Name_kw (qbg I (O.gl h) h1 hb ?_ (qR h).2.2.2 (qR h).2.2.1);refine callWith_kw ?_ hst' (by rw [hst'];rfl);obtain⟨τ,S,se,k⟩:=hq;simp only [qV,zc,zd,zb,qY,za,ze,zf,qZ,qt,qz,qC,qB,qx,qO,qw,qy,qu,qA,qo,qI,qq,qE,qH,qr,qD,qL,qP,qQ,qF,qN,qG,qM,qJ,qK]at k;have hA:=zi ha (zI (X:=X)) hst;refine thn (hA pos pins s σ H (fun vs H2=>∃da v,vs=[v]∧zu g H2 S da v∧qc H H2∧tR g E H2 (qdR mx da) fun d=>∀v H',qbB g c (.mxk mx ia) S H d v H'→Q v H') I (qU se k fun da va H1 e1 p1 k1=>⟨da,va,rfl,p1.rb,p1.same,k1⟩)) fun us s1 ⟨vs,H1,I1,r1,da,va,q0,q1,q2,q3⟩=>?_
 subst q0;obtain⟨u,rfl,ru⟩:=r1.one;refine kws_cons (qbg I1 (O.gl hy) y1 hby ?_ (qR hy).2.2.2 (qR hy).2.2.1);refine kws_nil ?_;cases hm:qdR mx da with
 |ex z=>exact absurd hm qow
 |no=>rw [hm]at q3;exact q3.elim
 |ok d=>
  rw [hm]at q3;obtain⟨xs,rfl,hm1⟩:=qbj hm;obtain⟨ns,e,hm2⟩:=qbm hm1;obtain⟨l,vs,rfl,z1,z2⟩:=q1.lst;cases ru;obtain⟨hl,ps,rfl,hn,hp⟩:=z2.lens e;have hne:ps≠[]:=fun z=>by
   subst z;cases ns with
   |nil=>cases hm2
   |cons _ _=>simp at hn
  refine qmq hc mx I1 (by rw [O.K];exact z1) hn hne (fun i p n a1 a2=>?_) fun i p a1 hb=>?_
  ·obtain⟨ys,b1,b2⟩:=hp i p n a1 a2;refine⟨ys,?_,b2⟩;rw [O.K];rcases b1 with b1|b1
   ·exact .inl (zL.seq b1)
   ·exact .inr (zT zL b1)
  ·have hi:i<ns.length:=by rw [hn];exact(List.getElem?_eq_some_iff.mp a1).1
   have hd:=qlB hl hi hb hm e;obtain⟨v',w1,w2⟩:=z2.get hd;rw [List.getElem?_map,a1]at w1;cases w1;exact q3 _ _ (qbB.of q2 w2 rfl)
theorem qsH(O:XO w g c E X){x:Str}{n:String}{b:B1}{e:Expr}{es:List Expr}{ies:Es}(h:glob c x=some (.ty n (some b)))(ha:PA X (e::es) (tA w g c E ies))(hs:∀z∈e::es,isStar z=false):PE X (.Call (.Name x p2) (e::es) [] pos) (tE w g c E (.bi b ies)):=by
 obtain⟨h1,h2,_,h3⟩:=O.gm h;obtain⟨_,h4⟩:=h3 b rfl;have hcall:=qle (X:=X) (g:=g) O.K O.units b (by cases b<;>simp [b1V]at h4 ⊢);rw [h4]at hcall;refine PE.imp (qaQ hcall (O.gl h) h1 h2 ha (qR h).2.2.2 (qR h).2.2.1 (qe (hs e List.mem_cons_self)) (qeu fun z hz=>hs z (List.mem_cons_of_mem _ hz))) fun σ H Q ⟨τ,S,se,k⟩=>?_
 simp only [qV,zc,zd,zb,qY,za,ze,zf,qZ,qt,qz,qC,qB,qx,qO,qw,qy,qu,qA,qo,qI,qq,qE,qH,qr,qD,qL,qP,qQ,qF,qN,qG,qM,qJ,qK]at k;exact qeL se k fun ds vs H1 e1 s1 r1 r1' k1=>qjW (ies:=ies) s1 (se.sub.same s1) r1 k1
end
section
variable{w:W}{g:Gc}{c:Cc}{E:XK}{X:Cx}{a b d f:Expr}{ia ib id' if':EV.E}{pos p2:Pos}{ta tb:T}
noncomputable def qrS(w:W)(g:Gc)(d:D)(vc:V)(bb:Bool):Cl→Prop
 | .ty n=>vc=.ty n∧((n∈["int","bool","str","list","tuple"]∧∃t,tyD d=some t∧bb=qdK t n)∨∃k,d=.exn k∧w.sub k (.ty n)=some bb)
 | .ex x=>∃D k,g.clA x=some D∧vc=.ref D∧d=.exn k∧w.sub k (.ex x)=some bb
noncomputable def clV(g:Gc)(vc:V):Cl→Prop
 | .ty n=>vc=.ty n∧(n∈["int","bool","str","list","tuple"]∨n = "ValueError")
 | .ex x=>∃D,g.clA x=some D∧vc=.ref D
theorem qog(O:XO w g c E X):qT X (.builtin "isinstance") (fun xs H Q=>∃(S:Sh) (d:D) (v:V) (cl:Cl) (vc:V) (bb:Bool),xs=[v,vc]∧zu g H S d v∧qrS w g d vc bb cl∧Q (.bl bb) H):=by
 have k:=(qpk (X:=X) (g:=g) O.K).or (qlO (X:=X));refine qT.imp k fun xs H Q ⟨S,d,v,cl,vc,bb,e,rd,h,q⟩=>?_
 have exn:∀(kk:Str) (cv:Value),d=.exn kk→qlC vc=some cv→(∃C,g.clA kk=some C∧qaz g.K C∧PySem.W.kitOne g.K (.ref C) cv=some bb)→∃x c cv t b,xs=[x,c]∧qlC c=some cv∧TyX X.K H x t∧PySem.W.kitOne X.K t cv=some b∧Q (.bl b) H:=fun kk cv ed hv ⟨C,h1,h2,h3⟩=>by
  subst ed;cases rd.rep with
  | @exn _ a C' z1 z2=>
   rw [h1]at z1;cases z1;exact⟨_,vc,cv,.ref C,bb,e,hv,.inr ⟨a,C,rfl,rfl,z2,by rw [O.K];exact h2⟩,by rw [O.K];exact h3,q⟩
 cases cl with
 |ty n=>
  obtain⟨rfl,⟨hn,t,ht,rfl⟩|⟨kk,rfl,hk⟩⟩:=h
  ·exact .inl ⟨S,d,v,n,t,e,rd,ht,hn,q⟩
  ·obtain⟨C,cv,z1,z2,z3,z4,z5⟩:=O.sub kk (.ty n) bb hk;exact .inr (exn kk (.type n) rfl rfl ⟨C,z1,z2,z5▸z3⟩)
 |ex x=>
  obtain⟨D,kk,h1,rfl,rfl,hk⟩:=h;obtain⟨C,cv,z1,z2,z3,D',z4,z5⟩:=O.sub kk (.ex x) bb hk;rw [h1]at z4;cases z4;exact .inr (exn kk (.ref D) rfl rfl ⟨C,z1,z2,z5▸z3⟩)
theorem qpL{x:D}{cl:Cl}:(∃t n,tyD x=some t∧cl=.ty n∧n≠"ValueError"∧qbd w x cl=.ok (.bl (qdK t n)))∨(∃k b,x=.exn k∧w.sub k cl=some b∧qbd w x cl=.ok (.bl b))∨qbd w x cl=.no:=by
 unfold qbd;cases e:tyD x with
 |some t=>
  cases cl with
  |ty n=>
   by_cases hn:n = "ValueError"
   ·exact .inr (.inr (by simp [hn]))
   ·exact .inl ⟨t,n,rfl,rfl,hn,by simp [hn]⟩
  |ex y=>exact .inr (.inr rfl)
 |none=>
  cases x with
  |exn k=>
   cases q:w.sub k cl with
   |none=>exact .inr (.inr (by simp [q]))
   |some b=>exact .inr (.inl ⟨k,b,rfl,q,by simp [q]⟩)
  |fn y=>exact .inr (.inr (by cases cl<;>rfl))
  |_=>cases e
theorem qrr(O:XO w g c E X){x:Str}{k:Expr}{cl:Cl}(h:glob c x=some .isi)(ha:PE X a (tE w g c E ia))(hk:qjO c k=some cl)(hs:isStar a=false):PE X (.Call (.Name x p2) [a,k] [] pos) (tE w g c E (.isi ia cl)):=by
 obtain⟨h1,rfl⟩:=O.gm h;obtain⟨y,q,rfl⟩:∃y q,k=.Name y q:=by
  cases k<;>first|exact⟨_,_,rfl⟩|(simp [qjO]at hk)
 obtain⟨vc,hv,hc⟩:∃vc,PE X (.Name y q) (tC vc)∧clV g vc cl:=by
  simp only [qjO]at hk;split at hk
  ·rename_i n b e
   cases hk;obtain⟨z1,z2,z3,_⟩:=O.gm e;exact⟨.ty n,qov (O.gl e) z1 z2 rfl (qR e).2.2.2 (qR e).2.2.1,rfl,z3⟩
  ·rename_i e
   cases hk;obtain⟨C,z1,z2⟩:=O.gm e;exact⟨.ref C,qdu (O.gl e) z1 rfl (qR e).2.2.1,C,z2,rfl⟩
  ·rename_i e
   cases hk;obtain⟨C,z1,z2⟩:=O.gm e;exact⟨.ref C,qdu (O.gl e) z1 rfl (qR e).2.2.1,C,z2,rfl⟩
  ·cases hk
 refine PE.imp (qgV (qog O) (O.gl h) h1 (by decide +kernel) (zi ha (zi hv zI) (qe hs)) (by decide) (by decide) (qe hs) rfl) fun σ H Q ⟨τ,S,se,k⟩=>?_
 simp only [qV,zc,zd,zb,qY,za,ze,zf,qZ,qt,qz,qC,qB,qx,qO,qw,qy,qu,qA,qo,qI,qq,qE,qH,qr,qD,qL,qP,qQ,qF,qN,qG,qM,qJ,qK]at k;refine qU se k fun da va H1 e1 p1 k1=>?_
 rcases qpL (w:=w) (x:=da) (cl:=cl)with ⟨t,n,z1,rfl,z2,z3⟩|⟨kk,bb,rfl,z2,z3⟩|z3
 ·rw [z3]at k1;obtain⟨rfl,hc|hc⟩:=hc
  ·exact⟨S,da,va,.ty n,.ty n,_,rfl,p1.rb,⟨rfl,.inl ⟨hc,t,z1,rfl⟩⟩,k1 _ _ (qbB.of p1.same (.bl _) rfl)⟩
  ·exact absurd hc z2
 ·rw [z3]at k1;refine⟨S,.exn kk,va,cl,vc,bb,rfl,p1.rb,?_,k1 _ _ (qbB.of p1.same (.bl _) rfl)⟩;cases cl with
  |ty n=>exact⟨hc.1,.inr ⟨kk,rfl,z2⟩⟩
  |ex x=>obtain⟨D,z4,z5⟩:=hc;exact⟨D,kk,z4,z5,rfl,z2⟩
 ·rw [z3]at k1;exact k1.elim
theorem qqL(O:XO w g c E X)(ha:PE X a (tE w g c E ia))(he:∀whole,isTrue a X.env whole=(do let v ←whole;standAt a.pos;holding [v] (truthy v))):PT X a (tT w g c E (.val ia)):=
 PT.imp (qlF ha he) fun σ H Q ⟨τ,S,se,k⟩=>by
  simp only [qcl,qcf,qck,qcj,qcg,qce,qcp]at k;refine qU se k fun da va H1 e1 p1 k1=>?_
  cases q:truth da with
  |ok z=>rw [q]at k1;exact⟨z,qnY O.K p1.rb q,k1 _ p1.same⟩
  |ex z=>exact absurd q qlq
  |no=>rw [q]at k1;exact k1.elim
theorem qqX(ha:PT X a (tT w g c E ta)):PT X (.UnaryOp .Not a pos) (tT w g c E (.not ta)):=
 PT.imp (qqP ha) fun σ H Q ⟨τ,S,se,k⟩=>by
  simp only [qcl,qcf,qck,qcj,qcg,qce,qcp]at k;exact qjp se k fun z H1 e1 s1 k1=>k1 _ s1
theorem qpJ{rest:List Expr}(ha:PT X a (tT w g c E ta))(hb:PW X (.BoolOp .And (b::rest) pos) (tT w g c E tb)):PW X (.BoolOp .And (a::b::rest) pos) (tT w g c E (.and ta tb)):=
 PW.imp (qoK ha hb) fun σ H Q ⟨τ,S,se,k⟩=>by
  simp only [qcl,qcf,qck,qcj,qcg,qce,qcp]at k;refine qjp se k fun z H1 e1 s1 k1=>?_
  cases z with
  |true=>exact⟨τ,S,se.up s1,tR.imp k1 fun b hk H' s=>hk H' (s1.trans s)⟩
  |false=>exact k1 _ s1
theorem qrV{rest:List Expr}(ha:PT X a (tT w g c E ta))(hb:PW X (.BoolOp .Or (b::rest) pos) (tT w g c E tb)):PW X (.BoolOp .Or (a::b::rest) pos) (tT w g c E (.or ta tb)):=
 PW.imp (qrx ha hb) fun σ H Q ⟨τ,S,se,k⟩=>by
  simp only [qcl,qcf,qck,qcj,qcg,qce,qcp]at k;refine qjp se k fun z H1 e1 s1 k1=>?_
  cases z with
  |false=>exact⟨τ,S,se.up s1,tR.imp k1 fun b hk H' s=>hk H' (s1.trans s)⟩
  |true=>exact k1 _ s1
theorem PI.or{tg e:Expr}{t t':TI}(h:PI X tg e t)(h':PI X tg e t'):PI X tg e (fun σ H R=>t σ H R∨t' σ H R):=fun pins s σ H R I q=>by
 rcases q with q|q
 ·exact h pins s σ H R I q
 ·exact h' pins s σ H R I q
theorem qfr{K:PySem.W.Frag}{a:Addr}{vs:List V}{ds:List D}{H:Hp}{S:Sh}(hl:SqL K H a vs)(r:qi g (hid H S) ds vs):Goes g (Itl K a) ds H S:=by
 refine⟨fun i hi=>⟨vs,hl,by rw [←r.length];exact hi⟩,fun i d hd=>?_⟩;obtain⟨v,h1,h2⟩:=r.get hd;refine⟨⟨vs,v,hl,h1⟩,fun x H' ⟨e,hx⟩=>?_⟩;subst e;have:=hx vs hl;rw [h1]at this;cases this;exact⟨qc.refl _,h2⟩
theorem qgW{K:PySem.W.Frag}{a:Addr}{vs:List V}{ds:List D}{H:Hp}{S:Sh}(hl:SqT K H a vs)(r:qi g (hid H S) ds vs):Goes g (Itt K a) ds H S:=by
 refine⟨fun i hi=>⟨vs,hl,by rw [←r.length];exact hi⟩,fun i d hd=>?_⟩;obtain⟨v,h1,h2⟩:=r.get hd;refine⟨⟨vs,v,hl,h1⟩,fun x H' ⟨e,hx⟩=>?_⟩;subst e;have:=hx vs hl;rw [h1]at this;cases this;exact⟨qc.refl _,h2⟩
theorem qfP:∀{xs:List D}{k i:Nat}{d:D},(qbE k xs)[i]? = some d→∃x,xs[i]? = some x∧d=.tup [.int ((k+i:Nat):Int),x]
 | [],_,_,_,h=>by simp [qbE]at h
 |x::r,k,0,d,h=>by simp [qbE]at h;exact⟨x,rfl,by rw [←h];rfl⟩
 |x::r,k,i+1,d,h=>by
  simp only [qbE,List.getElem?_cons_succ]at h;obtain⟨y,h1,h2⟩:=qfP h;exact⟨y,by simpa using h1,by rw [h2,show k+1+i=k+(i+1)by lia]⟩
theorem qfJ:∀(xs:List D) (k:Nat),(qbE k xs).length=xs.length
 | [],_=>rfl
 |x::r,k=>by simp [qbE,qfJ r]
theorem qfz{K:PySem.W.Frag}{a:Addr}{vs:List V}{ds:List D}{H:Hp}{S:Sh}(hl:SqL K H a vs)(r:qi g (hid H S) ds vs)(hS:Sub S H):Goes g (Ite K a) (qbE 0 ds) H S:=by
 refine⟨fun i hi=>⟨vs,hl,by rw [←r.length,←qfJ ds 0];exact hi⟩,fun i d hd=>?_⟩;obtain⟨y,h0,rfl⟩:=qfP hd;obtain⟨v,h1,h2⟩:=r.get h0;refine⟨⟨vs,v,hl,h1⟩,fun x H' ⟨p,z,hp,e1,e2,hx⟩=>?_⟩;subst e1 e2;have:=hx vs hl;rw [h1]at this;cases this;refine⟨qW hp,?_⟩;rw [Nat.zero_add];exact qaT hS hp (.cons (.int _) (.cons h2 .nil))
theorem qbK{lo:Int}{n:Nat}{H:Hp}{S:Sh}:Goes g (Itr lo n) (zB lo n) H S:=by
 refine⟨fun i hi=>by show n≤i;simpa [zB]using hi,fun i d hd=>?_⟩;unfold zB at hd;rw [List.getElem?_map]at hd;cases q:(List.range n)[i]? with
 |none=>rw [q]at hd;cases hd
 |some j=>
  rw [q]at hd;cases hd;have hi:=(List.getElem?_eq_some_iff.mp q)
  obtain⟨h1,h2⟩:=hi;simp at h1 h2;subst h2;exact⟨h1,fun x H' ⟨e1,e2⟩=>by subst e1 e2;exact⟨qc.refl _,.int _⟩⟩
theorem qdD{lo st:Int}{n:Nat}{H:Hp}{S:Sh}:Goes g (ItS lo st n) (qcz lo st n) H S:=by
 refine⟨fun i hi=>by show n≤i;simpa [qcz]using hi,fun i d hd=>?_⟩;unfold qcz at hd;rw [List.getElem?_map]at hd;cases q:(List.range n)[i]? with
 |none=>rw [q]at hd;cases hd
 |some j=>
  rw [q]at hd;cases hd;have hi:=(List.getElem?_eq_some_iff.mp q)
  obtain⟨h1,h2⟩:=hi;simp at h1 h2;subst h2;exact⟨h1,fun x H' ⟨e1,e2⟩=>by subst e1 e2;exact⟨qc.refl _,.int _⟩⟩
theorem qoM(O:XO w g c E X){tg:Expr}(ha:PE X a (tE w g c E ia)):PI X tg a (tIt w g c E (.seq ia)):=
 PI.imp (PI.or (qnT ha) (qpi ha)) fun σ H R ⟨τ,S,se,k⟩=>by
  have k0:=k;simp only [evI]at k;cases q:evE w ia τ with
  |ex z=>exact .inl ⟨τ,S,se,by rw [q]at k ⊢;exact k⟩
  |no=>rw [q]at k;exact k.elim
  |ok dd=>
   cases dd with
   |lst ds=>
    refine .inl (qU se k fun da va H1 e1 p1 k1=>?_);rw [q]at e1;cases e1;obtain⟨ad,vs,rfl,h1,r1⟩:=p1.rb.lst;rw [←O.K]at h1;refine⟨ad,rfl,⟨vs,h1⟩,k1 _ H1 p1.same (fun H2 S2 s1 s2 _=>qfr (s1.seq h1) (r1.mono s2)) fun ho H2 S2 s2 _=>?_⟩;have he:esc ia=true:=by
     cases ia<;>first|rfl|(simp [owned]at ho)
    cases p1.st he with
    |lst h2 r2=>exact qfr (by rw [O.K];exact(s2.trans zL).seq h2) (r2.mono s2)
   |tup ds=>
    refine .inr (qU se k fun da va H1 e1 p1 k1=>?_);rw [q]at e1;cases e1;cases p1.rb.strong (by intro _ z;cases z)with
    |tup h2 r2=>
     refine⟨_,rfl,⟨_,by rw [O.K];exact zT zL h2⟩,k1 _ H1 p1.same (fun H2 S2 s1 s2 _=>qgW (by rw [O.K];exact zT (s2.trans zL) h2) (r2.mono s2)) fun ho H2 S2 s2 _=>qgW (by rw [O.K];exact zT (s2.trans zL) h2) (r2.mono s2)⟩
   |_=>rw [q]at k;exact k.elim
theorem zw{j:Int}(h:qg j=true):-1000000≤j∧j≤1000000:=by simpa [qg]using h
theorem qpO(O:XO w g c E X){x:Str}{tg:Expr}(h:glob c x=some .rng)(ha:PE X a (tE w g c E ia))(hs:isStar a=false):PI X tg (.Call (.Name x p2) [a] [] pos) (tIt w g c E (.rng ia)):=by
 obtain⟨h1,rfl⟩:=O.gm h;refine PI.imp (qks (O.gl h) h1 (zi ha zI (qe hs)) (qe hs)) fun σ H R ⟨τ,S,se,k⟩=>?_
 simp only [evI]at k;refine qU se k fun da va H1 e1 p1 k1=>?_
 cases da with
 |int j=>
  simp only at k1;cases q:qg j with
  |true=>
   rw [q,if_pos rfl]at k1;obtain⟨z1,z2⟩:=zw q;exact⟨j,by rw [p1.rb.int],by lia,by lia,k1 _ H1 p1.same (fun _ _ _ _ _=>qbK) fun _ _ _ _ _=>qbK⟩
  |false=>rw [q]at k1;exact k1.elim
 |_=>exact k1.elim
theorem qng(O:XO w g c E X){x:Str}{tg:Expr}(h:glob c x=some .rng)(ha:PE X a (tE w g c E ia))(hb:PE X b (tE w g c E ib))(hs:isStar a=false)(hs':isStar b=false):PI X tg (.Call (.Name x p2) [a,b] [] pos) (tIt w g c E (.rng2 ia ib)):=by
 obtain⟨h1,rfl⟩:=O.gm h;refine PI.imp (qkP (O.gl h) h1 (zi ha (zi hb zI (qe hs')) (qe hs)) (by rw [qe hs,qe hs'];rfl) (qe hs')) fun σ H R ⟨τ,S,se,k⟩=>?_
 simp only [evI]at k;refine qU se k fun da va H1 e1 p1 k1=>qU (se.up p1.same) k1 fun db vb H2 e2 p2 k2=>?_
 cases da with
 |int i=>
  cases db with
  |int j=>
   simp only at k2;cases q:qg i&&qg j with
   |true=>
    rw [q,if_pos rfl]at k2;simp only [Bool.and_eq_true]at q;obtain⟨z1,z2⟩:=zw q.1;obtain⟨z3,z4⟩:=zw q.2;exact⟨i,j,by rw [p1.rb.int,p2.rb.int],⟨by lia,by lia,by lia,by lia⟩,k2 _ H2 (p1.same.trans p2.same) (fun _ _ _ _ _=>qbK) fun _ _ _ _ _=>qbK⟩
   |false=>rw [q]at k2;exact k2.elim
  |_=>exact k2.elim
 |_=>exact k2.elim
theorem qnp(O:XO w g c E X){x:Str}{tg d:Expr}{id:EV.E}(h:glob c x=some .rng)(ha:PE X a (tE w g c E ia))(hb:PE X b (tE w g c E ib))(hd:PE X d (tE w g c E id))(hs:isStar a=false)(hs':isStar b=false)(hs'':isStar d=false):PI X tg (.Call (.Name x p2) [a,b,d] [] pos) (tIt w g c E (.rng3 ia ib id)):=by
 obtain⟨h1,rfl⟩:=O.gm h;refine PI.imp (qkp (O.gl h) h1 (zi ha (zi hb (zi hd zI (qe hs'')) (qe hs')) (qe hs)) (qe hs) (by rw [qe hs',qe hs''];rfl)) fun σ H R ⟨τ,S,se,k⟩=>?_
 simp only [evI]at k;refine qU se k fun da va H1 e1 p1 k1=>qU (se.up p1.same) k1 fun db vb H2 e2 p2 k2=>qU ((se.up p1.same).up p2.same) k2 fun dd vd H3 e3 p3 k3=>?_
 cases da with
 |int i=>
  cases db with
  |int j=>
   cases dd with
   |int l=>
    simp only at k3;cases q:qg i&&qg j&&(decide (0<l)&&qg l)with
    |true=>
     rw [q,if_pos rfl]at k3;simp only [Bool.and_eq_true,decide_eq_true_eq]at q;obtain⟨z1,z2⟩:=zw q.1.1;obtain⟨z3,z4⟩:=zw q.1.2;obtain⟨z5,z6⟩:=zw q.2.2;exact⟨i,j,l,by rw [p1.rb.int,p2.rb.int,p3.rb.int],⟨z1,z2,z3,z4,q.2.1,z6⟩,k3 _ H3 ((p1.same.trans p2.same).trans p3.same) (fun _ _ _ _ _=>qdD) fun _ _ _ _ _=>qdD⟩
    |false=>rw [q]at k3;exact k3.elim
   |_=>exact k3.elim
  |_=>exact k3.elim
 |_=>exact k3.elim
theorem qoh(O:XO w g c E X){x:Str}{es:List Expr}{ek:Nat}{epos:Pos}(h:glob c x=some .enum)(ha:PE X a (tE w g c E ia))(hs:isStar a=false):PI X (.Tuple es ek epos) (.Call (.Name x p2) [a] [] pos) (tIt w g c E (.enum ia)):=by
 obtain⟨h1,rfl⟩:=O.gm h;refine PI.imp (qon (O.gl h) h1 (by decide +kernel) (zi ha zI (qe hs)) (qe hs)) fun σ H R ⟨τ,S,se,k⟩=>?_
 simp only [evI]at k;refine qU se k fun da va H1 e1 p1 k1=>?_
 cases da with
 |lst ds=>
  obtain⟨ad,vs,rfl,h1,r1⟩:=p1.rb.lst;rw [←O.K]at h1;refine⟨ad,rfl,⟨vs,h1⟩,k1 _ H1 p1.same (fun H2 S2 s1 s2 s3=>qfz (s1.seq h1) (r1.mono s2) s3) fun ho H2 S2 s2 s3=>?_⟩;have he:esc ia=true:=by
   cases ia<;>first|rfl|(simp [owned]at ho)
  cases p1.st he with
  |lst h2 r2=>exact qfz (by rw [O.K];exact(s2.trans zL).seq h2) (r2.mono s2) s3
 |_=>exact k1.elim
theorem qqJ(O:XO w g c E X){x:Str}{es:List Expr}{ek:Nat}{epos:Pos}(h:glob c x=some .zip)(ha:PE X a (tE w g c E ia))(hb:PE X b (tE w g c E ib))(hs:isStar a=false)(hs':isStar b=false):PI X (.Tuple es ek epos) (.Call (.Name x p2) [a,b] [] pos) (tIt w g c E (.zip ia ib)):=fun pins s σ H R I ⟨τ,S,se,kk⟩=>by
 simp only [evI]at kk;exact False.elim kk
end
noncomputable def qdn:List Nat→TGs
 | []=>qoE
 |i::is=>qmT (qci i) (qdn is)
noncomputable def gT(K:PySem.W.Frag):Tg→TG
 | .nm i=>qci i
 | .tp is=>qpa K is.length (qdn is)
section
variable{w:W}{g:Gc}{c:Cc}{E:XK}{X:Cx}
theorem zt{x:Str}{i:Nat}(h:zN c x=some i):loc c x=some i∧(c.nm.lookup x=some .local∨(c.nm.lookup x=some .cell∧(c.fnc=true∨c.oc.contains x=true))):=by
 unfold zN at h;split at h
 ·rename_i q;exact⟨h,.inl q⟩
 ·rename_i q
  split at h
  ·rename_i z;exact⟨h,.inr ⟨q,by simpa using z⟩⟩
  ·cases h
 ·cases h
theorem qmM(O:XO w g c E X){x:Str}{i:Nat}{pos:Pos}(h:zN c x=some i):PG X (.Name x pos) (qci i):=by
 obtain⟨h1,h2⟩:=zt h;obtain⟨h3,_⟩:=zv h1;refine qnJ (by rw [O.N];exact O.nd) (by rw [O.N];exact h3) (by unfold L2.Loc;rw [O.nm];rcases h2 with z|z;exact .inl z;exact .inr z.1) ?_;rcases h2 with z|z
 ·exact .inr (by rw [O.nm];exact z)
 ·exact .inl (O.fn x z.2)
theorem qdc:∀{es:List Expr}{xs:List Str},qbQ es=some xs→∃ps:List Pos,es=(xs.zip ps).map (fun p=>Expr.Name p.1 p.2)∧ps.length=xs.length
 | [],xs,h=>by simp [qbQ]at h;subst h;exact⟨[],rfl,rfl⟩
 |e::es,xs,h=>by
  cases e with
  |Name y p=>
   simp only [qbQ,Option.map_eq_some_iff]at h;obtain⟨ys,h1,rfl⟩:=h;obtain⟨ps,h2,h3⟩:=qdc h1;exact⟨p::ps,by rw [h2];rfl,by simp [h3]⟩
  |_=>simp [qbQ]at h
theorem qfL(O:XO w g c E X):∀{xs:List Str}{ps:List Pos}{is:List Nat},ps.length=xs.length→xs.mapM (zN c)=some is →
  PGs X ((xs.zip ps).map fun p=>Expr.Name p.1 p.2) (qdn is)∧(assignEach ((xs.zip ps).map fun p=>Expr.Name p.1 p.2) X.env).length=is.length∧(assignEach ((xs.zip ps).map fun p=>Expr.Name p.1 p.2) X.env).findIdx? (·.1)=none
 | [],ps,is,_,h=>by
  simp at h;subst h;exact⟨qnE,rfl,rfl⟩
 |x::xs,[],_,h,_=>by simp at h
 |x::xs,p::ps,is,hl,h=>by
  simp only [List.mapM_cons,Option.bind_eq_bind,Option.bind_eq_some_iff]at h;obtain⟨i,h1,js,h2,h3⟩:=h;cases h3;obtain⟨r1,r2,r3⟩:=qfL O (xs:=xs) (ps:=ps) (by simpa using hl) h2;refine⟨qmn (qmM O h1) r1 rfl,?_,?_⟩
  ·show (assignEach ((xs.zip ps).map fun p=>Expr.Name p.1 p.2) X.env).length+1=js.length+1;rw [r2]
  ·show List.findIdx? (·.1) ((false,_)::assignEach ((xs.zip ps).map fun p=>Expr.Name p.1 p.2) X.env)=none;rw [List.findIdx?_cons];simp only [Bool.false_eq_true,if_false];rw [r3];rfl
theorem qdH(O:XO w g c E X){e:Expr}{tg:Tg}(h:cTg c e=some tg):PG X e (gT X.K tg):=by
 cases e with
 |Name x p=>
  simp only [cTg]at h;split at h
  ·cases h
  ·simp only [Option.map_eq_some_iff]at h;obtain⟨i,h1,rfl⟩:=h;exact qmM O h1
 |Tuple es k p=>
  simp only [cTg]at h;split at h
  ·rename_i hc
   simp only [Option.bind_eq_bind,Option.bind_eq_some_iff]at h;obtain⟨xs,h1,h⟩:=h;split at h
   ·cases h
   ·simp only [Option.bind_eq_some_iff]at h;obtain⟨is,h2,h⟩:=h;split at h
    ·cases h;obtain⟨ps,rfl,hl⟩:=qdc h1;obtain⟨r1,r2,r3⟩:=qfL O hl h2;exact qpt (O.calm hc) r1 r2 r3
    ·cases h
  ·cases h
 |_=>simp [cTg]at h
noncomputable def qdh(c:Cc):Tg→Prop
 | .nm i=>∀x,c.N[i]? = some x→c.own.contains x=false
 | .tp is=>∀i∈is,∀x,c.N[i]? = some x→c.own.contains x=false
theorem qhm{α β:Type}{f:α→Option β}:∀{xs:List α}{ys:List β},xs.mapM f=some ys→∀y∈ys,∃x∈xs,f x=some y
 | [],ys,h,y,hy=>by simp at h;subst h;simp at hy
 |x::xs,ys,h,y,hy=>by
  simp only [List.mapM_cons,Option.bind_eq_bind,Option.bind_eq_some_iff]at h;obtain⟨z,h1,zs,h2,h3⟩:=h;cases h3;rcases List.mem_cons.mp hy with rfl|hy
  ·exact⟨x,List.mem_cons_self,h1⟩
  ·obtain⟨x',h4,h5⟩:=qhm h2 y hy;exact⟨x',List.mem_cons_of_mem _ h4,h5⟩
theorem qdG{e:Expr}{tg:Tg}(h:cTg c e=some tg):qdh c tg:=by
 have one:∀{x:Str}{i:Nat},c.own.contains x=false→zN c x=some i→∀y,c.N[i]? = some y→c.own.contains y=false:=fun {x i} ho hl y hy=>by
  obtain⟨h3,_⟩:=zv (zt hl).1;rw [h3]at hy;cases hy;exact ho
 cases e with
 |Name x p=>
  simp only [cTg]at h;split at h
  ·cases h
  ·rename_i ho
   simp only [Option.map_eq_some_iff]at h;obtain⟨i,h1,rfl⟩:=h;exact one (by simpa using ho) h1
 |Tuple es k p=>
  simp only [cTg]at h;split at h
  ·simp only [Option.bind_eq_bind,Option.bind_eq_some_iff]at h;obtain⟨xs,h1,h⟩:=h;split at h
   ·cases h
   ·rename_i ho
    simp only [Option.bind_eq_some_iff]at h;obtain⟨is,h2,h⟩:=h;split at h
    ·cases h;intro i hi;obtain⟨x,hx,hl⟩:=qhm h2 i hi;refine one ?_ hl;cases q:c.own.contains x with
     |false=>rfl
     |true=>exact absurd (List.any_eq_true.mpr ⟨x,hx,q⟩) ho
    ·cases h
  ·cases h
 |_=>simp [cTg]at h
section
variable{τ τ':Env}{σ:L2.St}{H:Hp}{S:Sh}
theorem SE.set{i:Nat}{d:D}{v:V}(se:SE g c τ σ H S)(r:Rep g (hid H S) d v):SE g c (τ.set i (some d)) (σ.set i (some v)) H S:=by
 refine⟨by simp [se.len],fun j e h=>?_,se.sub⟩;by_cases hij:i=j
 ·subst hij;by_cases hi:i<τ.length
  ·simp [hi]at h;subst h;have hi':i<σ.length:=by rw [←se.len];exact hi
   exact⟨v,by simp [hi'],.inl r,fun _ _ _=>r⟩
  ·rw [List.set_eq_of_length_le (by lia)]at h;rw [List.getElem?_eq_none (by lia)]at h;cases h
 ·rw [List.getElem?_set_ne hij]at h ⊢;exact se.val j e h
theorem SE.setAll{is:List Nat}:∀{ds:List D}{vs:List V}{τ:Env}{σ:L2.St}{Q:L2.St→Hp→Prop},SE g c τ σ H S→qi g (hid H S) ds vs→setAll is ds τ=.ok τ'→(∀σ',SE g c τ' σ' H S→Q σ' H)→qdn is vs σ H Q:=by
 induction is with
 |nil=>
  intro ds vs τ σ Q se r h k;cases r with
  |nil=>cases (show R.ok τ=R.ok τ' from h);exact⟨rfl,k σ se⟩
  |cons _ _=>cases (show R.no=R.ok τ' from h)
 |cons i is ih=>
  intro ds vs τ σ Q se r h k;cases r with
  |nil=>cases (show R.no=R.ok τ' from h)
  |cons r rs=>exact⟨_,_,rfl,ih (se.set r) rs h k⟩
theorem qdM(O:X.K=g.K){tg:Tg}{d:D}{v:V}{Q:L2.St→Hp→Prop}(se:SE g c τ σ H S)(r:Rep g (hid H S) d v)(h:store tg d τ=.ok τ')(k:∀σ',SE g c τ' σ' H S→Q σ' H):gT X.K tg v σ H Q:=by
 cases tg with
 |nm i=>
  simp only [store,R.ok.injEq]at h;subst h;exact k _ (se.set r)
 |tp is=>
  cases d with
  |tup ds=>
   simp only [store]at h;split at h
   ·rename_i hl
    cases r with
    |tup h1 r1=>exact⟨_,_,rfl,by rw [O];exact zT zL h1,by rw [←r1.length];exact hl,se.setAll r1 h k⟩
   ·cases h
  |_=>simp [store]at h
end
end
abbrev zp(c:Cc)(sc:Scope):Cc:={c with nm:=qep sc.names c.nm,N:=zo sc.names,fnc:=false,oc:=qeX sc.names}
section
variable{w:W}{g:Gc}{c:Cc}{E:XK}{X:Cx}
theorem XO.comp(O:XO w g c E X){sc:Scope}(hk:sc.kind=.function)(hnd:(zo sc.names).Nodup)(cl:List (Str×Addr))(C:Addr)(s₀:Shared)(H₀:Hp)(fp:List Addr):XO w g (zp c sc) E0 (zr X (zo sc.names) sc cl C s₀ H₀ fp) where
 K:=O.K
 nm:=by
  show (relabel sc X.env).names=qep sc.names c.nm;unfold relabel qep;simp only
  congr 1
  funext p;have h1:(X.env.scope.kind==ScopeKind.function)=true:=by rw [O.kind];rfl
  have h2:X.env.kindOf p.1=c.nm.lookup p.1:=by show X.env.scope.names.lookup p.1=_;rw [O.nm]
  obtain⟨n,k⟩:=p;simp only at h2;simp only [h1,h2,Bool.and_true]
 N:=rfl
 nd:=hnd
 calm:=O.calm
 units:=O.units
 fn:=fun x z=>z.elim (fun z=>by cases z) fun z=>z
 kind:=hk
 pass:=qkB rfl rfl
 gok:=O.gok
 fns:=O.fns
 sub:=O.sub
theorem qqs{α:Type}{τ:Env}{σ:L2.St}{H:Hp}{S:Sh}{it:It}{f:List D→R α}{P:α→Prop}{R':L2.It→Hp→Prop}(se:SE g c τ σ H S)(h:tR g E H ((evI w it τ).bind f) P)
  (k:∀ds J H',evI w it τ=.ok ds→qc H H'→(∀H2 S2,qc H' H2→qc (hid H' S) (hid H2 S2)→Sub S2 H2→Goes g J ds H2 S2)→(owned it=false→∀H2 S2,qc (hid H' S) (hid H2 S2)→Sub S2 H2→Goes g J ds H2 S2)→tR g E H' (f ds) P→R' J H'):tIt w g c E it σ H R':=by
 refine⟨τ,S,se,?_⟩;cases q:evI w it τ with
 |ok d=>rw [q]at h;exact fun J H' s k1 k2=>k d J H' q s k1 k2 (tR.up h s)
 |ex x=>rw [q]at h;exact h
 |no=>rw [q]at h;exact h
theorem qin{α:Type}{r:R α}{x:Str}:noEx r≠.ex x:=by cases r<;>intro h<;>cases h
theorem qix{α:Type}{r:R α}{a:α}(h:noEx r=.ok a):r=.ok a:=by cases r<;>first|exact h|cases h
theorem qdT{body:D→Env→R (Env×List D)}(hb:∀d τ x,body d τ≠.ex x):∀{ds:List D}{τ:Env}{acc:List D}{x:Str},zD body ds τ acc≠.ex x
 | [],_,_,_,h=>by cases h
 |d::r,τ,acc,x,h=>by
  simp only [zD]at h;cases q:body d τ with
  |ok p=>rw [q]at h;exact qdT hb h
  |ex y=>exact hb _ _ _ q
  |no=>rw [q]at h;cases h
theorem SE.caps{sc:Scope}{cap:List (Option Nat)}{τ:Env}{σ:L2.St}{H:Hp}{S:Sh}(O:XO w g c E X)(hc:qmX X (zo sc.names) cap sc)(se:SE g c τ σ H S):SE g (zp c sc) (qaN cap τ) (L2.caps cap σ) H S:=by
 refine⟨by simp [qaN,L2.caps],fun i d h=>?_,se.sub⟩;unfold qaN at h;rw [List.getElem?_map]at h;cases q:cap[i]? with
 |none=>rw [q]at h;cases h
 |some o=>
  cases o with
  |none=>rw [q]at h;cases h
  |some j=>
   rw [q]at h;simp only [Option.map_some,Option.bind_some,Option.some.injEq]at h;cases q2:τ[j]? with
   |none=>rw [q2]at h;cases h
   |some z=>
    rw [q2]at h;cases z with
    |none=>cases h
    |some d'=>
     have:d'=d:=by simpa using h
     subst this;obtain⟨v,h1,h2,h3⟩:=se.val j d' q2;refine⟨v,?_,h2,fun x hx ho=>?_⟩
     ·unfold L2.caps;rw [List.getElem?_map,q];simp [h1]
     ·obtain⟨y,e1,e2,_⟩:=hc.2 i j q;have hx':(zo sc.names)[i]? = some x:=hx;rw [e1]at hx';cases hx';exact h3 _ (by rw [←O.N];exact e2) ho
theorem qbq{H:Hp}{S:Sh}{p:Addr}{o:HO}(h:S.h p=true):hid (upd H p o) S=hid H S:=by
 funext b;unfold hid;by_cases hb:b=p
 ·subst hb;rw [if_pos h,if_pos h]
 ·rw [qm hb]
theorem SE.grow{c:Cc}{τ:Env}{σ:L2.St}{H:Hp}{S:Sh}{p:Addr}{o:HO}(se:SE g c τ σ H S)(h:S.h p=true)(ho:S.o p=false):SE g c τ σ (upd H p o) S:=by
 refine⟨se.len,fun i d e=>?_,fun a ha n=>?_⟩
 ·obtain⟨v,h1,h2,h3⟩:=se.val i d e;refine⟨v,h1,?_,fun x hx hy=>by rw [qbq h];exact h3 x hx hy⟩;rcases h2 with h2|⟨a,vs,ds,z1,z2,z3,z4,z5⟩
  ·exact .inl (by rw [qbq h];exact h2)
  ·refine .inr ⟨a,vs,ds,z1,z2,z3,?_,by rw [qbq h];exact z5⟩;rw [qm (fun z=>by rw [z,ho]at z1;cases z1)];exact z4
 ·by_cases hb:a=p
  ·subst hb;rw [zm]at n;cases n
  ·rw [qm hb]at n;exact se.sub a ha n
theorem SE.hide{c:Cc}{τ:Env}{σ:L2.St}{H:Hp}{S:Sh}{p:Addr}{vs:List V}(se:SE g c τ σ H S)(hp:H p=none):SE g c τ σ (upd H p (.lst vs)) (zy S p):=by
 refine⟨se.len,fun i d e=>?_,fun a ha n=>?_⟩
 ·obtain⟨v,h1,h2,h3⟩:=se.val i d e;refine⟨v,h1,?_,fun x hx hy=>(h3 x hx hy).mono (qcL hp)⟩;rcases h2 with h2|⟨a,vs,ds,z1,z2,z3,z4,z5⟩
  ·exact .inl (h2.mono (qcL hp))
  ·exact .inr ⟨a,vs,ds,z1,z2,z3,qW hp _ _ z4,z5.mono (qcL hp)⟩
 ·by_cases hb:a=p
  ·subst hb;rw [zm]at n;cases n
  ·rw [qm hb]at n;refine se.sub a ?_ n;rcases ha with ha|ha
   ·refine .inl ?_;have ha:(S.h a||a==p)=true:=ha
    simpa [hb]using ha
   ·exact .inr ha
theorem qdp(O:XO w g c E X){sc:Scope}{cap:List (Option Nat)}{iit:It}{itg:Tg}{tt:T}{ielt:EV.E}(hS:zz X (zo sc.names) cap sc)(he:esc ielt=true){σ:L2.St}{H:Hp}{Q:VK}(hq:tE w g c E (.comp iit cap itg tt ielt) σ H Q) :
  qgm cap (tIt w g c E iit) (gT X.K itg) (tT w g (zp c sc) E0 tt) (fun acc=>qcM acc (tE w g (zp c sc) E0 ielt)) σ H Q:=by
 obtain⟨τ,S,se,k⟩:=hq;simp only [qV,zc,zd,zb,qY,za,ze,zf,qZ,qt,qz,qC,qB,qx,qO,qw,qy,qu,qA,qo,qI,qq,qE,qH,qr,qD,qL,qP,qQ,qF,qN,qG,qM,qJ,qK]at k;refine qqs se k fun ds J H1 e1 s1 kW _ k1 acc hacc=>?_
 by_cases hz:SZ<ds.length
 ·rw [if_pos hz]at k1;exact k1.elim
 rw [if_neg hz]at k1;generalize hbody:(fun x σ=>noEx ((store itg x σ).bind fun σ'=>(evT w tt σ').bind fun r=>if r=true then (evE w ielt σ').bind fun d=>R.ok (σ',[d])else R.ok (σ',[])))=body at k1;have bex:∀d τ x,body d τ≠.ex x:=fun d τ x=>by rw [←hbody];exact qin
 cases hl:zD body ds (qaN cap τ) []with
 |ex z=>exact absurd hl (qdT bex)
 |no=>rw [hl]at k1;exact k1.elim
 |ok out=>
  rw [hl]at k1;simp only [R.bind_ok]at k1;have k1:∀v H',qbB g c (.comp iit cap itg tt ielt) S H (.lst out) v H'→Q v H':=k1;have sub1:=se.sub.same s1;have hoacc:S.o acc=false:=sub1.freeO hacc;have hhacc:(zy S acc).h acc=true:=by show (S.h acc||acc==acc)=true;simp
  -- what holds between two turns
  refine⟨fun i m σ' H'=>m=ds.length-i∧i≤ds.length∧∃τ' o,zD body (ds.drop i) τ' o=.ok out∧SE g (zp c sc) τ' σ' H' (zy S acc)∧o.length≤i∧qc H1 H'∧∃vs,H' acc=some (.lst vs)∧qi g (hid H' (zy S acc)) o vs,
   ⟨ds.length,rfl,Nat.zero_le _,qaN cap τ,[],hl,(se.up s1).caps O hS.cap |>.hide hacc,Nat.le_refl _,qW hacc,[],zm,.nil⟩,?_⟩
  rintro i m σ' H' ⟨rfl,hi',τ',o,hlo,se',hol,s1',vs,hv,hr⟩;have keep:qc (hid H1 S) (hid H' (zy S acc)):=fun b u hb=>by
   obtain⟨z1,z2⟩:=qsh.mp hb;refine qsh.mpr ⟨?_,s1' _ _ z2⟩;show (S.h b||b==acc)=false;rw [z1]
   simpa using fun z:b=acc=>by rw [z,hacc]at z2;cases z2
  obtain⟨g1,g2⟩:=kW H' (zy S acc) s1' keep se'.sub;by_cases hlt:i<ds.length
  ·have hd:ds[i]? = some ds[i]:=List.getElem?_eq_getElem hlt;obtain⟨go1,go2⟩:=g2 i ds[i] hd;refine .inr ⟨go1,fun σ'' H''=>∃τ' o,zD body (ds.drop (i+1)) τ' o=.ok out∧SE g (zp c sc) τ' σ'' H'' (zy S acc)∧o.length≤i+1∧qc H1 H''∧∃vs,H'' acc=some (.lst vs)∧qi g (hid H'' (zy S acc)) o vs,
    fun σ'' H'' z=>⟨ds.length-(i+1),by lia,rfl,hlt,z⟩,fun x H2 hy=>?_⟩
   obtain⟨s2,rx⟩:=go2 x H2 hy;rw [List.drop_eq_getElem_cons hlt]at hlo;simp only [zD]at hlo;cases q:body ds[i] τ' with
   |ex z=>exact absurd q (bex _ _ _)
   |no=>rw [q]at hlo;cases hlo
   |ok p=>
    rw [q]at hlo;simp only [R.bind_ok]at hlo;rw [←hbody]at q;have q:=qix q;cases q1:store itg ds[i] τ' with
    |ex z=>rw [q1]at q;cases q
    |no=>rw [q1]at q;cases q
    |ok τ1=>
     rw [q1]at q;simp only [R.bind_ok]at q;refine qdM O.K (se'.up s2) rx q1 fun σ1 se1=>?_
     cases q2:evT w tt τ1 with
     |ex z=>rw [q2]at q;cases q
     |no=>rw [q2]at q;cases q
     |ok r=>
      rw [q2]at q;simp only [R.bind_ok]at q;refine⟨τ1,zy S acc,se1,?_⟩;rw [q2];intro H3 s3;have hv3:=s3 _ _ (s2 _ _ hv);have s13:=s1'.trans (s2.trans s3);cases r with
      |false=>
       simp only [Bool.false_eq_true,if_false,R.ok.injEq]at q;subst q;rw [if_neg Bool.false_ne_true];exact⟨τ1,o++[],hlo,se1.up s3,by simp;lia,s13,vs,hv3,by rw [List.append_nil];exact hr.mono (qk (s2.trans s3))⟩
      |true=>
       simp only [if_true]at q;rw [if_pos rfl];cases q3:evE w ielt τ1 with
       |ex z=>rw [q3]at q;cases q
       |no=>rw [q3]at q;cases q
       |ok dd=>
        rw [q3]at q;simp only [R.bind_ok,R.ok.injEq]at q;subst q;refine⟨τ1,zy S acc,se1.up s3,?_⟩;rw [q3];intro v H4 p4;have hv4:=p4.same _ _ hv3;have hr4:=hr.mono (qk ((s2.trans s3).trans p4.same));have hz':vs.length<sizeLine:=by
         rw [←hr.length,sizeLine_eq];have:ds.length≤SZ:=Nat.le_of_not_lt hz;unfold SZ at this;lia
        refine⟨vs,hv4,hz',τ1,o++[dd],hlo,(se1.up (s3.trans p4.same)).grow hhacc hoacc,by simp;lia,fun b u hb=>?_,vs++[v],zm,?_⟩
        ·rw [qm (fun z=>by rw [z,hacc]at hb;cases hb)];exact p4.same _ _ (s13 _ _ hb)
        ·rw [qbq hhacc];exact hr4.append (.cons (p4.st he) .nil)
  ·have e:i=ds.length:=by lia
   subst e;refine .inl ⟨g1 ds.length (Nat.le_refl _),?_⟩;rw [List.drop_length]at hlo;simp only [zD,R.ok.injEq]at hlo;subst hlo;have rep:Rep g (hid H' S) (.lst o) (.ref acc):=.lst (SqL.of (qsh.mpr ⟨sub1.free hacc,hv⟩)) (hr.mono qdm);exact k1 _ _ (qbB.new (s1.trans s1') rep ⟨acc,vs,o,rfl,rfl,s1.free hacc,hv,hr⟩)
theorem qoD(O:XO w g c E X)(hcalm:X.calm=true){sc:Scope}{cap:List (Option Nat)}{tgt it elt:Expr}{ifs:List Expr}{pos:Pos}{iit:It}{itg:Tg}{tt:T}{ielt:EV.E}(hS:zz X (zo sc.names) cap sc)(hnd:(zo sc.names).Nodup)
  (hi:PI X tgt it (tIt w g c E iit)) (hb:∀cl C s₀ H₀ fp,PG (zr X (zo sc.names) sc cl C s₀ H₀ fp) tgt (gT X.K itg)∧PTs (zr X (zo sc.names) sc cl C s₀ H₀ fp) ifs (tT w g (zp c sc) E0 tt)∧PE (zr X (zo sc.names) sc cl C s₀ H₀ fp) elt (tE w g (zp c sc) E0 ielt))
  (he:esc ielt=true) (hs:zg it=true):PE X (.ListComp elt [⟨tgt,it,ifs,0⟩] sc pos) (tE w g c E (.comp iit cap itg tt ielt)):=by
 exact PE.imp (qik (tb:=fun acc=>qcM acc (tE w g (zp c sc) E0 ielt)) hcalm hS hi (fun cl C s₀ H₀ fp=>⟨(hb cl C s₀ H₀ fp).1,(hb cl C s₀ H₀ fp).2.1,fun acc=>qeT rfl (hb cl C s₀ H₀ fp).2.2⟩) (by simp) (fun x=>by cases it<;>first|rfl|(simp [zg]at hs))) fun σ H Q q=>qdp O hS he q
theorem qfA{body:D→Env→R (Env×List D)}(hb:∀d τ p,body d τ=.ok p→p.2.length≤1):∀{ds:List D}{τ:Env}{acc:List D}{p:Env×List D},qaL body ds τ acc=.ok p→p.2.length≤acc.length+ds.length
 | [],_,_,_,h=>by simp only [qaL,R.ok.injEq]at h;subst h;simp
 |d::r,τ,acc,p,h=>by
  simp only [qaL]at h;cases q:body d τ with
  |ok z=>
   rw [q]at h;have h1:=qfA hb h;have h2:=hb _ _ _ q;rw [List.length_append]at h1;rw [List.length_cons];lia
  |ex y=>rw [q]at h;cases h
  |no=>rw [q]at h;cases h
abbrev qcP(w:W)(tg2:Tg)(tt:T)(ie:EV.E):D→Env→R (Env×List D):=fun y ρ=>(store tg2 y ρ).bind fun ρ'=>(evT w tt ρ').bind fun r=>if r=true then (evE w ie ρ').bind fun d=>R.ok (ρ',[d])else R.ok (ρ',[])
theorem qkw{tg2:Tg}{tt:T}{ie:EV.E}:∀d τ p,qcP w tg2 tt ie d τ=.ok p→p.2.length≤1:=fun d τ p h=>by
 unfold qcP at h;cases q:store tg2 d τ with
 |ok ρ=>
  rw [q]at h;simp only [R.bind_ok]at h;cases q2:evT w tt ρ with
  |ok r=>
   rw [q2]at h;simp only [R.bind_ok]at h;cases r with
   |false=>simp only [Bool.false_eq_true,if_false,R.ok.injEq]at h;subst h;simp
   |true=>
    simp only [if_true]at h;cases q3:evE w ie ρ with
    |ok d=>rw [q3]at h;simp only [R.bind_ok,R.ok.injEq]at h;subst h;simp
    |ex=>rw [q3]at h;cases h
    |no=>rw [q3]at h;cases h
  |ex=>rw [q2]at h;cases h
  |no=>rw [q2]at h;cases h
 |ex=>rw [q]at h;cases h
 |no=>rw [q]at h;cases h
theorem qnv(hK:X.K=g.K){cc:Cc}{it2:It}{tg2:Tg}{tt:T}{ie:EV.E}(he:esc ie=true)(hw:owned it2=false){τ τ2:Env}{σ:L2.St}{H H1:Hp}{S:Sh}{acc:Addr}{o out:List D}{vs:List V}{D:Ends}
  (hh:S.h acc=true) (ho:S.o acc=false) (hacc:H1 acc=none) (s1:qc H1 H) (se:SE g cc τ σ H S) (hv:H acc=some (.lst vs)) (hr:qi g (hid H S) o vs) (hn:o.length≤1000000)
  (hq:((evI w it2 τ).bind fun es=>if 1000<es.length then .no else qaL (qcP w tg2 tt ie) es τ [])=.ok (τ2,out))
  (k:∀σ' H' vs',SE g cc τ2 σ' H' S→qc H1 H'→H' acc=some (.lst vs')→qi g (hid H' S) (o++out) vs'→out.length≤1000→D.nx σ' H') :
  qgs (tIt w g cc E0 it2) (gT X.K tg2) (qdg (tT w g cc E0 tt) (qcM acc (tE w g cc E0 ie)) qbL) D σ H:=by
 cases q:evI w it2 τ with
 |ex z=>rw [q]at hq;cases hq
 |no=>rw [q]at hq;cases hq
 |ok es=>
  rw [q]at hq;simp only [R.bind_ok]at hq;by_cases hz:1000<es.length
  ·rw [if_pos hz]at hq;cases hq
  rw [if_neg hz]at hq;have hol:=qfA qkw hq;rw [List.length_nil]at hol;refine⟨τ,S,se,?_⟩;rw [q];intro J H0 s0 _ kO;have kO:=kO hw;have hid0:=qk (S:=S) s0;refine⟨fun i m σ' H'=>m=es.length-i∧i≤es.length∧∃ρ o2,qaL (qcP w tg2 tt ie) (es.drop i) ρ o2=.ok (τ2,out)∧SE g cc ρ σ' H' S∧o2.length≤i∧qc H1 H'∧qc (hid H0 S) (hid H' S)∧∃vs',H' acc=some (.lst vs')∧qi g (hid H' S) (o++o2) vs',
   ⟨es.length,rfl,Nat.zero_le _,τ,[],hq,se.up s0,Nat.le_refl _,s1.trans s0,fun _ _ z=>z,vs,s0 _ _ hv,by rw [List.append_nil];exact hr.mono hid0⟩,?_⟩
  rintro i m σ' H' ⟨rfl,hi',ρ,o2,hlo,se',hol2,s1',sh,vs',hv',hr'⟩;obtain⟨g1,g2⟩:=kO H' S sh se'.sub;by_cases hlt:i<es.length
  ·have hd:es[i]? = some es[i]:=List.getElem?_eq_getElem hlt;obtain⟨go1,go2⟩:=g2 i es[i] hd;refine .inr ⟨go1,fun σ'' H''=>∃ρ o2,qaL (qcP w tg2 tt ie) (es.drop (i+1)) ρ o2=.ok (τ2,out)∧SE g cc ρ σ'' H'' S∧o2.length≤i+1∧qc H1 H''∧qc (hid H0 S) (hid H'' S)∧∃vs',H'' acc=some (.lst vs')∧qi g (hid H'' S) (o++o2) vs',
    fun σ'' H'' z=>⟨es.length-(i+1),by lia,rfl,hlt,z⟩,fun x H2 hy=>?_⟩
   obtain⟨s2,rx⟩:=go2 x H2 hy;rw [List.drop_eq_getElem_cons hlt]at hlo;simp only [qaL]at hlo;cases q0:qcP w tg2 tt ie es[i] ρ with
   |ex z=>rw [q0]at hlo;cases hlo
   |no=>rw [q0]at hlo;cases hlo
   |ok p=>
    rw [q0]at hlo;simp only [R.bind_ok]at hlo;unfold qcP at q0;cases q1:store tg2 es[i] ρ with
    |ex z=>rw [q1]at q0;cases q0
    |no=>rw [q1]at q0;cases q0
    |ok ρ1=>
     rw [q1]at q0;simp only [R.bind_ok]at q0;refine qdM hK (se'.up s2) rx q1 fun σ1 se1=>?_
     cases q2:evT w tt ρ1 with
     |ex z=>rw [q2]at q0;cases q0
     |no=>rw [q2]at q0;cases q0
     |ok r=>
      rw [q2]at q0;simp only [R.bind_ok]at q0;refine⟨ρ1,S,se1,?_⟩;rw [q2];intro H3 s3;have hv3:=s3 _ _ (s2 _ _ hv');have s13:=s1'.trans (s2.trans s3);have sh3:=sh.trans (qk (S:=S) (s2.trans s3));cases r with
      |false=>
       simp only [Bool.false_eq_true,if_false,R.ok.injEq]at q0;subst q0;rw [if_neg Bool.false_ne_true];exact⟨ρ1,o2++[],hlo,se1.up s3,by simp;lia,s13,sh3,vs',hv3,by rw [List.append_nil];exact hr'.mono (qk (s2.trans s3))⟩
      |true=>
       simp only [if_true]at q0;rw [if_pos rfl];cases q3:evE w ie ρ1 with
       |ex z=>rw [q3]at q0;cases q0
       |no=>rw [q3]at q0;cases q0
       |ok dd=>
        rw [q3]at q0;simp only [R.bind_ok,R.ok.injEq]at q0;subst q0;refine⟨ρ1,S,se1.up s3,?_⟩;rw [q3];intro v H4 p4;have hv4:=p4.same _ _ hv3;have hr4:=hr'.mono (qk ((s2.trans s3).trans p4.same));have hz':vs'.length<sizeLine:=by
         have:=hr'.length;rw [List.length_append]at this;rw [←this,sizeLine_eq];lia
        refine⟨vs',hv4,hz',ρ1,o2++[dd],hlo,(se1.up (s3.trans p4.same)).grow hh ho,by simp;lia,fun b u hb=>?_,?_,vs'++[v],zm,?_⟩
        ·rw [qm (fun z=>by rw [z,hacc]at hb;cases hb)];exact p4.same _ _ (s13 _ _ hb)
        ·rw [qbq hh];exact sh3.trans (qk p4.same)
        ·rw [qbq hh,←List.append_assoc];exact hr4.append (.cons (p4.st he) .nil)
  ·have e:i=es.length:=by lia
   subst e;refine .inl ⟨g1 es.length (Nat.le_refl _),?_⟩;rw [List.drop_length]at hlo;simp only [qaL,R.ok.injEq]at hlo;cases hlo;exact k σ' H' vs' se' s1' hv' hr' (by lia)
theorem qgf(O:XO w g c E X){sc:Scope}{cap:List (Option Nat)}{iit it2:It}{itg tg2:Tg}{tt:T}{ielt:EV.E}(hS:zz X (zo sc.names) cap sc)(he:esc ielt=true)(hw:owned it2=false){σ:L2.St}{H:Hp}{Q:VK}(hq:tE w g c E (.comp2 iit cap itg it2 tg2 tt ielt) σ H Q) :
  qgm cap (tIt w g c E iit) (gT X.K itg) qpB (fun acc=>qgs (tIt w g (zp c sc) E0 it2) (gT X.K tg2) (qdg (tT w g (zp c sc) E0 tt) (qcM acc (tE w g (zp c sc) E0 ielt)) qbL)) σ H Q:=by
 obtain⟨τ,S,se,k⟩:=hq;simp only [qV,zc,zd,zb,qY,za,ze,zf,qZ,qt,qz,qC,qB,qx,qO,qw,qy,qu,qA,qo,qI,qq,qE,qH,qr,qD,qL,qP,qQ,qF,qN,qG,qM,qJ,qK]at k;refine qqs se k fun ds J H1 e1 s1 kW _ k1 acc hacc=>?_
 by_cases hz:1000<ds.length
 ·rw [if_pos hz]at k1;exact k1.elim
 rw [if_neg hz]at k1;generalize hbody:(fun x σ=>noEx ((store itg x σ).bind fun σ'=>(evI w it2 σ').bind fun es=>if 1000<es.length then R.no else qaL (fun y ρ=>(store tg2 y ρ).bind fun ρ'=>(evT w tt ρ').bind fun r=>if r=true then (evE w ielt ρ').bind fun d=>R.ok (ρ',[d])else R.ok (ρ',[])) es σ' []))=body at k1;have bex:∀d τ x,body d τ≠.ex x:=fun d τ x=>by rw [←hbody];exact qin
 cases hl:zD body ds (qaN cap τ) []with
 |ex z=>exact absurd hl (qdT bex)
 |no=>rw [hl]at k1;exact k1.elim
 |ok out=>
  rw [hl]at k1;simp only [R.bind_ok]at k1;have k1:∀v H',qbB g c (.comp2 iit cap itg it2 tg2 tt ielt) S H (.lst out) v H'→Q v H':=k1;have sub1:=se.sub.same s1;have hoacc:S.o acc=false:=sub1.freeO hacc;have hhacc:(zy S acc).h acc=true:=by show (S.h acc||acc==acc)=true;simp
  refine⟨fun i m σ' H'=>m=ds.length-i∧i≤ds.length∧∃τ' o,zD body (ds.drop i) τ' o=.ok out∧SE g (zp c sc) τ' σ' H' (zy S acc)∧o.length≤1000 * i∧qc H1 H'∧∃vs,H' acc=some (.lst vs)∧qi g (hid H' (zy S acc)) o vs,
   ⟨ds.length,rfl,Nat.zero_le _,qaN cap τ,[],hl,(se.up s1).caps O hS.cap |>.hide hacc,Nat.le_refl _,qW hacc,[],zm,.nil⟩,?_⟩
  rintro i m σ' H' ⟨rfl,hi',τ',o,hlo,se',hol,s1',vs,hv,hr⟩;have keep:qc (hid H1 S) (hid H' (zy S acc)):=fun b u hb=>by
   obtain⟨z1,z2⟩:=qsh.mp hb;refine qsh.mpr ⟨?_,s1' _ _ z2⟩;show (S.h b||b==acc)=false;rw [z1]
   simpa using fun z:b=acc=>by rw [z,hacc]at z2;cases z2
  obtain⟨g1,g2⟩:=kW H' (zy S acc) s1' keep se'.sub;by_cases hlt:i<ds.length
  ·have hd:ds[i]? = some ds[i]:=List.getElem?_eq_getElem hlt;obtain⟨go1,go2⟩:=g2 i ds[i] hd;refine .inr ⟨go1,fun σ'' H''=>∃τ' o,zD body (ds.drop (i+1)) τ' o=.ok out∧SE g (zp c sc) τ' σ'' H'' (zy S acc)∧o.length≤1000 * (i+1)∧qc H1 H''∧∃vs,H'' acc=some (.lst vs)∧qi g (hid H'' (zy S acc)) o vs,
    fun σ'' H'' z=>⟨ds.length-(i+1),by lia,rfl,hlt,z⟩,fun x H2 hy=>?_⟩
   obtain⟨s2,rx⟩:=go2 x H2 hy;rw [List.drop_eq_getElem_cons hlt]at hlo;simp only [zD]at hlo;cases q:body ds[i] τ' with
   |ex z=>exact absurd q (bex _ _ _)
   |no=>rw [q]at hlo;cases hlo
   |ok p=>
    rw [q]at hlo;simp only [R.bind_ok]at hlo;rw [←hbody]at q;have q:=qix q;cases q1:store itg ds[i] τ' with
    |ex z=>rw [q1]at q;cases q
    |no=>rw [q1]at q;cases q
    |ok τ1=>
     rw [q1]at q;simp only [R.bind_ok]at q;refine qdM O.K (se'.up s2) rx q1 fun σ1 se1=>?_
     refine qnv (τ2:=p.1) (out:=p.2) O.K he hw hhacc hoacc hacc (s1'.trans s2) se1 (s2 _ _ hv) (hr.mono (qk s2)) (by lia) q fun σ3 H3 vs3 se3 s3 hv3 hr3 hl3=>⟨p.1,o++p.2,hlo,se3,by rw [List.length_append];lia,s3,vs3,hv3,hr3⟩
  ·have e:i=ds.length:=by lia
   subst e;refine .inl ⟨g1 ds.length (Nat.le_refl _),?_⟩;rw [List.drop_length]at hlo;simp only [zD,R.ok.injEq]at hlo;subst hlo;have rep:Rep g (hid H' S) (.lst o) (.ref acc):=.lst (SqL.of (qsh.mpr ⟨sub1.free hacc,hv⟩)) (hr.mono qdm);exact k1 _ _ (qbB.of (s1.trans s1') rep rfl)
theorem qem{it:Expr}{env:PySem.Env}(hs:zg it=true)(x:Value):foldedSetIterable it env x=pure x:=by cases it<;>first|rfl|(simp [zg]at hs)
theorem qnw(O:XO w g c E X)(hcalm:X.calm=true){sc:Scope}{cap:List (Option Nat)}{tgt it tgt2 it2 elt:Expr}{ifs2:List Expr}{pos:Pos}{iit ii2:It}{itg tg2:Tg}{tt:T}{ielt:EV.E}(hS:zz X (zo sc.names) cap sc)(hnd:(zo sc.names).Nodup)
  (hi:PI X tgt it (tIt w g c E iit)) (hb:∀cl C s₀ H₀ fp,PG (zr X (zo sc.names) sc cl C s₀ H₀ fp) tgt (gT X.K itg)∧PI (zr X (zo sc.names) sc cl C s₀ H₀ fp) tgt2 it2 (tIt w g (zp c sc) E0 ii2)∧PG (zr X (zo sc.names) sc cl C s₀ H₀ fp) tgt2 (gT X.K tg2)∧PTs (zr X (zo sc.names) sc cl C s₀ H₀ fp) ifs2 (tT w g (zp c sc) E0 tt)∧PE (zr X (zo sc.names) sc cl C s₀ H₀ fp) elt (tE w g (zp c sc) E0 ielt))
  (he:esc ielt=true) (hw:owned ii2=false) (hs:zg it=true) (hs2:zg it2=true):PE X (.ListComp elt [⟨tgt,it,[],0⟩,⟨tgt2,it2,ifs2,0⟩] sc pos) (tE w g c E (.comp2 iit cap itg ii2 tg2 tt ielt)):=by
 refine PE.imp (qik (tb:=fun acc=>qgs (tIt w g (zp c sc) E0 ii2) (gT X.K tg2) (qdg (tT w g (zp c sc) E0 tt) (qcM acc (tE w g (zp c sc) E0 ielt)) qbL)) hcalm hS hi (fun cl C s₀ H₀ fp=>⟨(hb cl C s₀ H₀ fp).1,qiq,fun acc=>?_⟩) (by simp) (qem hs)) fun σ H Q q=>qgf O hS he hw q
 obtain⟨_,b2,b3,b4,b5⟩:=hb cl C s₀ H₀ fp;exact qom (g:=⟨tgt2,it2,ifs2,0⟩) hcalm (fun _ _ z=>z) rfl rfl (fun _ h=>by cases h) b2 b3 b4 (qeT rfl b5) (qem hs2)
end
section
variable{prog:Program}{w:World}{A:Around}{E:Value→Shared→Prop}{s:Shared}
theorem qfU{Q:List Value→Shared→Prop}{r:Addr}{a b c:Int}{t u v:Tok}{n:Nat}(hh:A.handled=none)(hr:IsRange s.heap r a b c t u v)(hsmall:Builtin.Range.small a b c=true)(hn:Builtin.Range.rangeSize a b c=n)(hlen:n≤2^24)
  (hQ:∀h' tk acc,(∀b o',s.heap.get? b=some o'→h'.get? b=some o')→ItemsOf (fun i v=>∃t,v=.int (a+i * c) t) acc n→Q acc.toList {s with heap:=h',toks:=tk}):wpAny (model prog w) A (collect (.ref r)) Q E s:=by
 unfold collect;refine wpAny_bind (wpAny_runValue (codeAny_builtin PySem.F.entry_proto_collect ?_));rw [Around.under_plainId PySem.F.plain_proto_collect _];show wpAny _ A.in1 (newList []>>=fun l=>again (.builtin "list.__iadd__" ⟨[l,.ref r],[]⟩)) _ _ s;refine wpAny_bind (wpAny_newObj_type ?_);refine wpAny_pure ⟨plainId_quiet PySem.F.plain_list_iadd _,codeAny_builtin PySem.F.entry_list_iadd ?_⟩;rw [Around.under_plainId PySem.F.plain_list_iadd _];show wpAny _ A.in1 (Builtin.List.listExtendWith (.ref s.heap.objs.size) (.ref r) (.ref s.heap.objs.size)) _ _ _;have hS:(s.heap.push {cls:=.type "list",data:=.seq ([]:List Value).toArray}).get? s.heap.objs.size=some {cls:=.type "list",data:=.seq #[] 0}:=Heap.get?_push_size _ rfl;have fin':∀(h':Heap) (tk:Nat) (acc:Array Value) (c':Nat),(∀b o,b≠s.heap.objs.size→(s.heap.push {cls:=.type "list",data:=.seq ([]:List Value).toArray}).get? b=some o→h'.get? b=some o)→h'.get? s.heap.objs.size=some {cls:=.type "list",dict:=none,data:=.seq acc c',slots:=#[]} →
   ItemsOf (fun i v=>∃t,v=.int (a+i * c) t) acc n→wpAny (model prog w) A (match Value.ref s.heap.objs.size with
   |Value.ref a=>do
    match (←load a).data with
     |Data.seq xs _=>pure xs.toList
     |_=>unsupported "internal:collect"
   |_=>unsupported "internal:collect") Q E {s with heap:=h',toks:=tk}:=fun h' tk acc c' hk hS' hacc=>by
  show wpAny _ A (load s.heap.objs.size>>=_) _ _ _;refine wpAny_bind (wpAny_load hS' ?_);exact wpAny_pure (hQ h' tk acc (fun b o' hb=>hk b o' (Nat.ne_of_lt (Heap.lt_size hb)) (Heap.get?_push_of_some _ hb)) hacc)
 refine wpAny_mono (wpAny_extend_range (A:=A) (R:=fun r s'=>r=.ok (.ret (.ref s.heap.objs.size))∧∃h' tk acc c',s'={s with heap:=h',toks:=tk}∧(∀b o,b≠s.heap.objs.size→(s.heap.push {cls:=.type "list",data:=.seq ([]:List Value).toArray}).get? b=some o→h'.get? b=some o)∧h'.get? s.heap.objs.size=some {cls:=.type "list",dict:=none,data:=.seq acc c',slots:=#[]}∧ItemsOf (fun i v=>∃t,v=.int (a+i * c) t) acc n)
  (s:={s with heap:=s.heap.push {cls:=.type "list",data:=.seq ([]:List Value).toArray}}) hh (Heap.get?_push_of_some _ hr) hsmall hn hlen _ _ 0 hS fun h' tk acc c' hk hS' hacc=>⟨rfl,h',tk,acc,c',rfl,hk,hS',hacc⟩) (fun fin s' h=>?_) (fun e s' h=>?_)
 ·cases fin with
  |done f=>
   obtain⟨e,h',tk,acc,c',rfl,hk,hS',hacc⟩:=h;cases e;exact fin' h' tk acc c' hk hS' hacc
  |again c'=>exact⟨h.1,codeAny_mono h.2 fun r s'' hr=>by obtain⟨rfl,h',tk,acc,c',rfl,hk,hS',hacc⟩:=hr;exact fin' h' tk acc c' hk hS' hacc⟩
 ·exact absurd h.1 (by simp)
theorem qdx(r:Addr)(a b c:Int)(t u v:Tok)(n:Nat)(hsmall:Builtin.Range.small a b c=true)(hn:Builtin.Range.rangeSize a b c=n)(hlen:n≤2^24) :
  PySem.Meets (Builtin.«tuple.__new__» ⟨[.type "tuple",.ref r],[]⟩)
   (fun A R s=>A.handled=none∧IsRange s.heap r a b c t u v∧∀(h':Heap) (tk:Nat) (acc:Array Value),(∀b o',s.heap.get? b=some o'→h'.get? b=some o')→ItemsOf (fun i v=>∃t,v=.int (a+i * c) t) acc n→R (.ok (.ret (.ref h'.objs.size))) {s with heap:=h'.push {cls:=.type "tuple",data:=.seq acc},toks:=tk}):=
 .of_wp fun prog w A R s h=>by
  obtain⟨hh,ht,h⟩:=h;have hsub:=sub_tuple_self;have hinit:=init_tuple_lookup;have hmh:=madeHere_tuple;have hT:s.TypeIs (.ref r) "range":=⟨_,ht,rfl⟩
  have hh1:A.in1.handled=none:=hh
  wp_walk using wpAny_typeOf hT,qfU (hsmall:=hsmall) (hn:=hn) (hlen:=hlen) hh1 ht
  intro h' tk acc hk hacc;show wpAny _ _ (Builtin.Tuple.tupleExact acc.toList.toArray>>=fun v=>ret v) _ _ _;unfold Builtin.Tuple.tupleExact;refine wpAny_bind (wpAny_newObj_type ?_ (show acc.toList.toArray.size≤sizeLine by simp only [Array.toArray_toList];rw [hacc.1,sizeLine_eq];lia));refine wpAny_pure ⟨_,rfl,?_⟩;have e:acc.toList.toArray=acc:=by simp
  rw [e];exact h h' tk acc hk hacc
theorem qbW{r:Addr}{a b c:Int}{t u v:Tok}{n:Nat}{Q:Value→Shared→Prop}(hh:A.handled=none)(hr:IsRange s.heap r a b c t u v)(hsmall:Builtin.Range.small a b c=true)(hn:Builtin.Range.rangeSize a b c=n)(hlen:n≤2^24)
  (h:∀(h':Heap) (tk:Nat) (acc:Array Value),(∀b o',s.heap.get? b=some o'→h'.get? b=some o')→ItemsOf (fun i v=>∃t,v=.int (a+i * c) t) acc n→Q (.ref h'.objs.size) {s with heap:=h'.push {cls:=.type "tuple",data:=.seq acc},toks:=tk}) :
  wpAny (model prog w) A (call (.type "tuple") [.ref r]) Q E s:=
 callType_new PySem.F.called_tuple (by decide) (PySem.F.typeCall_tuple_1 _) (PySem.F.newCall_tuple_1 _) (fun obj=>PySem.F.args_object_init_2 obj _) PySem.F.entry_tuple_new
  (qdx r a b c t u v n hsmall hn hlen) ⟨hh,hr,fun h' tk acc hk hacc=>⟨⟨_,Heap.get?_push_size _ rfl,rfl⟩,h h' tk acc hk hacc⟩⟩
end
theorem qdQ:∀{xs:List V}{us:List Value},xs.length=us.length→(∀(i:Nat) x u,xs[i]? = some x→us[i]? = some u→L2.RelV x u)→Vals xs us
 | [],[],_,_=>.nil
 |x::xs,u::us,h,k=>.cons (k 0 x u rfl rfl) (qdQ (by simpa using h) fun i y v h1 h2=>k (i+1) y v (by simpa using h1) (by simpa using h2))
 | [],_::_,h,_=>by simp at h
 |_::_,[],h,_=>by simp at h
noncomputable def qbS(lo:Int)(n:Nat):List V:=(List.range n).map fun(i:Nat)=>.int (lo+(i:Int))
theorem qdZ{lo:Int}{n:Nat}{acc:Array Value}(h:ItemsOf (fun i v=>∃t,v=.int (lo+i * 1) t) acc n):Vals (qbS lo n) acc.toList:=by
 refine qdQ (by simp [qbS,h.1]) fun i x u hx hu=>?_
 unfold qbS at hx;rw [List.getElem?_map]at hx;cases q:(List.range n)[i]? with
 |none=>rw [q]at hx;cases hx
 |some j=>
  rw [q]at hx;cases hx;obtain⟨h1,h2⟩:=List.getElem?_eq_some_iff.mp q;simp at h2;subst h2;obtain⟨t,ht⟩:=h.2 i u (by simpa using hu);rw [ht];exact⟨t,by rw [Int.mul_one]⟩
theorem qcO{g:Gc}{H:Hp}{lo:Int}{n:Nat}:qi g H (zB lo n) (qbS lo n):=by
 unfold zB qbS;generalize List.range n=l
 induction l with
 |nil=>exact .nil
 |cons i l ih=>exact .cons (.int _) ih
section
variable{X:Cx}
theorem qmd:qT X (.type "range") (fun vs H Q=>∃lo hi,(vs=[.int hi]∧lo=0∨vs=[.int lo,.int hi])∧∀p,H p=none→Q (.ref p) (upd H p (.rng lo hi))):=by
 intro pins s σ H xs us Q I r h;obtain⟨lo,hi,h|h,q⟩:=h
 ·obtain⟨rfl,rfl⟩:=h;obtain⟨u,rfl,t,rfl⟩:=r.one;exact call_range_1 ⟨.ref _,_,I.laid (o:=.rng 0 hi) (fun b o e=>Heap.get?_push_of_some _ e) (Nat.le_refl _) ⟨_,_,_,Heap.get?_push_size _ rfl⟩,rfl,q _ I.fresh⟩
 ·subst h;obtain⟨u,v,rfl,⟨t,rfl⟩,⟨t',rfl⟩⟩:=r.two;exact call_range_2 ⟨.ref _,_,I.laid (o:=.rng lo hi) (fun b o e=>Heap.get?_push_of_some _ e) (Nat.le_refl _) ⟨_,_,_,Heap.get?_push_size _ rfl⟩,rfl,q _ I.fresh⟩
theorem qmN{lo hi:Int}:Builtin.Range.rangeSize lo hi 1=((hi-lo).toNat:Nat):=by
 rw [rangeSize_one];split<;>lia
theorem qkJ(hc:X.calm=true):qT X (.type "list") (fun vs H Q=>∃p lo hi,vs=[.ref p]∧H p=some (.rng lo hi)∧qg lo=true∧qg hi=true∧∀q,H q=none→Q (.ref q) (upd H q (.lst (qbS lo (hi-lo).toNat)))):=by
 intro pins s σ H xs us Q I r h;obtain⟨p,lo,hi,rfl,hp,z1,z2,q⟩:=h;obtain⟨u,rfl,ru⟩:=r.one;cases ru;obtain⟨t,u,v,e⟩:=I.hok p _ hp;obtain⟨a1,a2⟩:=zw z1;obtain⟨b1,b2⟩:=zw z2;refine call_list_range (I.ok.hd hc) e (small_one (by lia) (by lia) (by lia) (by lia)) qmN (by lia) fun h' tk acc c' hk hS hacc=>?_
 refine⟨.ref _,_,I.laid (h':=h') (t':=tk) (o:=.lst (qbS lo (hi-lo).toNat)) hk (Nat.le_refl _) ⟨by simp [qbS,sizeLine_eq];lia,acc.toList,c',qdZ hacc,by simpa using hS⟩,rfl,q _ I.fresh⟩
theorem qld(hc:X.calm=true):qT X (.type "tuple") (fun vs H Q=>∃p lo hi,vs=[.ref p]∧H p=some (.rng lo hi)∧qg lo=true∧qg hi=true∧∀q,H q=none→Q (.ref q) (upd H q (.tup (qbS lo (hi-lo).toNat)))):=by
 intro pins s σ H xs us Q I r h;obtain⟨p,lo,hi,rfl,hp,z1,z2,q⟩:=h;obtain⟨u,rfl,ru⟩:=r.one;cases ru;obtain⟨t,u,v,e⟩:=I.hok p _ hp;obtain⟨a1,a2⟩:=zw z1;obtain⟨b1,b2⟩:=zw z2;refine qbW (I.ok.hd hc) e (small_one (by lia) (by lia) (by lia) (by lia)) qmN (by lia) fun h' tk acc hk hacc=>?_
 have I1:Inv X pins σ H {s with heap:=h',toks:=tk}:=I.kept hk;refine⟨.ref _,_,I1.laid (t':=tk) (o:=.tup (qbS lo (hi-lo).toNat)) (fun b o e=>Heap.get?_push_of_some _ e) (Nat.le_refl _) ⟨by simp [qbS,sizeLine_eq];lia,acc.toList,qdZ hacc,⟨_,Heap.get?_push_size _ rfl,rfl,0,by simp⟩⟩,rfl,q _ I1.fresh⟩
end
section
variable{w:W}{g:Gc}{c:Cc}{E:XK}{X:Cx}{a b:Expr}{ia ib:EV.E}{pos p2 p3 pos3:Pos}
theorem qpS(O:XO w g c E X){x:Str}{e:Expr}{es:List Expr}{t:TA}(h:glob c x=some .rng)(ha:PA X (e::es) t)(hs:∀z∈e::es,isStar z=false) :
  PE X (.Call (.Name x p3) (e::es) [] pos3) (tCB (fun vs H Q=>∃lo hi,(vs=[.int hi]∧lo=0∨vs=[.int lo,.int hi])∧∀p,H p=none→Q (.ref p) (upd H p (.rng lo hi))) t):=by
 obtain⟨h1,rfl⟩:=O.gm h;exact qaQ qmd (O.gl h) h1 (by decide +kernel) ha (qR h).2.2.2 (qR h).2.2.1 (qe (hs e List.mem_cons_self)) (qeu fun z hz=>hs z (List.mem_cons_of_mem _ hz))
theorem qmY(O:XO w g c E X)(hc:X.calm=true){x y:Str}{n:String}{bb:Option B1}{e:Expr}{es:List Expr}{it:It}{t:TA}(hT:glob c x=some (.ty n bb))(h:glob c y=some .rng)(ha:PA X (e::es) t)(hs:∀z∈e::es,isStar z=false)
  (hn:n = "tuple"∨n = "list")
  (k:∀σ H (Q:List V→Hp→Prop) τ S (P:List D→Prop),SE g c τ σ H S→tR g E H (evI w it τ) P→(∀lo hi vs H',qc H H'→(vs=[.int hi]∧lo=0∨vs=[.int lo,.int hi])→qg lo=true→qg hi=true→P (zB lo (hi-lo).toNat)→Q vs H')→t σ H Q) :
  PE X (.Call (.Name x p2) [.Call (.Name y p3) (e::es) [] pos3] [] pos) (tE w g c E (if n = "tuple" then .rtup it else .rlst it)):=by
 obtain⟨h1,h2,_,_⟩:=O.gm hT;have hr:=qpS (p3:=p3) (pos3:=pos3) O h ha hs;rcases hn with rfl|rfl
 ·refine PE.imp (qaQ (qld hc) (O.gl hT) h1 h2 (zi hr zI) (qR hT).2.2.2 (qR hT).2.2.1) fun σ H Q ⟨τ,S,se,q⟩=>?_
  rw [if_pos rfl]at q;simp only [qV,zc,zd,zb,qY,za,ze,zf,qZ,qt,qz,qC,qB,qx,qO,qw,qy,qu,qA,qo,qI,qq,qE,qH,qr,qD,qL,qP,qQ,qF,qN,qG,qM,qJ,qK]at q;refine k σ H _ τ S _ se (tR.bnd q) fun lo hi vs H' s hv z1 z2 hP=>⟨lo,hi,hv,fun p hp=>⟨p,lo,hi,rfl,zm,z1,z2,fun r hr=>?_⟩⟩
  have s1:=qW (o:=.rng lo hi) hp;exact hP _ _ (qbB.of ((s.trans s1).trans (qW hr)) (qaT (se.sub.same (s.trans s1)) hr qcO) rfl)
 ·refine PE.imp (qaQ (qkJ hc) (O.gl hT) h1 h2 (zi hr zI) (qR hT).2.2.2 (qR hT).2.2.1) fun σ H Q ⟨τ,S,se,q⟩=>?_
  rw [if_neg (by decide)]at q;simp only [qV,zc,zd,zb,qY,za,ze,zf,qZ,qt,qz,qC,qB,qx,qO,qw,qy,qu,qA,qo,qI,qq,qE,qH,qr,qD,qL,qP,qQ,qF,qN,qG,qM,qJ,qK]at q;refine k σ H _ τ S _ se (tR.bnd q) fun lo hi vs H' s hv z1 z2 hP=>⟨lo,hi,hv,fun p hp=>⟨p,lo,hi,rfl,zm,z1,z2,fun r hr=>?_⟩⟩
  have s1:=qW (o:=.rng lo hi) hp;exact hP _ _ (qbB.new ((s.trans s1).trans (qW hr)) (qaU (se.sub.same (s.trans s1)) hr qcO) (qca (s.trans s1) hr qcO))
noncomputable def rgS(p:Addr)(lo hi st:Int):Heap→Prop:=fun h=>∃t u v,h.get? p=some {cls:=.type "range",data:=.fields #[.int lo t,.int hi u,.int st v]}
theorem qll{X:Cx}:qT X (.type "range") (fun vs H Q=>∃lo hi st,vs=[.int lo,.int hi,.int st]∧(0<st∧st≤1000000)∧∀p,H p=none→Q (.ref p) (upd H p (.ext (rgS p lo hi st)))):=by
 intro pins s σ H xs us Q I r h;obtain⟨lo,hi,st,rfl,hst,q⟩:=h;obtain⟨u1,u2,u3,rfl,⟨t1,rfl⟩,⟨t2,rfl⟩,⟨t3,rfl⟩⟩:∃u1 u2 u3,us=[u1,u2,u3]∧RelV (.int lo) u1∧RelV (.int hi) u2∧RelV (.int st) u3:=by
  cases r with
  |cons p q=>
   cases q with
   |cons p' q'=>
    cases q' with
    |cons p'' q''=>
     cases q'';exact⟨_,_,_,rfl,p,p',p''⟩
 refine call_range_3 (by lia) ⟨.ref _,_,I.laid (o:=.ext (rgS _ lo hi st)) (fun b o e=>Heap.get?_push_of_some _ e) (Nat.le_refl _) ⟨⟨_,_,_,Heap.get?_push_size _ rfl⟩,⟨_,Heap.get?_push_size _ rfl⟩,fun h1 h2 ⟨a1,a2,a3,e⟩ k=>⟨a1,a2,a3,k _ e⟩⟩,rfl,q _ I.fresh⟩ (.inl (PyProof.noPylong_small (by lia)))
noncomputable def qco(lo st:Int)(n:Nat):List V:=(List.range n).map fun(i:Nat)=>.int (lo+(i:Int) * st)
theorem qic{lo st:Int}{n:Nat}{acc:Array Value}(h:ItemsOf (fun i v=>∃t,v=.int (lo+i * st) t) acc n):Vals (qco lo st n) acc.toList:=by
 refine qdQ (by simp [qco,h.1]) fun i x u hx hu=>?_
 unfold qco at hx;rw [List.getElem?_map]at hx;cases q:(List.range n)[i]? with
 |none=>rw [q]at hx;cases hx
 |some j=>
  rw [q]at hx;cases hx;obtain⟨h1,h2⟩:=List.getElem?_eq_some_iff.mp q;simp at h2;subst h2;obtain⟨t,ht⟩:=h.2 i u (by simpa using hu);rw [ht];exact⟨t,rfl⟩
theorem qhE{g:Gc}{H:Hp}{lo st:Int}{n:Nat}:qi g H (qcz lo st n) (qco lo st n):=by
 unfold qcz qco;generalize List.range n=l
 induction l with
 |nil=>exact .nil
 |cons i l ih=>exact .cons (.int _) ih
theorem qjn{X:Cx}(hc:X.calm=true):qT X (.type "tuple") (fun vs H Q=>∃p lo hi st,vs=[.ref p]∧H p=some (.ext (rgS p lo hi st))∧qg lo=true∧qg hi=true∧0<st∧st≤1000000∧∀q,H q=none→Q (.ref q) (upd H q (.tup (qco lo st (qaI lo hi st))))):=by
 intro pins s σ H xs us Q I r h;obtain⟨p,lo,hi,st,rfl,hp,z1,z2,z3,z4,q⟩:=h;obtain⟨u,rfl,ru⟩:=r.one;cases ru;obtain⟨⟨t,u,v,e⟩,_⟩:=I.hok p _ hp;obtain⟨a1,a2⟩:=zw z1;obtain⟨b1,b2⟩:=zw z2;have hle:=qis (lo:=lo) (hi:=hi) z3 a1 b2;refine qbW (I.ok.hd hc) e (qgZ z3 z4 a1 a2 b1 b2) (qfi z3) (by lia) fun h' tk acc hk hacc=>?_
 have I1:Inv X pins σ H {s with heap:=h',toks:=tk}:=I.kept hk;refine⟨.ref _,_,I1.laid (t':=tk) (o:=.tup (qco lo st (qaI lo hi st))) (fun b o e=>Heap.get?_push_of_some _ e) (Nat.le_refl _) ⟨by simp [qco,sizeLine_eq];lia,acc.toList,qic hacc,⟨_,Heap.get?_push_size _ rfl,rfl,0,by simp⟩⟩,rfl,q _ I1.fresh⟩
theorem qpW(O:XO w g c E X)(hc:X.calm=true){x y:Str}{bb:Option B1}{d:Expr}{id:EV.E}(hT:glob c x=some (.ty "tuple" bb))(h:glob c y=some .rng)(ha:PE X a (tE w g c E ia))(hb:PE X b (tE w g c E ib))(hd:PE X d (tE w g c E id))(hs:isStar a=false)(hs':isStar b=false)(hs'':isStar d=false) :
  PE X (.Call (.Name x p2) [.Call (.Name y p3) [a,b,d] [] pos3] [] pos) (tE w g c E (.rtup (.rng3 ia ib id))):=by
 obtain⟨h1,h2,_,_⟩:=O.gm hT;obtain⟨r1,rfl⟩:=O.gm h;have hr:=qaQ (p:=p3) (pos:=pos3) qll (O.gl h) r1 (by decide +kernel) (zi ha (zi hb (zi hd zI (qe hs'')) (qe hs')) (qe hs)) (qR h).2.2.2 (qR h).2.2.1 (qe hs) (qeu fun z hz=>by simp at hz;rcases hz with rfl|rfl;exact hs';exact hs'');refine PE.imp (qaQ (qjn hc) (O.gl hT) h1 h2 (zi hr zI) (qR hT).2.2.2 (qR hT).2.2.1) fun σ H Q ⟨τ,S,se,q⟩=>?_
 simp only [qV,zc,zd,zb,qY,za,ze,zf,qZ,qt,qz,qC,qB,qx,qO,qw,qy,qu,qA,qo,qI,qq,qE,qH,qr,qD,qL,qP,qQ,qF,qN,qG,qM,qJ,qK]at q;have q:=tR.bnd q;simp only [evI]at q;refine qU se q fun da va H1 e1 p1 k1=>qU (se.up p1.same) k1 fun db vb H2 e2 p2 k2=>qU ((se.up p1.same).up p2.same) k2 fun dd vd H3 e3 p3 k3=>?_
 cases da with
 |int i=>
  cases db with
  |int j=>
   cases dd with
   |int l=>
    simp only at k3;cases q:qg i&&qg j&&(decide (0<l)&&qg l)with
    |true=>
     rw [q,if_pos rfl]at k3;simp only [Bool.and_eq_true,decide_eq_true_eq]at q;have s:=(p1.same.trans p2.same).trans p3.same;refine⟨i,j,l,by rw [p1.rb.int,p2.rb.int,p3.rb.int],⟨q.2.1,(zw q.2.2).2⟩,fun p hp=>⟨p,i,j,l,rfl,zm,q.1.1,q.1.2,q.2.1,(zw q.2.2).2,fun r hr=>?_⟩⟩;have s1:=qW (o:=.ext (rgS p i j l)) hp;exact k3 _ _ (qbB.of ((s.trans s1).trans (qW hr)) (qaT (se.sub.same (s.trans s1)) hr qhE) rfl)
    |false=>rw [q]at k3;exact k3.elim
   |_=>exact k3.elim
  |_=>exact k3.elim
 |_=>exact k3.elim
theorem qqR(ha:PE X a (tE w g c E ia))(hs:isStar a=false):PA X [a] (qeg (tE w g c E ia) qjb):=zi ha zI (qe hs)
theorem qlS:∀σ H (Q:List V→Hp→Prop) τ S (P:List D→Prop),SE g c τ σ H S→tR g E H (evI w (.rng ia) τ) P→(∀lo hi vs H',qc H H'→(vs=[.int hi]∧lo=0∨vs=[.int lo,.int hi])→qg lo=true→qg hi=true→P (zB lo (hi-lo).toNat)→Q vs H')→qeg (tE w g c E ia) qjb σ H Q:=by
 intro σ H Q τ S P se q k;simp only [evI]at q;refine qU se q fun da va H1 e1 p1 k1=>?_
 cases da with
 |int j=>
  simp only at k1;cases z:qg j with
  |true=>rw [z,if_pos rfl]at k1;exact k 0 j _ H1 p1.same (.inl ⟨by rw [p1.rb.int],rfl⟩) (by decide) z (by rw [Int.sub_zero];exact k1)
  |false=>rw [z]at k1;exact k1.elim
 |_=>exact k1.elim
theorem qmu:∀σ H (Q:List V→Hp→Prop) τ S (P:List D→Prop),SE g c τ σ H S→tR g E H (evI w (.rng2 ia ib) τ) P→(∀lo hi vs H',qc H H'→(vs=[.int hi]∧lo=0∨vs=[.int lo,.int hi])→qg lo=true→qg hi=true→P (zB lo (hi-lo).toNat)→Q vs H')→qeg (tE w g c E ia) (qeg (tE w g c E ib) qjb) σ H Q:=by
 intro σ H Q τ S P se q k;simp only [evI]at q;refine qU se q fun da va H1 e1 p1 k1=>qU (se.up p1.same) k1 fun db vb H2 e2 p2 k2=>?_
 cases da with
 |int i=>
  cases db with
  |int j=>
   simp only at k2;cases z:qg i&&qg j with
   |true=>
    rw [z,if_pos rfl]at k2;simp only [Bool.and_eq_true]at z;exact k i j _ H2 (p1.same.trans p2.same) (.inr (by rw [p1.rb.int,p2.rb.int])) z.1 z.2 k2
   |false=>rw [z]at k2;exact k2.elim
  |_=>exact k2.elim
 |_=>exact k2.elim
end
structure Snd(w:W)(g:Gc)(n:Nat):Prop where
 e:∀{c:Cc}{E:XK}{X:Cx} (O:XO w g c E X) {x:Expr}{ir:EV.E},cE n c x=some ir→PE X x (tE w g c E ir)
 bo:∀{c:Cc}{E:XK}{X:Cx} (O:XO w g c E X) {op:PySem.BoolOp}{vs:List Expr}{pos:Pos}{ir:EV.E},cBo n c op vs=some ir→PE X (.BoolOp op vs pos) (tE w g c E ir)∧esc ir=true
 o:∀{c:Cc}{E:XK}{X:Cx} (O:XO w g c E X) {x:Option Expr}{ir:OE},cO n c x=some ir→PO X x (tOe w g c E ir)
 es:∀{c:Cc}{E:XK}{X:Cx} (O:XO w g c E X) {x:List Expr}{ir:Es},cEs n c x=some ir→PA X x (tA w g c E ir)
 i:∀{c:Cc}{E:XK}{X:Cx} (O:XO w g c E X) {tg x:Expr}{ir:It},cI n c x=some ir→qcv ir tg=true→PI X tg x (tIt w g c E ir)
 t:∀{c:Cc}{E:XK}{X:Cx} (O:XO w g c E X) {x:Expr}{ir:T},cT n c x=some ir→PT X x (tT w g c E ir)
 ts:∀{c:Cc}{E:XK}{X:Cx} (O:XO w g c E X) {op:PySem.BoolOp}{vs:List Expr}{pos:Pos}{ir:T},cTs n c op vs=some ir→PW X (.BoolOp op vs pos) (tT w g c E ir)
 ifs:∀{c:Cc}{E:XK}{X:Cx} (O:XO w g c E X) {x:List Expr}{ir:T},qcr n c x=some ir→PTs X x (tT w g c E ir)
section
variable{w:W}{g:Gc}{n:Nat}
theorem Snd.ifs_succ(ih:Snd w g n){c:Cc}{E:XK}{X:Cx}(O:XO w g c E X){x:List Expr}{ir:T}(h:qcr (n+1) c x=some ir):PTs X x (tT w g c E ir):=by
 match x with
 | []=>
  simp only [qcr,Option.some.injEq]at h;subst h;intro pins s σ H Q I ⟨τ,S,se,q⟩;exact qiq pins s σ H Q I (q H (qc.refl _))
 | [t]=>simp only [qcr]at h;exact qnz (ih.t O h)
 |_::_::_=>simp [qcr]at h
theorem Snd.bo_succ(ih:Snd w g n){c:Cc}{E:XK}{X:Cx}(O:XO w g c E X){op:PySem.BoolOp}{vs:List Expr}{pos:Pos}{ir:EV.E}(h:cBo (n+1) c op vs=some ir):PE X (.BoolOp op vs pos) (tE w g c E ir)∧esc ir=true:=by
 match vs with
 | []=>simp [cBo]at h
 | [a]=>
  simp only [cBo,Option.bind_eq_bind,Option.bind_eq_some_iff]at h;obtain⟨ia,h1,h⟩:=h;split at h
  ·rename_i he
   cases h;exact⟨qqV (ih.e O h1),he⟩
  ·cases h
 |a::b::r=>
  simp only [cBo,Option.bind_eq_bind,Option.bind_eq_some_iff]at h;obtain⟨ia,h1,ir',h2,h⟩:=h;obtain⟨r1,r2⟩:=ih.bo O (pos:=pos) h2;cases op with
  |And=>cases h;exact⟨qrs (ih.e O h1) r1 r2,rfl⟩
  |Or=>cases h;exact⟨qsv (ih.e O h1) r1 r2,rfl⟩
theorem Snd.o_succ(ih:Snd w g n){c:Cc}{E:XK}{X:Cx}(O:XO w g c E X){x:Option Expr}{ir:OE}(h:cO (n+1) c x=some ir):PO X x (tOe w g c E ir):=by
 cases x with
 |none=>simp only [cO,Option.some.injEq]at h;subst h;exact qnU
 |some e=>
  simp only [cO,Option.map_eq_some_iff]at h;obtain⟨ie,h1,rfl⟩:=h;exact qnD (ih.e O h1)
theorem Snd.es_succ(ih:Snd w g n){c:Cc}{E:XK}{X:Cx}(O:XO w g c E X){x:List Expr}{ir:Es}(h:cEs (n+1) c x=some ir):PA X x (tA w g c E ir):=by
 match x with
 | []=>simp only [cEs,Option.some.injEq]at h;subst h;exact qoP
 |e::r=>
  have hs:=qal h e List.mem_cons_self;simp only [cEs,hs,Bool.false_eq_true,if_false,Option.bind_eq_bind,Option.bind_eq_some_iff]at h;obtain⟨ie,h1,ir',h2,h⟩:=h;cases h;exact qny (ih.e O h1) (ih.es O h2) hs
theorem Snd.ts_succ(ih:Snd w g n){c:Cc}{E:XK}{X:Cx}(O:XO w g c E X){op:PySem.BoolOp}{vs:List Expr}{pos:Pos}{ir:T}(h:cTs (n+1) c op vs=some ir):PW X (.BoolOp op vs pos) (tT w g c E ir):=by
 match vs with
 | []=>simp [cTs]at h
 | [a]=>
  simp only [cTs]at h;cases op with
  |And=>exact qnZ (ih.t O h)
  |Or=>exact qqq (ih.t O h)
 |a::b::r=>
  simp only [cTs,Option.bind_eq_bind,Option.bind_eq_some_iff]at h;obtain⟨ia,h1,ir',h2,h⟩:=h;cases op with
  |And=>cases h;exact qpJ (ih.t O h1) (ih.ts O h2)
  |Or=>cases h;exact qrV (ih.t O h1) (ih.ts O h2)
theorem Snd.t_succ(ih:Snd w g n){c:Cc}{E:XK}{X:Cx}(O:XO w g c E X){x:Expr}{ir:T}(h:cT (n+1) c x=some ir):PT X x (tT w g c E ir):=by
 unfold cT at h;split at h
 ·simp only [Option.map_eq_some_iff]at h;obtain⟨ia,h1,rfl⟩:=h;exact qqX (ih.t O h1)
 ·exact(ih.ts O h).pt
 ·cases h
 ·split at h
  ·simp only [Option.bind_eq_bind,Option.bind_eq_some_iff]at h;obtain⟨ia,h1,ib,h2,h⟩:=h;split at h
   ·rename_i hs;cases h;exact qoT O (ih.e O h1) (ih.e O h2) hs
   ·cases h
  ·simp only [Option.bind_eq_bind,Option.bind_eq_some_iff]at h;obtain⟨ia,h1,ib,h2,id',h3,h⟩:=h;split at h
   ·rename_i hs
    simp only [Bool.and_eq_true]at hs;cases h;exact qox O (ih.e O h1) (ih.e O h2) (ih.e O h3) hs.2
   ·cases h
  ·simp only [Option.bind_eq_bind,Option.bind_eq_some_iff]at h;obtain⟨ia,h1,ib,h2,id',h3,if',h4,h⟩:=h;split at h
   ·rename_i hs
    simp only [Bool.and_eq_true]at hs;cases h;exact qou O (ih.e O h1) (ih.e O h2) (ih.e O h3) (ih.e O h4) hs.2
   ·cases h
  ·cases h
 ·rename_i n1 n2 n3 n4
  simp only [Option.map_eq_some_iff]at h;obtain⟨ia,h1,rfl⟩:=h;refine qqL O (ih.e O h1) fun whole=>?_
  cases x with
  |UnaryOp op a p=>cases op<;>first|rfl|exact(n1 _ _ rfl).elim
  |BoolOp op vs p=>exact(n2 _ _ _ rfl).elim
  |IfExp a b d p=>exact(n3 _ _ _ _ rfl).elim
  |Compare a ops bs p=>exact(n4 _ _ _ _ rfl).elim
  |_=>rfl
theorem Snd.i_succ(ih:Snd w g n){c:Cc}{E:XK}{X:Cx}(O:XO w g c E X){tg x:Expr}{ir:It}(h:cI (n+1) c x=some ir)(ht:qcv ir tg=true):PI X tg x (tIt w g c E ir):=by
 have sq:∀{x:Expr}{ir:It},(cE n c x).map It.seq=some ir→PI X tg x (tIt w g c E ir):=fun {x ir} h=>by
  simp only [Option.map_eq_some_iff]at h;obtain⟨ia,h1,rfl⟩:=h;exact qoM O (ih.e O h1)
 have tup:isTup tg=true→∃es k p,tg=.Tuple es k p:=fun h=>by cases tg<;>first|exact⟨_,_,_,rfl⟩|(simp [isTup]at h)
 unfold cI at h;split at h
 ·rename_i f p as q
  split at h
  ·exact sq h
  ·split at h
   ·rename_i hg
    split at h
    ·rename_i a
     split at h
     ·cases h
     ·rename_i hs
      simp only [Option.map_eq_some_iff]at h;obtain⟨ia,h1,rfl⟩:=h;exact qpO O hg (ih.e O h1) (by simpa using hs)
    ·rename_i a b
     split at h
     ·cases h
     ·rename_i hs
      have hs:isStar a=false∧isStar b=false:=by simpa using hs
      simp only [Option.bind_eq_bind,Option.bind_eq_some_iff]at h;obtain⟨ia,h1,ib,h2,h⟩:=h;cases h;exact qng O hg (ih.e O h1) (ih.e O h2) hs.1 hs.2
    ·rename_i a b d
     split at h
     ·cases h
     ·rename_i hs
      have hs:(isStar a=false∧isStar b=false)∧isStar d=false:=by simpa [and_assoc]using hs
      simp only [Option.bind_eq_bind,Option.bind_eq_some_iff]at h;obtain⟨ia,h1,ib,h2,id,h3,h⟩:=h;cases h;exact qnp O hg (ih.e O h1) (ih.e O h2) (ih.e O h3) hs.1.1 hs.1.2 hs.2
    ·cases h
   ·rename_i hg
    split at h
    ·rename_i a
     split at h
     ·cases h
     ·rename_i hs
      simp only [Option.map_eq_some_iff]at h;obtain⟨ia,h1,rfl⟩:=h;obtain⟨es,k,p',rfl⟩:=tup ht;exact qoh O hg (ih.e O h1) (by simpa using hs)
    ·cases h
   ·rename_i hg
    split at h
    ·rename_i a b
     split at h
     ·cases h
     ·rename_i hs
      have hs:isStar a=false∧isStar b=false:=by simpa using hs
      simp only [Option.bind_eq_bind,Option.bind_eq_some_iff]at h;obtain⟨ia,h1,ib,h2,h⟩:=h;cases h;obtain⟨es,k,p',rfl⟩:=tup ht;exact qqJ O hg (ih.e O h1) (ih.e O h2) hs.1 hs.2
    ·cases h
   ·exact sq h
 ·exact sq h
end
section
variable{w:W}{g:Gc}{c:Cc}{E:XK}{X:Cx}{a:Expr}{ia:EV.E}{pos p2 p3 pos3:Pos}
theorem qrc(O:XO w g c E X){st:Expr}(ha:PE X a (tE w g c E ia))(hs:qpu st=true):PE X (.Subscript a (.Slice none none (some st) p2) pos) (tE w g c E (.rev ia)):=fun pins s σ H Q I ⟨τ,S,se,kk⟩=>by
 simp only [qV,zc,zd,zb,qY,za,ze,zf,qZ,qt,qz,qC,qB,qx,qO,qw,qy,qu,qA,qo,qI,qq,qE,qH,qr,qD,qL,qP,qQ,qF,qN,qG,qM,qJ,qK]at kk;exact False.elim kk
end
section
variable{w:W}{g:Gc}{n:Nat}
theorem Snd.call_name(ih:Snd w g n){c:Cc}{E:XK}{X:Cx}(O:XO w g c E X){f:Str}{p pos:Pos}{as:List Expr}{ir:EV.E}(h:cE (n+1) c (.Call (.Name f p) as [] pos)=some ir):PE X (.Call (.Name f p) as [] pos) (tE w g c E ir):=by
 simp only [cE]at h;split at h
 ·rename_i i hl
  simp only [Option.bind_eq_bind,Option.bind_eq_some_iff]at h;obtain⟨ies,h1,h⟩:=h;split at h
  ·rename_i hc
   simp only [Bool.and_eq_true,Bool.not_eq_true']at hc;cases h;obtain⟨⟨hc1,hc2⟩,hc3⟩:=hc
   match as with
   | []=>simp at hc2
   |e::es=>exact qih O (O.calm hc3) (qnb O hl) (ih.es O h1) hc1 (qal h1) rfl
  ·cases h
 ·split at h
  ·rename_i fr hg
   simp only [Option.bind_eq_bind,Option.bind_eq_some_iff]at h;obtain⟨ies,h1,h⟩:=h;split at h
   ·rename_i hc
    simp only [Bool.and_eq_true,Bool.not_eq_true']at hc;cases h
    match as with
    | []=>simp at hc
    |e::es=>exact qql O hg (ih.es O h1) hc.1 (qal h1)
   ·split at h
    ·rename_i hc
     simp only [Bool.not_eq_true']at hc;cases h
     match as with
     | []=>simp at hc
     |e::es=>exact qoq O hg (ih.es O h1) (qal h1)
    ·cases h
  ·rename_i b hg
   split at h
   ·rename_i a hs;cases hs
   simp only [Option.bind_eq_bind,Option.bind_eq_some_iff]at h;obtain⟨ies,h1,h⟩:=h;split at h
   ·rename_i hc
    simp only [Bool.and_eq_true,Bool.not_eq_true',Bool.or_eq_true,beq_iff_eq]at hc;cases h
    match as with
    | []=>simp at hc
    |e::es=>exact qsF O hg (by rcases hc.2 with (z|z)|z;exact .inl (O.calm z);exact .inr (.inl z);exact .inr (.inr z)) (ih.es O h1) (qal h1)
   ·cases h
  ·rename_i t b hg
   have plain:∀{ies:Es},cEs n c as=some ies→as.isEmpty=false→PE X (.Call (.Name f p) as [] pos) (tE w g c E (.bi b ies)):=fun {ies} h1 he=>by
    match as with
    | []=>simp at he
    |e::es=>exact qsH O hg (ih.es O h1) (qal h1)
   split at h
   ·rename_i y p' as' q
    split at h
    ·rename_i hr
     simp only [Bool.and_eq_true,beq_iff_eq]at hr;split at h
     ·rename_i hc
      simp only [Bool.and_eq_true,Bool.or_eq_true,beq_iff_eq]at hc;split at h
      ·rename_i a
       split at h
       ·cases h
       ·rename_i hs
        have hs:isStar a=false:=by simpa using hs
        simp only [Option.bind_eq_bind,Option.bind_eq_some_iff]at h;obtain⟨ia,h1,h⟩:=h;cases h;exact qmY O (O.calm hc.1) hg hr.2 (qqR (ih.e O h1) hs) (by intro z hz;simp at hz;rw [hz];exact hs) hc.2 qlS
      ·rename_i a d
       split at h
       ·cases h
       ·rename_i hs
        have hs:isStar a=false∧isStar d=false:=by simpa using hs
        simp only [Option.bind_eq_bind,Option.bind_eq_some_iff]at h;obtain⟨ia,h1,ib,h2,h⟩:=h;cases h;exact qmY O (O.calm hc.1) hg hr.2 (zi (ih.e O h1) (zi (ih.e O h2) zI (qe hs.2)) (qe hs.1)) (by intro z hz;simp at hz;rcases hz with rfl|rfl;exact hs.1;exact hs.2) hc.2 qmu
      ·rename_i a d k
       split at h
       ·cases h
       ·rename_i hs
        have hs:(isStar a=false∧isStar d=false)∧isStar k=false:=by simpa [and_assoc]using hs
        simp only [Option.bind_eq_bind,Option.bind_eq_some_iff]at h;obtain⟨ia,h1,ib,h2,id,h3,h⟩:=h;split at h
        ·rename_i ht
         have ht:=eq_of_beq ht;subst ht;cases h;exact qpW O (O.calm hc.1) hg hr.2 (ih.e O h1) (ih.e O h2) (ih.e O h3) hs.1.1 hs.1.2 hs.2
        ·cases h
      ·cases h
     ·cases h
    ·simp only [Option.bind_eq_bind,Option.bind_eq_some_iff]at h;obtain⟨ies,h1,h⟩:=h;cases h;exact plain h1 rfl
   ·simp only [Option.bind_eq_bind,Option.bind_eq_some_iff]at h;obtain⟨ies,h1,h⟩:=h;split at h
    ·rename_i hc
     cases h;exact plain h1 (by simpa using hc)
    ·cases h
  ·rename_i hg
   split at h
   ·rename_i a k
    split at h
    ·cases h
    ·rename_i hs
     simp only [Option.bind_eq_bind,Option.bind_eq_some_iff]at h;obtain⟨ia,h1,cl,h2,h⟩:=h;cases h;exact qrr O hg (ih.e O h1) h2 (by simpa using hs)
   ·cases h
  ·cases h
theorem qeR:∀{n:Nat}{c:Cc}{l:List Expr}{es:Es},cEs n c l=some es→l.length≤n
 | 0,_,_,_,h=>by simp [cEs]at h
 |n+1,_,[],_,_=>by simp
 |n+1,c,x::l,es,h=>by
  have hs:=qal h x List.mem_cons_self;simp only [cEs,hs,Bool.false_eq_true,if_false,Option.bind_eq_bind,Option.bind_eq_some_iff]at h;obtain⟨_,_,r,hr,_⟩:=h;have:=qeR hr
  simpa using this
theorem qiu{c:Cc}{elt:Expr}{gs:List Comprehension}{sc:Scope}{p:Pos}{ir:EV.E}(h:cE (n+1) c (.ListComp elt gs sc p)=some ir)(h2:qfa (.ListComp elt gs sc p)=false) :
  ∃tgt it ifs iit itg it' ie,gs=[⟨tgt,it,ifs,0⟩]∧(c.calm=true∧zg it=true)∧(qaR (fun x=>c.nm.lookup x) c.N (zo sc.names) (qbb c sc.names) sc=true∧(zo sc.names).Nodup)∧cI n c it=some iit∧cTg (zp c sc) tgt=some itg∧qcr n (zp c sc) ifs=some it'∧cE n (zp c sc) elt=some ie∧(esc ie=true∧qcv iit tgt=true)∧ir=.comp iit (qbb c sc.names) itg it' ie:=by
 unfold cE at h;dsimp only at h;split at h
 ·rename_i tgt it ifs asy
  split at h
  ·cases h
  ·rename_i hs
   have hs:(asy=0∧c.calm=true)∧zg it=true:=by simpa using hs
   obtain⟨⟨rfl,hs1⟩,hs2⟩:=hs;split at h
   ·cases h
   ·rename_i hk
    have hk:qaR (fun x=>c.nm.lookup x) c.N (zo sc.names) (qbb c sc.names) sc=true∧(zo sc.names).Nodup:=by simpa using hk
    simp only [Option.bind_eq_bind,Option.bind_eq_some_iff]at h;obtain⟨iit,h1,itg,h2,it',h3,ie,h4,h⟩:=h;split at h
    ·rename_i he
     simp only [Bool.and_eq_true]at he;cases h;exact⟨tgt,it,ifs,iit,itg,it',ie,rfl,⟨hs1,hs2⟩,hk,h1,h2,h3,h4,he,rfl⟩
    ·cases h
 ·cases h2
 ·cases h
theorem qlI{c:Cc}{elt:Expr}{gs:List Comprehension}{sc:Scope}{p:Pos}{ir:EV.E}(h:cE (n+1) c (.ListComp elt gs sc p)=some ir)(h2:qfa (.ListComp elt gs sc p)=true) :
  ∃tgt it tgt2 it2 ifs2 iit itg ii2 tg2 it' ie,gs=[⟨tgt,it,[],0⟩,⟨tgt2,it2,ifs2,0⟩]∧(c.calm=true∧zg it=true∧zg it2=true)∧(qaR (fun x=>c.nm.lookup x) c.N (zo sc.names) (qbb c sc.names) sc=true∧(zo sc.names).Nodup)∧cI n c it=some iit∧cTg (zp c sc) tgt=some itg∧cI n (zp c sc) it2=some ii2∧cTg (zp c sc) tgt2=some tg2∧qcr n (zp c sc) ifs2=some it'∧cE n (zp c sc) elt=some ie∧(((esc ie=true∧qcv iit tgt=true)∧qcv ii2 tgt2=true)∧owned ii2=false)∧ir=.comp2 iit (qbb c sc.names) itg ii2 tg2 it' ie:=by
 unfold cE at h;dsimp only at h;split at h
 ·cases h2
 ·rename_i tgt it ifs asy tgt2 it2 ifs2 asy2
  split at h
  ·cases h
  ·rename_i hs
   have hs:((((asy=0∧asy2=0)∧ifs=[])∧c.calm=true)∧zg it=true)∧zg it2=true:=by simpa using hs
   obtain⟨⟨⟨⟨⟨rfl,rfl⟩,rfl⟩,hs1⟩,hs2⟩,hs3⟩:=hs;split at h
   ·cases h
   ·rename_i hk
    have hk:qaR (fun x=>c.nm.lookup x) c.N (zo sc.names) (qbb c sc.names) sc=true∧(zo sc.names).Nodup:=by simpa using hk
    simp only [Option.bind_eq_bind,Option.bind_eq_some_iff]at h;obtain⟨iit,h1,itg,h2,ii2,h3,tg2,h4,it',h5,ie,h6,h⟩:=h;split at h
    ·rename_i he
     simp only [Bool.and_eq_true,Bool.not_eq_true']at he;cases h;exact⟨tgt,it,tgt2,it2,ifs2,iit,itg,ii2,tg2,it',ie,rfl,⟨hs1,hs2,hs3⟩,hk,h1,h2,h3,h4,h5,h6,he,rfl⟩
    ·cases h
 ·cases h
theorem qdS{x:Expr}{t:Str}(h:qhw x=some t):∃k p,x=.Constant (.str t) k p:=by
 unfold qhw at h;split at h
 ·split at h
  ·cases h;exact⟨_,_,rfl⟩
  ·cases h
 ·cases h
theorem qhg{x a:Expr}(h:qiX x=some a):∃p,x=.FormattedValue a (-1) none p:=by
 unfold qiX at h;split at h
 ·split at h
  ·split at h
   ·rename_i e;cases h;subst e;exact⟨_,rfl⟩
   ·cases h
  ·cases h
 ·cases h
theorem qme{vs:List Expr}{t0 t1 t2:Str}{a b:Expr}(h:qlM vs=some (t0,a,t1,b,t2)):∃k0 k1 k2 p0 p1 p2 p3 p4,vs=[.Constant (.str t0) k0 p0,.FormattedValue a (-1) none p1,.Constant (.str t1) k1 p2,.FormattedValue b (-1) none p3,.Constant (.str t2) k2 p4]∧(Str.empty++t0).length≤1000:=by
 unfold qlM at h;split at h
 ·simp only [Option.bind_eq_bind,Option.bind_eq_some_iff]at h;obtain⟨u0,h0,u1,h1,u2,h2,u3,h3,u4,h4,h⟩:=h;split at h
  ·rename_i hz
   cases h;obtain⟨k0,p0,rfl⟩:=qdS h0;obtain⟨p1,rfl⟩:=qhg h1;obtain⟨k1,p2,rfl⟩:=qdS h2;obtain⟨p3,rfl⟩:=qhg h3;obtain⟨k2,p4,rfl⟩:=qdS h4;exact⟨_,_,_,_,_,_,_,_,rfl,hz⟩
  ·cases h
 ·cases h
theorem Snd.e_succ(ih:Snd w g n)(hn:n≤100000){c:Cc}{E:XK}{X:Cx}(O:XO w g c E X){x:Expr}{ir:EV.E}(h:cE (n+1) c x=some ir):PE X x (tE w g c E ir):=by
 have h0:=h;unfold cE at h;split at h
 ·-- Name
  rename_i y p
  split at h
  ·rename_i i hl
   have:=qnb (w:=w) (E:=E) (pos:=p) O hl;cases ho:c.own.contains y with
   |true=>rw [ho]at h this;cases h;exact this
   |false=>rw [ho]at h this;cases h;exact this
  ·split at h
   ·rename_i hg;cases h;exact qrK O hg
   ·rename_i fr hg;cases h;exact qsb O hg
   ·cases h
 ·split at h
  ·cases h;exact qgn qqx fun _=>.int _
  ·cases h;exact qgn qrt fun _=>.bl _
  ·cases h;exact qgn qpf fun _=>.non
  ·cases h;exact qgn qec fun _=>.str _
  ·cases h
 ·simp only [Option.bind_eq_bind,Option.bind_eq_some_iff]at h;obtain⟨o,ho,ia,h1,ib,h2,h⟩:=h;cases h;exact qtf O ho (ih.e O h1) (ih.e O h2)
 ·rename_i op a p
  simp only [Option.bind_eq_bind,Option.bind_eq_some_iff]at h;obtain⟨ia,h1,h⟩:=h;cases op with
  |USub=>cases h;exact qrB (ih.e O h1)
  |Invert=>cases h;exact qrQ (ih.e O h1)
  |Not=>cases h;exact qsa (ih.e O h1)
  |UAdd=>cases h
 ·exact(ih.bo O h).1
 ·split at h
  ·simp only [Option.bind_eq_bind,Option.bind_eq_some_iff]at h;obtain⟨ia,h1,ib,h2,h⟩:=h;split at h
   ·rename_i hs;cases h;exact qrw O (ih.e O h1) (ih.e O h2) hs
   ·cases h
  ·simp only [Option.bind_eq_bind,Option.bind_eq_some_iff]at h;obtain⟨ia,h1,ib,h2,id',h3,h⟩:=h;split at h
   ·rename_i hs
    simp only [Bool.and_eq_true]at hs;cases h;exact qqg O (ih.e O h1) (ih.e O h2) (ih.e O h3) hs.2
   ·cases h
  ·simp only [Option.bind_eq_bind,Option.bind_eq_some_iff]at h;obtain⟨ia,h1,ib,h2,id',h3,if',h4,h⟩:=h;split at h
   ·rename_i hs
    simp only [Bool.and_eq_true]at hs;cases h;exact qqz O (ih.e O h1) (ih.e O h2) (ih.e O h3) (ih.e O h4) hs.2
   ·cases h
  ·cases h
 ·split at h
  ·rename_i ks vs _ hk
   simp only [Bool.and_eq_true,List.isEmpty_iff]at hk;obtain⟨rfl,rfl⟩:=hk;cases h;exact qrh
  ·cases h
 ·split at h
  ·rename_i hf
   simp only [Option.bind_eq_bind,Option.bind_eq_some_iff]at h;obtain⟨ia,h1,ib,h2,h⟩:=h;cases h;obtain⟨k0,k1,k2,p0,p1,p2,p3,p4,rfl,hz⟩:=qme hf;exact qrD hz (ih.e O h1) (ih.e O h2)
  ·cases h
 ·simp only [Option.bind_eq_bind,Option.bind_eq_some_iff]at h;obtain⟨it,h1,ia,h2,ib,h3,h⟩:=h;split at h
  ·rename_i hs
   simp only [Bool.and_eq_true]at hs;cases h;exact qrZ (ih.t O h1) (ih.e O h2) (ih.e O h3) hs.1 hs.2
  ·cases h
 ·simp only [Option.bind_eq_bind,Option.bind_eq_some_iff]at h;obtain⟨ies,h1,h⟩:=h;split at h
  ·rename_i hs;cases h
   exact qrn (ih.es O h1) hs fun τ ds e=>by rw [qdP h1 e];exact Nat.le_trans (qeR h1) hn
  ·cases h
 ·simp only [Option.bind_eq_bind,Option.bind_eq_some_iff]at h;obtain⟨ies,h1,h⟩:=h;split at h
  ·rename_i hs;cases h
   exact qrp (ih.es O h1) hs fun τ ds e=>by rw [qdP h1 e];exact Nat.le_trans (qeR h1) hn
  ·cases h
 ·split at h
  ·rename_i lo hi st' sp
   split at h
   ·split at h
    ·rename_i hq
     simp only [Bool.and_eq_true,Option.isNone_iff_eq_none]at hq;obtain⟨⟨rfl,rfl⟩,hq⟩:=hq;rw [Option.map_eq_some_iff]at h;obtain⟨ia,h1,rfl⟩:=h;exact qrc O (ih.e O h1) hq
    ·cases h
   ·simp only [Option.bind_eq_bind,Option.bind_eq_some_iff]at h;obtain⟨ia,h1,il,h2,ih',h3,h⟩:=h;cases h;exact qsD O (ih.e O h1) (ih.o O h2) (ih.o O h3)
  ·split at h
   ·cases h
   ·rename_i hs
    simp only [Option.bind_eq_bind,Option.bind_eq_some_iff]at h;obtain⟨ia,h1,ib,h2,h⟩:=h;cases h;exact qsn O (ih.e O h1) (ih.e O h2) (by simpa using hs)
 ·-- ListComp
  rename_i elt gs sc p
  cases htwo:qfa (.ListComp elt gs sc p)with
  |true=>
   obtain⟨tgt,it,tgt2,it2,ifs2,iit,itg,ii2,tg2,it',ie,rfl,hs,hk,h1,h2,h3,h4,h5,h6,he,rfl⟩:=qlI h0 htwo;have hS:zz X (zo sc.names) (qbb c sc.names) sc:=zz.of (by
    have e1:(fun x=>c.nm.lookup x)=X.env.kindOf:=by funext x;show _=X.env.scope.names.lookup x;rw [O.nm]
    rw [←e1,O.N];exact hk.1)
   refine qnw O (O.calm hs.1) hS hk.2 (ih.i O h1 he.1.1.2) (fun cl C s₀ H₀ fp=>?_) he.1.1.1 he.2 hs.2.1 hs.2.2;have OY:=O.comp hS.kind hk.2 cl C s₀ H₀ fp;exact⟨qdH OY h2,ih.i OY h3 he.1.2,qdH OY h4,ih.ifs OY h5,ih.e OY h6⟩
  |false=>
  obtain⟨tgt,it,ifs,iit,itg,it',ie,rfl,hs,hk,h1,h2,h3,h4,he,rfl⟩:=qiu h0 htwo;have hS:zz X (zo sc.names) (qbb c sc.names) sc:=zz.of (by
   have e1:(fun x=>c.nm.lookup x)=X.env.kindOf:=by funext x;show _=X.env.scope.names.lookup x;rw [O.nm]
   rw [←e1,O.N];exact hk.1)
  refine qoD O (O.calm hs.1) hS hk.2 (ih.i O h1 he.2) (fun cl C s₀ H₀ fp=>?_) he.1 hs.2;have OY:=O.comp hS.kind hk.2 cl C s₀ H₀ fp;exact⟨qdH OY h2,ih.ifs OY h3,ih.e OY h4⟩
 ·split at h
  ·split at h
   ·exact ih.call_name O h0
   ·simp only [Option.bind_eq_bind,Option.bind_eq_some_iff]at h;obtain⟨ifn,h1,ies,h2,h⟩:=h;split at h
    ·rename_i as pos _ _ _ _ _ hc
     simp only [Bool.and_eq_true,Bool.not_eq_true']at hc;cases h
     match as with
     | []=>simp at hc
     |e::es=>exact qih O (O.calm hc.2) (ih.e O h1) (ih.es O h2) hc.1.1 (qal h2) rfl
    ·cases h
   ·split at h
    ·rename_i hm
     cases h;exact qri O hm
    ·split at h
     ·split at h
      ·cases h
      ·rename_i hc
       simp only [Bool.or_eq_true,Bool.not_eq_true',not_or,Bool.not_eq_true,Bool.not_eq_false]at hc;simp only [Option.bind_eq_bind,Option.bind_eq_some_iff]at h;obtain⟨io,h1,ia,h2,h⟩:=h;split at h
       ·cases h;obtain⟨⟨⟨c1,c2⟩,c3⟩,c4⟩:=hc;have c3:=eq_of_beq c3;subst c3;exact qsf O c1 (ih.e O h1) (ih.e O h2) c2 c4
       ·cases h
     ·cases h
   ·cases h
  ·split at h
   ·split at h
    ·split at h
     ·split at h
      ·cases h
      ·rename_i hc
       simp only [Bool.or_eq_true,Bool.not_eq_true',not_or,Bool.not_eq_true,Bool.not_eq_false]at hc;simp only [Option.bind_eq_bind,Option.bind_eq_some_iff]at h;obtain⟨ia,h1,h⟩:=h;obtain⟨⟨⟨⟨⟨c1,c2⟩,c3⟩,c4⟩,c5⟩,c6⟩:=hc;have c3:=eq_of_beq c3;subst c3;split at h
       ·rename_i hg
        cases h;exact qmR O (O.calm c2) true (eq_of_beq hg) (eq_of_beq c5) (ih.e O h1) c1
       ·split at h
        ·rename_i hg
         cases h;exact qmR O (O.calm c2) false (eq_of_beq hg) (eq_of_beq c5) (ih.e O h1) c1
        ·cases h
     ·cases h
    ·cases h
   ·cases h
  ·cases h
 ·cases h
theorem qmf:Snd w g 0:=⟨fun _ _ _ h=>by simp [cE]at h,fun _ _ _ _ _ h=>by simp [cBo]at h,fun _ _ _ h=>by simp [cO]at h,fun _ _ _ h=>by simp [cEs]at h,fun _ _ _ _ h=>by simp [cI]at h,fun _ _ _ h=>by simp [cT]at h,fun _ _ _ _ _ h=>by simp [cTs]at h,fun _ _ _ h=>by simp [qcr]at h⟩
theorem snd:∀n,n≤100000→Snd w g n
 | 0,_=>qmf
 |n+1,h=>
  have ih:=snd n (Nat.le_of_succ_le h)
  ⟨fun O _ _ q=>ih.e_succ (Nat.le_of_succ_le h) O q,fun O _ _ _ _ q=>ih.bo_succ O q,fun O _ _ q=>ih.o_succ O q,fun O _ _ q=>ih.es_succ O q,fun O _ _ _ q t=>ih.i_succ O q t,fun O _ _ q=>ih.t_succ O q,fun O _ _ _ _ q=>ih.ts_succ O q,fun O _ _ q=>ih.ifs_succ O q⟩
end
noncomputable def zl(c:Cc)(i:Nat):Prop:=∃x,c.N[i]? = some x∧c.own.contains x=true
structure SS(g:Gc)(c:Cc)(H0:Hp)(B:Sh)(τ:Env)(σ:L2.St)(H:Hp)(S:Sh):Prop where
 se:SE g c τ σ H S
 lenN:τ.length=c.N.length
 same:qc H0 H
 sub0:Sub B H0
 hd:∀a,S.h a=(B.h a||S.o a)
 new:∀a,S.o a=true→H0 a=none
 own:∀i d,zl c i→τ[i]? = some (some d)→∃a vs ds,σ[i]? = some (some (.ref a))∧S.o a=true∧d=.lst ds∧H a=some (.lst vs)∧qi g (hid H S) ds vs
 inj:∀i j d e a,zl c i→zl c j→τ[i]? = some (some d)→τ[j]? = some (some e)→σ[i]? = some (some (.ref a))→σ[j]? = some (some (.ref a))→i=j
 frz:c.frz=true→(∀i,zl c i→σ[i]? = B.z[i]?)∧qc B.y H
section
variable{g:Gc}{c:Cc}{H0:Hp}{B:Sh}{τ:Env}{σ:L2.St}{H H':Hp}{S:Sh}
theorem SS.up(s:SS g c H0 B τ σ H S)(e:qc H H'):SS g c H0 B τ σ H' S:=
 ⟨s.se.up e,s.lenN,s.same.trans e,s.sub0,s.hd,s.new,fun i d hi h=>let ⟨a,vs,ds,h1,h2,h3,h4,h5⟩:=s.own i d hi h;⟨a,vs,ds,h1,h2,h3,e _ _ h4,h5.mono (qk e)⟩,s.inj,fun z=>⟨(s.frz z).1,(s.frz z).2.trans e⟩⟩
theorem SS.set{i:Nat}{d:D}{v:V}(s:SS g c H0 B τ σ H S)(hi:¬ zl c i)(r:Rep g (hid H S) d v):SS g c H0 B (τ.set i (some d)) (σ.set i (some v)) H S:=by
 refine⟨s.se.set r,by simp [s.lenN],s.same,s.sub0,s.hd,s.new,fun j e hj h=>?_,fun j k e f a hj hk h1 h2 h3 h4=>?_,fun z=>⟨fun j hj=>?_,(s.frz z).2⟩⟩
 ·have hij:i≠j:=fun z=>hi (z▸hj)
  rw [List.getElem?_set_ne hij]at h ⊢;exact s.own j e hj h
 ·have hij:i≠j:=fun z=>hi (z▸hj)
  have hik:i≠k:=fun z=>hi (z▸hk)
  rw [List.getElem?_set_ne hij]at h1 h3;rw [List.getElem?_set_ne hik]at h2 h4;exact s.inj j k e f a hj hk h1 h2 h3 h4
 ·rw [List.getElem?_set_ne (fun z:i=j=>hi (z▸hj))];exact(s.frz z).1 j hj
theorem SS.setAll{is:List Nat}:∀{ds:List D}{vs:List V}{τ τ':Env}{σ:L2.St}{Q:L2.St→Hp→Prop},SS g c H0 B τ σ H S→(∀i∈is,¬ zl c i)→qi g (hid H S) ds vs→EV.setAll is ds τ=.ok τ'→(∀σ',SS g c H0 B τ' σ' H S→Q σ' H)→qdn is vs σ H Q:=by
 induction is with
 |nil=>
  intro ds vs τ τ' σ Q se _ r h k;cases r with
  |nil=>cases (show R.ok τ=R.ok τ' from h);exact⟨rfl,k σ se⟩
  |cons _ _=>cases (show R.no=R.ok τ' from h)
 |cons i is ih=>
  intro ds vs τ τ' σ Q se ho r h k;cases r with
  |nil=>cases (show R.no=R.ok τ' from h)
  |cons r rs=>exact⟨_,_,rfl,ih (se.set (ho i List.mem_cons_self) r) (fun j hj=>ho j (List.mem_cons_of_mem _ hj)) rs h k⟩
theorem qjg{tg:Tg}(h:qdh c tg):match tg with | .nm i=>¬ zl c i | .tp is=>∀i∈is,¬ zl c i:=by
 cases tg with
 |nm i=>rintro⟨x,h1,h2⟩;rw [h x h1]at h2;cases h2
 |tp is=>rintro i hi ⟨x,h1,h2⟩;rw [h i hi x h1]at h2;cases h2
theorem SS.store{X:Cx}(O:X.K=g.K){tg:Tg}{d:D}{v:V}{τ':Env}{Q:L2.St→Hp→Prop}(s:SS g c H0 B τ σ H S)(hf:qdh c tg)(r:Rep g (hid H S) d v)(h:EV.store tg d τ=.ok τ')(k:∀σ',SS g c H0 B τ' σ' H S→Q σ' H):gT X.K tg v σ H Q:=by
 have ho:=qjg hf;cases tg with
 |nm i=>
  simp only [EV.store,R.ok.injEq]at h;subst h;exact k _ (s.set ho r)
 |tp is=>
  cases d with
  |tup ds=>
   simp only [EV.store]at h;split at h
   ·rename_i hl
    cases r with
    |tup h1 r1=>exact⟨_,_,rfl,by rw [O];exact zT zL h1,by rw [←r1.length];exact hl,s.setAll ho r1 h k⟩
   ·cases h
  |_=>simp [EV.store]at h
noncomputable def qmP(S:Sh)(a:Addr):Sh:=⟨fun b=>S.o b||b==a,fun b=>S.h b||b==a,S.z,S.y⟩
theorem SS.setOwn{i:Nat}{d:D}{v:V}(s:SS g c H0 B τ σ H S)(hz:c.frz=false)(hi:zl c i)(hlt:i<τ.length)(e:qc H H')(f:Fr g H S H' d v):∃S',SS g c H0 B (τ.set i (some d)) (σ.set i (some v)) H' S'∧qc (hid H S) (hid H' S'):=by
 obtain⟨a,vs,ds,rfl,rfl,h1,h2,h3⟩:=f;have up:qc (hid H S) (hid H' (qmP S a)):=fun b o hb=>by
  obtain⟨z1,z2⟩:=qsh.mp hb;refine qsh.mpr ⟨?_,e _ _ z2⟩;show (S.h b||b==a)=false;rw [z1]
  simpa using fun z:b=a=>by rw [z,h1]at z2;cases z2
 have hlt':i<σ.length:=by rw [←s.se.len];exact hlt
 refine⟨qmP S a,⟨⟨by simp [s.se.len],fun j e' hj=>?_,fun b hb n=>?_⟩,by simp [s.lenN],s.same.trans e,s.sub0,fun b=>?_,fun b hb=>?_,fun j e' hj h=>?_,fun j k e1 e2 b hj hk q1 q2 q3 q4=>?_,fun z=>by rw [hz]at z;cases z⟩,up⟩
 ·by_cases hij:i=j
  ·subst hij;simp [hlt]at hj;subst hj;refine⟨.ref a,by simp [hlt'],.inr ⟨a,vs,ds,by show (S.o a||a==a)=true;simp,rfl,rfl,h2,h3⟩,fun x hx hn=>?_⟩;obtain⟨y,hy1,hy2⟩:=hi;rw [hy1]at hx;cases hx;rw [hn]at hy2;cases hy2
  ·rw [List.getElem?_set_ne hij]at hj ⊢;obtain⟨u,z1,z2,z3⟩:=s.se.val j e' hj;refine⟨u,z1,?_,fun x hx hn=>(z3 x hx hn).mono up⟩;rcases z2 with z2|⟨a',vs',ds',y1,y2,y3,y4,y5⟩
   ·exact .inl (z2.mono up)
   ·exact .inr ⟨a',vs',ds',by show (S.o a'||a'==a)=true;rw [y1];rfl,y2,y3,e _ _ y4,y5.mono up⟩
 ·have hb:(S.h b||b==a)=true∨(S.o b||b==a)=true:=hb;by_cases hba:b=a
  ·rw [hba,h2]at n;cases n
  ·have:S.h b=true∨S.o b=true:=by
    rcases hb with z|z
    ·exact .inl (by simpa [hba]using z)
    ·exact .inr (by simpa [hba]using z)
   exact(s.se.sub.same e) b this n
 ·show (S.h b||b==a)=(B.h b||(S.o b||b==a))
  rw [s.hd b,Bool.or_assoc]
 ·have hb:(S.o b||b==a)=true:=hb;by_cases hba:b=a
  ·rw [hba];exact s.same.free h1
  ·exact s.new b (by simpa [hba]using hb)
 ·by_cases hij:i=j
  ·subst hij;simp [hlt]at h;subst h;exact⟨a,vs,ds,by simp [hlt'],by show (S.o a||a==a)=true;simp,rfl,h2,h3⟩
  ·rw [List.getElem?_set_ne hij]at h ⊢;obtain⟨a',vs',ds',y1,y2,y3,y4,y5⟩:=s.own j e' hj h;exact⟨a',vs',ds',y1,by show (S.o a'||a'==a)=true;rw [y2];rfl,y3,e _ _ y4,y5.mono up⟩
 ·have other:∀j e1 b,i≠j→zl c j→τ[j]? = some (some e1)→σ[j]? = some (some (.ref b))→b≠a:=fun j e1 b hij hj q1 q3 z=>by
   obtain⟨a',vs',ds',y1,y2,y3,y4,y5⟩:=s.own j e1 hj q1;rw [q3]at y1;cases y1;rw [z,h1]at y4;cases y4
  by_cases hij:i=j
  ·by_cases hik:i=k
   ·rw [←hij,←hik]
   ·subst hij;rw [List.getElem?_set_ne hik]at q2 q4;have q3':b=a:=by
     have:(σ.set i (some (.ref a)))[i]? = some (some (.ref a)):=by simp [hlt']
     rw [this]at q3;cases q3;rfl
    exact absurd q3' (other k e2 b hik hk q2 q4)
  ·by_cases hik:i=k
   ·subst hik;rw [List.getElem?_set_ne hij]at q1 q3;have q4':b=a:=by
     have:(σ.set i (some (.ref a)))[i]? = some (some (.ref a)):=by simp [hlt']
     rw [this]at q4;cases q4;rfl
    exact absurd q4' (other j e1 b hij hj q1 q3)
   ·rw [List.getElem?_set_ne hij]at q1 q3;rw [List.getElem?_set_ne hik]at q2 q4;exact s.inj j k e1 e2 b hj hk q1 q2 q3 q4
theorem SS.change{i:Nat}{a:Addr}{d0:D}{vs:List V}{ds:List D}(s:SS g c H0 B τ σ H S)(hz:c.frz=false)(hi:zl c i)(h0:τ[i]? = some (some d0))(ha:σ[i]? = some (some (.ref a)))(r:qi g (hid H S) ds vs):SS g c H0 B (τ.set i (some (.lst ds))) σ (upd H a (.lst vs)) S∧qc (hid H S) (hid (upd H a (.lst vs)) S):=by
 have hlt:i<τ.length:=(List.getElem?_eq_some_iff.mp h0).1;obtain⟨a',vs0,ds0,y1,y2,y3,y4,y5⟩:=s.own i d0 hi h0;rw [ha]at y1;cases y1;have hh:S.h a=true:=by rw [s.hd,y2,Bool.or_true]
 have he:hid (upd H a (.lst vs)) S=hid H S:=qbq hh;have other:∀j e,i≠j→zl c j→τ[j]? = some (some e)→∀b,σ[j]? = some (some (.ref b))→b≠a:=fun j e hij hj h b hb z=>by
  subst z;exact hij (s.inj i j d0 e b hi hj h0 h ha hb)
 refine⟨⟨⟨by simp [s.se.len],fun j e hj=>?_,fun b hb n=>?_⟩,by simp [s.lenN],fun b o hb=>?_,s.sub0,s.hd,s.new,fun j e hj h=>?_,fun j k e1 e2 b hj hk q1 q2 q3 q4=>?_,fun z=>by rw [hz]at z;cases z⟩,by rw [he];exact qc.refl _⟩
 ·by_cases hij:i=j
  ·subst hij;simp [hlt]at hj;subst hj;refine⟨.ref a,ha,.inr ⟨a,vs,ds,y2,rfl,rfl,zm,by rw [he];exact r⟩,fun x hx hn=>?_⟩;obtain⟨y,hy1,hy2⟩:=hi;rw [hy1]at hx;cases hx;rw [hn]at hy2;cases hy2
  ·rw [List.getElem?_set_ne hij]at hj;obtain⟨u,z1,z2,z3⟩:=s.se.val j e hj;by_cases ho:zl c j
   ·obtain⟨b,ws,es,w1,w2,w3,w4,w5⟩:=s.own j e ho hj;rw [z1]at w1;cases w1;refine⟨_,z1,.inr ⟨b,ws,es,w2,rfl,w3,by rw [qm (other j e hij ho hj b z1)];exact w4,by rw [he];exact w5⟩,fun x hx hn=>?_⟩;obtain⟨y,hy1,hy2⟩:=ho;rw [hy1]at hx;cases hx;rw [hn]at hy2;cases hy2
   ·have st:Rep g (hid H S) e u:=by
     cases q:c.N[j]? with
     |some x=>
      refine z3 x q ?_;cases q2:c.own.contains x with
      |false=>rfl
      |true=>exact absurd ⟨x,q,q2⟩ ho
     |none=>
      have h1:=(List.getElem?_eq_some_iff.mp hj).1;have h2:=List.getElem?_eq_none_iff.mp q;have h3:=s.lenN;lia
    exact⟨u,z1,.inl (by rw [he];exact st),fun _ _ _=>by rw [he];exact st⟩
 ·by_cases hba:b=a
  ·subst hba;rw [zm]at n;cases n
  ·rw [qm hba]at n;exact s.se.sub b hb n
 ·by_cases hba:b=a
  ·subst hba;rw [s.new b y2]at hb;cases hb
  ·rw [qm hba];exact s.same _ _ hb
 ·by_cases hij:i=j
  ·subst hij;simp [hlt]at h;subst h;exact⟨a,vs,ds,ha,y2,rfl,zm,by rw [he];exact r⟩
  ·rw [List.getElem?_set_ne hij]at h;obtain⟨b,ws,es,w1,w2,w3,w4,w5⟩:=s.own j e hj h;exact⟨b,ws,es,w1,w2,w3,by rw [qm (other j e hij hj h b w1)];exact w4,by rw [he];exact w5⟩
 ·have f:∀k e,(τ.set i (some (.lst ds)))[k]? = some (some e)→∃e',τ[k]? = some (some e'):=fun k e h=>by
   by_cases hik:i=k
   ·subst hik;exact⟨d0,h0⟩
   ·rw [List.getElem?_set_ne hik]at h;exact⟨e,h⟩
  obtain⟨e1',q1'⟩:=f j e1 q1;obtain⟨e2',q2'⟩:=f k e2 q2;exact s.inj j k e1' e2' b hj hk q1' q2' q3 q4
end
noncomputable def qbT(g:Gc)(c:Cc)(E:XK)(fr:Bool)(H0:Hp)(B:Sh)(H:Hp)(S:Sh)(D:Ends):O→Prop
 | .nx τ'=>∀σ' H' S',SS g c H0 B τ' σ' H' S'→qc (hid H S) (hid H' S')→D.nx σ' H'
 | .bk τ'=>∀σ' H' S',SS g c H0 B τ' σ' H' S'→qc (hid H S) (hid H' S')→D.bk σ' H'
 | .ct τ'=>∀σ' H' S',SS g c H0 B τ' σ' H' S'→qc (hid H S) (hid H' S')→D.ct σ' H'
 | .rt d=>∀v H',qc H0 H'→Rep g (hid H' B) d v→(fr=true→Fr g H0 B H' d v)→D.rt v H'
 | .ex k=>∀H' C,qc H0 H'→g.clA k=some C→E (.ref C) none H'
 | .no=>False
section
variable(w:W)(g:Gc)(c:Cc)(E:XK)(fr:Bool)
noncomputable def tS(s:EV.S):TS:=fun D σ H=>∃H0 B τ S,SS g c H0 B τ σ H S∧qbT g c E fr H0 B H S D (evS w s τ)
noncomputable def tSs(s:Ss):TS:=fun D σ H=>∃H0 B τ S,SS g c H0 B τ σ H S∧qbT g c E fr H0 B H S D (qX w s τ)
end
structure XS(w:W)(g:Gc)(c:Cc)(E:XK)(X:Cx):Prop extends XO w g c E X where
 thr:c.thr=true→Throws X E
 exc:∀x C,c.G.lookup x=some .exc→g.clA x=some C→qkb g.K C
 cat:∀k x,w.cat k x=true→∀C D,g.clA k=some C→g.clA x=some D→PySem.W.exmOne g.K (.ref C) (.ref D)=some true
 frm:X.ex=[]∧X.stack=X.env::X.outer∧X.env.frame=some X.env.locals
 gh:∀x k,c.GH.lookup x=some k→k≠.exc∧∀v,GM w g X.prog X.w X.mg X.base (X.A.mark v) false x k
section
variable{w:W}{g:Gc}{c:Cc}{E:XK}{fr:Bool}{X:Cx}{H0:Hp}{B:Sh}{τ:Env}{σ:L2.St}{H H':Hp}{S:Sh}{Ed:Ends}
theorem qbT.up{o:O}{S':Sh}(h:qbT g c E fr H0 B H S Ed o)(e:qc (hid H S) (hid H' S')):qbT g c E fr H0 B H' S' Ed o:=by
 cases o with
 |nx t=>exact fun σ' H2 S2 s e2=>h σ' H2 S2 s (e.trans e2)
 |bk t=>exact fun σ' H2 S2 s e2=>h σ' H2 S2 s (e.trans e2)
 |ct t=>exact fun σ' H2 S2 s e2=>h σ' H2 S2 s (e.trans e2)
 |rt d=>exact h
 |ex k=>exact h
 |no=>exact h
theorem s_e{e:EV.E}{f:D→O}{Q:VK}(ss:SS g c H0 B τ σ H S)(h:qbT g c E fr H0 B H S Ed ((evE w e τ).out f))(k:∀d v H',evE w e τ=.ok d→qbB g c e S H d v H'→qbT g c E fr H0 B H S Ed (f d)→Q v H'):tE w g c E e σ H Q:=by
 refine⟨τ,S,ss.se,?_⟩;cases q:evE w e τ with
 |ok d=>rw [q]at h;exact fun v H' p=>k d v H' q p h
 |ex x=>rw [q]at h;exact fun H' C s hc=>h H' C (ss.same.trans s) hc
 |no=>rw [q]at h;exact h
theorem s_t{t:T}{f:Bool→O}{Q:Bool→Hp→Prop}(ss:SS g c H0 B τ σ H S)(h:qbT g c E fr H0 B H S Ed ((evT w t τ).out f))(k:∀b H',evT w t τ=.ok b→qc H H'→qbT g c E fr H0 B H S Ed (f b)→Q b H'):tT w g c E t σ H Q:=by
 refine⟨τ,S,ss.se,?_⟩;cases q:evT w t τ with
 |ok d=>rw [q]at h;exact fun H' p=>k d H' q p h
 |ex x=>rw [q]at h;exact fun H' C s hc=>h H' C (ss.same.trans s) hc
 |no=>rw [q]at h;exact h
theorem qmL(ss:SS g c H0 B τ σ H S){b:Addr}(h:S.h b=false):B.h b=false:=by
 have:=ss.hd b;rw [h]at this;cases q:B.h b with
 |false=>rfl
 |true=>rw [q]at this;cases this
theorem qsp(ss:SS g c H0 B τ σ H S):qc (hid H' S) (hid H' B):=fun b o h=>by
 obtain⟨z1,z2⟩:=qsh.mp h;exact qsh.mpr ⟨qmL ss z1,z2⟩
theorem qfS:∀{is:List Nat}{ds:List EV.D}{τ:Env}{x:Str},setAll is ds τ≠.ex x
 | [],[],_,_,h=>by cases h
 | [],_::_,_,_,h=>by cases h
 |_::_,[],_,_,h=>by cases h
 |i::is,d::ds,τ,x,h=>by simp only [setAll]at h;exact qfS h
theorem qod{pos:Pos}:PS X (.Pass pos) (tS w g c E fr .pass):=PS.imp qok fun D σ H ⟨H0,B,τ,S,ss,h⟩=>h σ H S ss (qc.refl _)
theorem qqy{pos:Pos}:PS X (.Break pos) (tS w g c E fr .brk):=PS.imp qlT fun D σ H ⟨H0,B,τ,S,ss,h⟩=>h σ H S ss (qc.refl _)
theorem qqc{pos:Pos}:PS X (.Continue pos) (tS w g c E fr .cnt):=PS.imp qhP fun D σ H ⟨H0,B,τ,S,ss,h⟩=>h σ H S ss (qc.refl _)
theorem qaW{e:Expr}{t:Option Expr}{l:Nat}{env:PySem.Env}(h:qaX e=false):swapsWith e t l env=pure false:=by
 cases e<;>first|rfl|(simp [qaX]at h)
theorem qoG{e:Expr}{ie:EV.E}{pos:Pos}(he:PE X e (tE w g c E ie))(hc:qaX e=false):PS X (.Expr e pos) (tS w g c E fr (.exp ie)):=
 PS.imp (qiD he (qaW hc)) fun D σ H ⟨H0,B,τ,S,ss,h⟩=>by
  simp only [qav,qaw,qaC,qay,zW,qas,qax,qak,qaF,zS,qai,qad,zZ,zY,qac,qaf,qae,zX]at h;exact s_e ss h fun d v H' _ p k=>k σ H' S (ss.up p.same) (qk p.same)
theorem qnj{pos:Pos}(hf:fr=false):PS X (.Return none pos) (tS w g c E fr .retN):=PS.imp qnG fun D σ H ⟨H0,B,τ,S,ss,h⟩=>h _ _ ss.same .non (by rw [hf];intro z;cases z)
theorem qeP(ss:SS g c H0 B τ σ H S){a:Addr}{vs:List V}{ds:List EV.D}(h1:H0 a=none)(h2:H' a=some (.lst vs))(h3:qi g (hid H' (zy S a)) ds vs):Rep g (hid H' B) (.lst ds) (.ref a)∧Fr g H0 B H' (.lst ds) (.ref a):=by
 have up:qc (hid H' (zy S a)) (hid H' (zy B a)):=fun b o hb=>by
  obtain⟨z1,z2⟩:=qsh.mp hb;refine qsh.mpr ⟨?_,z2⟩;have z1:(S.h b||b==a)=false:=z1;simp only [Bool.or_eq_false_iff]at z1;show (B.h b||b==a)=false;rw [qmL ss z1.1,z1.2];rfl
 exact⟨.lst (SqL.of (qsh.mpr ⟨ss.sub0.free h1,h2⟩)) (h3.mono (up.trans qdm)),⟨a,vs,ds,rfl,rfl,h1,h2,h3.mono up⟩⟩
theorem qgC(ss:SS g c H0 B τ σ H S){a:Addr}{vs:List V}{ds:List EV.D}(y1:S.o a=true)(y3:qi g (hid H' S) ds vs):qi g (hid H' (zy S a)) ds vs:=y3.mono fun b o hb=>by
 have hh:S.h a=true:=by rw [ss.hd,y1,Bool.or_true]
 obtain⟨z1,z2⟩:=qsh.mp hb;refine qsh.mpr ⟨?_,z2⟩;show (S.h b||b==a)=false;rw [z1]
 simpa using fun z:b=a=>by rw [z,hh]at z1;cases z1
theorem qln{e:Expr}{ie:EV.E}{pos:Pos}(he:PE X e (tE w g c E ie))(hf:fr=true→fresh c ie=true):PS X (.Return (some e) pos) (tS w g c E fr (.ret ie)):=
 PS.imp (qla he) fun D σ H ⟨H0,B,τ,S,ss,h⟩=>by
  simp only [qav,qaw,qaC,qay,zW,qas,qax,qak,qaF,zS,qai,qad,zZ,zY,qac,qaf,qae,zX]at h;refine s_e ss h fun d v H' _ p k=>?_
  have k:∀v H',qc H0 H'→Rep g (hid H' B) d v→(fr=true→Fr g H0 B H' d v)→D.rt v H':=k;have s1:=ss.up p.same;by_cases hz:fr=true
  ·obtain⟨a,vs,ds,rfl,rfl,h1,h2,h3⟩:=p.fr (hf hz);obtain⟨r1,r2⟩:=qeP (H':=H') ss (ss.same.free h1) h2 h3;exact k _ H' s1.same r1 fun _=>r2
  ·rcases p.rb with r|⟨a,vs,ds,y1,rfl,rfl,y2,y3⟩
   ·exact k v H' s1.same (r.mono (qsp ss)) fun z=>absurd z hz
   ·obtain⟨r1,r2⟩:=qeP (H':=H') ss (ss.new a y1) y2 (qgC ss y1 y3);exact k _ H' s1.same r1 fun _=>r2
theorem qjZ(O:XO w g c E X){x:Str}{i:Nat}{p pos:Pos}(h:loc c x=some i)(ho:c.own.contains x=true):PS X (.Return (some (.Name x p)) pos) (tS w g c E fr (.ret (.own i))):=by
 obtain⟨h1,h2,h3,h4⟩:=zv h;refine PS.imp (qla (qed (i:=i) (by rw [O.N];exact h1) (by unfold Vis;rw [O.nm];exact h2) h3 h4)) fun D σ H ⟨H0,B,τ,S,ss,h⟩=>?_
 simp only [qav,qaw,qaC,qay,zW,qas,qax,qak,qaF,zS,qai,qad,zZ,zY,qac,qaf,qae,zX,qV,zc,zd,zb,qY,za,ze,zf,qZ,qt,qz,qC,qB,qx,qO,qw,qy,qu,qA,qo,qI,qq,qE,qH,qr,qD,qL,qP,qQ,qF,qN,qG,qM,qJ,qK,qaj]at h;cases q:τ[i]? with
 |none=>rw [q]at h;exact h.elim
 |some o=>
  cases o with
  |none=>rw [q]at h;exact h.elim
  |some d=>
   rw [q]at h;obtain⟨a,vs,ds,z1,y1,rfl,y2,y3⟩:=ss.own i d ⟨x,h1,ho⟩ q;obtain⟨r1,r2⟩:=qeP (H':=H) ss (ss.new a y1) y2 (qgC ss y1 y3);exact⟨_,z1,h _ H ss.same r1 fun _=>r2⟩
theorem qda{e:Expr}{ie:EV.E}{i:Nat}{st:Stmt}{te:TE}(hp:PS X st (qiN te (qci i)))(hr:∀σ H Q,tE w g c E ie σ H Q→te σ H Q)(hlt:i<c.N.length)(hk:(zl c i∧fresh c ie=true∧c.frz=false)∨(¬ zl c i∧esc ie=true)):PS X st (tS w g c E fr (.set (.nm i) ie)):=
 PS.imp hp fun D σ H ⟨H0,B,τ,S,ss,h⟩=>by
  simp only [qav,qaw,qaC,qay,zW,qas,qax,qak,qaF,zS,qai,qad,zZ,zY,qac,qaf,qae,zX,store]at h;refine hr σ H _ (s_e ss h fun d v H' _ p k=>?_);have k:∀σ' H2 S2,SS g c H0 B (τ.set i (some d)) σ' H2 S2→qc (hid H S) (hid H2 S2)→D.nx σ' H2:=k;rcases hk with ⟨ho,hf,hfz⟩|⟨ho,he⟩
  ·obtain⟨S',s1,s2⟩:=ss.setOwn hfz ho (by rw [ss.lenN];exact hlt) p.same (p.fr hf);exact k _ _ S' s1 s2
  ·exact k _ _ S ((ss.up p.same).set ho (p.st he)) (qk p.same)
theorem qiw(O:XO w g c E X){tg e:Expr}{itg:Tg}{ie:EV.E}{pos:Pos}(he:PE X e (tE w g c E ie))(hg:PG X tg (gT X.K itg))(hf:qdh c itg)(hes:esc ie=true)(hs:swapsWithSole [tg] e pos.line X.env=pure false)(hw:swappedStores [tg] e X.env=pure none)(h1:(assignEach [tg] X.env).map (·.2)=[assign tg X.env]) :
  PS X (.Assign [tg] e pos) (tS w g c E fr (.set itg ie)):=
 PS.imp (qkX he hg hs hw h1) fun D σ H ⟨H0,B,τ,S,ss,h⟩=>by
  simp only [qav,qaw,qaC,qay,zW,qas,qax,qak,qaF,zS,qai,qad,zZ,zY,qac,qaf,qae,zX]at h;refine s_e ss h fun d v H' _ p k=>?_
  cases q:store itg d τ with
  |ok τ'=>
   rw [q]at k;exact(ss.up p.same).store O.K hf (p.st hes) q fun σ' s1=>k σ' H' S s1 (qk p.same)
  |ex z=>cases itg<;>simp only [store]at q<;>first|cases q|(split at q<;>first|cases q|(split at q<;>first|(exact absurd q (qfS))|cases q))
  |no=>rw [q]at k;exact k.elim
theorem qqB(O:XO w g c E X)(hc:X.calm=true){x y:Str}{i j:Nat}{a b:Expr}{ia ib:EV.E}{px py pt pos:Pos}{kt k2 pt2}(hx:zN c x=some i)(hy:zN c y=some j)(lx:c.nm.lookup x=some .local)(ly:c.nm.lookup y=some .local)(hij:i≠j)
  (ha:PE X a (tE w g c E ia)) (hb:PE X b (tE w g c E ib)) (hsa:isStar a=false) (hsb:isStar b=false) (hfa:[a,b].all (foldedForSure 8)=false) (hca:[a,b].all (constantsAlone 8)=false) (hl:(px.line==py.line)=true) (hi:¬ zl c i) (hea:esc ia=true) (hk:(zl c j∧fresh c ib=true∧c.frz=false)∨(¬ zl c j∧esc ib=true)) :
  PS X (.Assign [.Tuple [.Name x px,.Name y py] kt pt] (.Tuple [a,b] k2 pt2) pos) (tS w g c E fr (.par i j ia ib)):=fun pins s σ H D I ⟨H0,B,τ,S,ss,h⟩=>by
 simp only [qav,qaw,qaC,qay,zW,qas,qax,qak,qaF,zS,qai,qad,zZ,zY,qac,qaf,qae,zX]at h;exact False.elim h
theorem qrJ{env:PySem.Env}{x y z:Str}{px py pz pt pt2:Pos}{kt k2:Nat}{a b d:Expr}(bk:env.blockKind=.function)(kx:env.kindOf x=some .local)(ky:env.kindOf y=some .local)(kz:env.kindOf z=some .local)(hl:px.line=py.line)(hl':px.line=pz.line)(hxy:x≠y)(hxz:x≠z)(hyz:y≠z)(ha:isStar a=false)(hb:isStar b=false)(hd:isStar d=false)(h1:[a,b,d].all (foldedForSure 8)=false)(h2:[a,b,d].all (constantsAlone 8)=false) :
  swappedStores [.Tuple [.Name x px,.Name y py,.Name z pz] kt pt] (.Tuple [a,b,d] k2 pt2) env=pure (some [x,y,z]):=by
 have ed:[x,y,z].eraseDups=[x,y,z]:=by
  have e1:(y==x)=false:=by simpa using fun z:y=x=>hxy z.symm
  have e2:(z==x)=false:=by simpa using fun w:z=x=>hxz w.symm
  have e3:(z==y)=false:=by simpa using fun w:z=y=>hyz w.symm
  simp [List.eraseDups_cons,e1,e2,e3]
 have b1:(env.blockKind != .function)=false:=by rw [bk];rfl
 have hp:(Expr.Name x px).pos=px:=rfl;unfold swappedStores;simp only [b1,List.filterMap_cons,List.filterMap_nil,List.head?_cons,Option.map_some,Option.getD_some,hp,kx,ky,kz,←hl,←hl',beq_self_eq_true,Bool.and_self,if_true,ed,h1,h2];rw [if_neg (by simp),if_neg,if_neg (by simp),if_neg Bool.false_ne_true,if_neg Bool.false_ne_true];simp only [List.any_cons,List.any_nil,Bool.or_false,Bool.or_eq_true];rintro(h|h|h)
 ·split at h
  ·cases ha
  ·cases h
 ·split at h
  ·cases hb
  ·cases h
 ·split at h
  ·cases hd
  ·cases h
theorem qnX(O:XO w g c E X)(hc:X.calm=true){x y z:Str}{i j l:Nat}{a b d:Expr}{ia ib id:EV.E}{px py pz pt pos:Pos}{kt k2 pt2}(hx:zN c x=some i)(hy:zN c y=some j)(hz:zN c z=some l)(lx:c.nm.lookup x=some .local)(ly:c.nm.lookup y=some .local)(lz:c.nm.lookup z=some .local)(hij:i≠j)(hil:i≠l)(hjl:j≠l)
  (ha:PE X a (tE w g c E ia)) (hb:PE X b (tE w g c E ib)) (hd:PE X d (tE w g c E id)) (hsa:isStar a=false) (hsb:isStar b=false) (hsd:isStar d=false) (hfa:[a,b,d].all (foldedForSure 8)=false) (hca:[a,b,d].all (constantsAlone 8)=false) (hl:(px.line==py.line)=true) (hl':(px.line==pz.line)=true) (hi:¬ zl c i) (hj:¬ zl c j) (hk:¬ zl c l) (hea:esc ia=true) (heb:esc ib=true) (hed:esc id=true) :
  PS X (.Assign [.Tuple [.Name x px,.Name y py,.Name z pz] kt pt] (.Tuple [a,b,d] k2 pt2) pos) (tS w g c E fr (.par3 i j l ia ib id)):=by
 obtain⟨l1,_⟩:=zt hx;obtain⟨l3,_⟩:=zv l1;obtain⟨m1,_⟩:=zt hy;obtain⟨m3,_⟩:=zv m1;obtain⟨n1,_⟩:=zt hz;obtain⟨n3,_⟩:=zv n1;have hst:=qe (es:=[]) (env:=X.env) hsd;have hst2:=qe (es:=[d]) (env:=X.env) hsb;have hst3:=qe (es:=[b,d]) (env:=X.env) hsa;have hxy:x≠y:=fun q=>by subst q;rw [hx]at hy;cases hy;exact hij rfl
 have hxz:x≠z:=fun q=>by subst q;rw [hx]at hz;cases hz;exact hil rfl
 have hyz:y≠z:=fun q=>by subst q;rw [hy]at hz;cases hz;exact hjl rfl
 have hw:swappedStores [.Tuple [.Name x px,.Name y py,.Name z pz] kt pt] (.Tuple [a,b,d] k2 pt2) X.env=pure (some [x,y,z]):=by
  refine qrJ ?_ ?_ ?_ ?_ (eq_of_beq hl) (eq_of_beq hl') hxy hxz hyz hsa hsb hsd hfa hca
  ·unfold Env.blockKind;rw [O.kind];rfl
  ·show X.env.scope.names.lookup x=_;rw [O.nm,lx]
  ·show X.env.scope.names.lookup y=_;rw [O.nm,ly]
  ·show X.env.scope.names.lookup z=_;rw [O.nm,lz]
 refine PS.imp (qor (i:=i) (j:=j) (k:=l) hc (by rw [O.N];exact O.nd) (by rw [O.N];exact l3) (by rw [O.N];exact m3) (by rw [O.N];exact n3) hij hil hjl (by rw [O.nm];exact lx) (by rw [O.nm];exact ly) (by rw [O.nm];exact lz) (zi ha (zi hb (zi hd zI hst) hst2) hst3) hw rfl) fun D σ H ⟨H0,B,τ,S,ss,h⟩=>?_
 simp only [qav,qaw,qaC,qay,zW,qas,qax,qak,qaF,zS,qai,qad,zZ,zY,qac,qaf,qae,zX]at h;refine s_e ss h fun d1 v H1 _ p1 k1=>?_
 refine s_e (ss.up p1.same) (qbT.up k1 (qk p1.same)) fun d2 v2 H2 _ p2 k2=>?_
 have ss2:=(ss.up p1.same).up p2.same;refine s_e ss2 (qbT.up k2 (qk p2.same)) fun d3 v3 H3 _ p3 k3=>?_
 refine⟨v,v2,v3,rfl,?_⟩;have k3:∀σ' H' S',SS g c H0 B (((τ.set i (some d1)).set j (some d2)).set l (some d3)) σ' H' S'→qc (hid H2 S) (hid H' S')→D.nx σ' H':=k3;have s1:=(ss.up p1.same).set hi (p1.st hea);have s2:=(s1.up p2.same).set hj (p2.st heb);exact k3 _ _ S ((s2.up p3.same).set hk (p3.st hed)) (qk p3.same)
end
section
variable{w:W}{g:Gc}{c:Cc}{E:XK}{fr:Bool}{X:Cx}{H0:Hp}{B:Sh}{τ:Env}{σ:L2.St}{H H':Hp}{S:Sh}{Ed:Ends}
theorem qij{i:Nat}{d:EV.D}(h:qaj τ i=.ok d):τ[i]? = some (some d):=by
 unfold qaj at h;split at h
 ·rename_i q;cases h;exact q
 ·cases h
theorem qpH(O:XO w g c E X)(hfz:c.frz=false){x:Str}{i:Nat}{a:Expr}{ia:EV.E}{p ap cp pos:Pos}(h:loc c x=some i)(ho:c.own.contains x=true)(ha:PE X a (tE w g c E ia))(hes:esc ia=true)(hs:isStar a=false)(hl:(ap.endLine==cp.line)=true) :
  PS X (.Expr (.Call (.Attribute (.Name x p) "append" ap) [a] [] cp) pos) (tS w g c E fr (.app i ia)):=by
 obtain⟨h1,h2,h3,h4⟩:=zv h;have hv:PE X (.Name x p) (qgT i):=qed (i:=i) (by rw [O.N];exact h1) (by unfold Vis;rw [O.nm];exact h2) h3 h4;have hst:=qe (es:=[]) (env:=X.env) hs;have hb:=qmK (X:=X) (apos:=ap) (cpos:=cp) PySem.F.plainAttrs_list PySem.F.slot_list_append PySem.F.type_list_append qfm hv (zi ha zI hst) rfl (by rw [hst];rfl) hl hst rfl;refine PS.imp (qiD hb rfl) fun D σ H ⟨H0,B,τ,S,ss,k⟩=>?_
 simp only [qav,qaw,qaC,qay,zW,qas,qax,qak,qaF,zS,qai,qad,zZ,zY,qac,qaf,qae,zX]at k;cases q:qaj τ i with
 |ex z=>unfold qaj at q;split at q<;>cases q
 |no=>rw [q]at k;exact k.elim
 |ok d0=>
  rw [q]at k;have q':=qij q;have hi:zl c i:=⟨x,h1,ho⟩
  obtain⟨ad,vs,ds,z1,y1,rfl,y2,y3⟩:=ss.own i d0 hi q';refine⟨_,z1,.inl ⟨rfl,vs,SqL.of y2⟩,s_e ss k fun d v H1 _ p1 k1=>?_⟩;simp only at k1;by_cases hz:ds.length<SZ
  ·rw [if_pos hz]at k1;have s1:=ss.up p1.same;have y2':=p1.same _ _ y2;obtain⟨s2,s3⟩:=s1.change (vs:=vs++[v]) (ds:=ds++[d]) hfz hi q' z1 ((y3.mono (qk p1.same)).append (.cons (p1.st hes) .nil));exact⟨ad,vs,v,rfl,rfl,y2',by rw [←y3.length,sizeLine_eq];unfold SZ at hz;lia,k1 _ _ S s2 ((qk p1.same).trans s3)⟩
  ·rw [if_neg hz]at k1;exact k1.elim
theorem qnS(O:XO w g c E X)(hfz:c.frz=false){x:Str}{i:Nat}{k e:Expr}{ik ie:EV.E}{p sp pos:Pos}(h:loc c x=some i)(ho:c.own.contains x=true)(hk:PE X k (tE w g c E ik))(he:PE X e (tE w g c E ie))(hes:esc ie=true)(hsl:isSlice k=false)(hc:qaX e=false) :
  PS X (.Assign [.Subscript (.Name x p) k sp] e pos) (tS w g c E fr (.seti i ik ie)):=by
 obtain⟨h1,h2,h3,h4⟩:=zv h;have hv:PE X (.Name x p) (qgT i):=qed (i:=i) (by rw [O.N];exact h1) (by unfold Vis;rw [O.nm];exact h2) h3 h4;have hg:PG X (.Subscript (.Name x p) k sp) (qqn (qgT i) (tE w g c E ik) qmE):=qqt hv hk set_list (by intro v;cases k<;>first|rfl|(simp [isSlice]at hsl));refine PS.imp (qkX he hg (by simp only [swapsWithSole];exact qaW hc) rfl rfl) fun D σ H ⟨H0,B,τ,S,ss,k⟩=>?_
 simp only [qav,qaw,qaC,qay,zW,qas,qax,qak,qaF,zS,qai,qad,zZ,zY,qac,qaf,qae,zX]at k;refine s_e ss k fun d v H1 _ p1 k1=>?_
 cases q:qaj τ i with
 |ex z=>unfold qaj at q;split at q<;>cases q
 |no=>rw [q]at k1;exact k1.elim
 |ok d0=>
  rw [q]at k1;have q':=qij q;have hi:zl c i:=⟨x,h1,ho⟩
  have s1:=ss.up p1.same;obtain⟨ad,vs,ds,z1,y1,rfl,y2,y3⟩:=s1.own i d0 hi q';refine⟨_,z1,s_e s1 (qbT.up k1 (qk p1.same)) fun n vn H2 _ p2 k2=>?_⟩;cases n with
  |int j=>
   simp only at k2;cases qj:ixN ds.length j with
   |none=>rw [qj]at k2;exact k2.elim
   |some m=>
    rw [qj]at k2;have s2:=s1.up p2.same;have y2':=p2.same _ _ y2;obtain⟨s3,s4⟩:=s2.change (vs:=vs.set m v) (ds:=ds.set m d) hfz hi q' z1 ((y3.mono (qk p2.same)).set ((p1.st hes).mono (qk p2.same)) m);exact⟨ad,vs,j,m,rfl,p2.rb.int,y2',by rw [←y3.length];exact qj,k2 _ _ S s3 ((qk p2.same).trans s4)⟩
  |_=>exact k2.elim
theorem qit:PSs X [] (tSs w g c E fr .nil):=PSs.imp qnM fun D σ H ⟨H0,B,τ,S,ss,h⟩=>by
 simp only [qX]at h;exact h σ H S ss (qc.refl _)
theorem qgw{s:Stmt}{r:List Stmt}{is:EV.S}{ir:Ss}(h1:PS X s (tS w g c E fr is))(h2:PSs X r (tSs w g c E fr ir)):PSs X (s::r) (tSs w g c E fr (.cons is ir)):=
 PSs.imp (qha h1 h2) fun D σ H ⟨H0,B,τ,S,ss,h⟩=>by
  simp only [qX]at h;refine⟨H0,B,τ,S,ss,?_⟩;cases q:evS w is τ with
  |nx τ'=>rw [q]at h;exact fun σ' H' S' s' e=>⟨H0,B,τ',S',s',qbT.up h e⟩
  |bk τ'=>rw [q]at h;exact h
  |ct τ'=>rw [q]at h;exact h
  |rt d=>rw [q]at h;exact h
  |ex k=>rw [q]at h;exact h
  |no=>rw [q]at h;exact h
theorem qqO{t:Expr}{a b:List Stmt}{it:T}{ia ib:Ss}{pos:Pos}(ht:PT X t (tT w g c E it))(ha:PSs X a (tSs w g c E fr ia))(hb:PSs X b (tSs w g c E fr ib)):PS X (.If t a b pos) (tS w g c E fr (.ite it ia ib)):=
 PS.imp (qrX ht ha hb) fun D σ H ⟨H0,B,τ,S,ss,h⟩=>by
  simp only [qav,qaw,qaC,qay,zW,qas,qax,qak,qaF,zS,qai,qad,zZ,zY,qac,qaf,qae,zX]at h;refine s_t ss h fun z H1 _ s1 k1=>?_
  cases z with
  |true=>exact⟨H0,B,τ,S,ss.up s1,qbT.up k1 (qk s1)⟩
  |false=>exact⟨H0,B,τ,S,ss.up s1,qbT.up k1 (qk s1)⟩
theorem PS.nox'{st:Stmt}{t:TS}(h:PS X.nox st t):PS X st t:=fun pins s σ H D I hw=>
 wpAny_mono (h pins s σ H D (I.wish _) hw) (fun _ _ q=>q.unwish) fun _ _ z=>False.elim z
theorem XO.nox(O:XO w g c E X):XO w g c E0 X.nox:=⟨O.K,O.nm,O.N,O.nd,O.calm,O.units,O.fn,O.kind,qkB rfl rfl,O.gok,O.fns,O.sub⟩
theorem XS.nox(O:XS w g c E X):XS w g c E0 X.nox:=⟨O.toXO.nox,fun _ _ _ _ _ _ _ _ _ _ _ z=>False.elim z,O.exc,O.cat,O.frm,O.gh⟩
theorem qmj{o:O}(h:qbT g c E fr H0 B H S Ed o.noEx):qbT g c E0 fr H0 B H S Ed o∧(∀k,o≠.ex k)∧o≠.no:=by
 cases o with
 |ex k=>exact h.elim
 |no=>exact h.elim
 |nx t=>exact⟨h,(fun _ z=>by cases z),(fun z=>by cases z)⟩
 |bk t=>exact⟨h,(fun _ z=>by cases z),(fun z=>by cases z)⟩
 |ct t=>exact⟨h,(fun _ z=>by cases z),(fun z=>by cases z)⟩
 |rt t=>exact⟨h,(fun _ z=>by cases z),(fun z=>by cases z)⟩
noncomputable def frozen(c:Cc)(b:Bool):Cc:={c with frz:=c.frz||b}
theorem XS.froze(O:XS w g c E X){b:Bool}:XS w g (frozen c b) E X:=
 ⟨⟨O.K,O.nm,O.N,O.nd,O.calm,O.units,O.fn,O.kind,O.pass,O.gok,O.fns,O.sub⟩,O.thr,O.exc,O.cat,O.frm,O.gh⟩
noncomputable def qct(B:Sh)(b:Bool)(σ:L2.St)(H:Hp):Sh:=if b=true then ⟨B.o,B.h,σ,H⟩else B
theorem qgS{b:Bool}:(qct B b σ H).h=B.h:=by unfold qct;split<;>rfl
theorem qoz{b:Bool}{H1:Hp}:hid H1 (qct B b σ H)=hid H1 B:=by funext a;unfold hid;rw [qgS]
theorem SS.froze(b:Bool)(ss:SS g c H0 B τ σ H S):SS g (frozen c b) H0 (qct B b σ H) τ σ H S:=by
 refine⟨⟨ss.se.len,ss.se.val,ss.se.sub⟩,ss.lenN,ss.same,?_,?_,ss.new,ss.own,ss.inj,fun z=>?_⟩
 ·unfold qct;split
  ·exact ss.sub0
  ·exact ss.sub0
 ·rw [qgS];exact ss.hd
 ·cases b with
  |true=>exact⟨fun i _=>rfl,qc.refl _⟩
  |false=>
   have z:(c.frz||false)=true:=z;rw [Bool.or_false]at z;exact ss.frz z
theorem SS.thaw{b:Bool}{σ1:L2.St}{H1:Hp}{τ1:Env}{S1:Sh}(s0:SS g c H0 B τ1 σ1 H1 S1)(ss:SS g (frozen c b) H0 (qct B b σ1 H1) τ σ H S):SS g c H0 B τ σ H S:=by
 refine⟨⟨ss.se.len,ss.se.val,ss.se.sub⟩,ss.lenN,ss.same,s0.sub0,?_,ss.new,ss.own,ss.inj,fun z=>?_⟩
 ·have:=ss.hd;rw [qgS]at this;exact this
 ·have f:=ss.frz (by show (c.frz||b)=true;rw [z];rfl);cases b with
  |true=>exact⟨fun i hi=>(f.1 i hi).trans ((s0.frz z).1 i hi),(s0.frz z).2.trans f.2⟩
  |false=>exact f
theorem SS.iced{b:Bool}{σ1:L2.St}{H1:Hp}(hb:b=true)(ss:SS g (frozen c b) H0 (qct B b σ1 H1) τ σ H S):qc H1 H:=by
 subst hb;exact(ss.frz (by show (c.frz||true)=true;rw [Bool.or_true])).2
theorem qoW(O:XO w g c E X)(hc:X.calm=true){tg it:Expr}{b:List Stmt}{itg:Tg}{iit:It}{ib:Ss}{pos:Pos}(hi:PI X.nox tg it (tIt w g c E0 iit))(hg:PG X.nox tg (gT X.K itg))(hf:qdh c itg)(hb:PSs X.nox b (tSs w g (frozen c (owned iit)) E0 fr ib))(hs:zg it=true) :
  PS X (.For tg it b [] pos) (tS w g c E fr (.for itg iit ib)):=by
 refine PS.nox' (PS.imp (qpY (X:=X.nox) PassesOwn.never hc hi hg hb (fun x=>by cases it<;>first|rfl|(simp [zg]at hs))) fun D σ H ⟨H0,B,τ,S,ss,h⟩=>?_);simp only [qav,qaw,qaC,qay,zW,qas,qax,qak,qaF,zS,qai,qad,zZ,zY,qac,qaf,qae,zX]at h;obtain⟨h,nex,nno⟩:=qmj h;cases q:evI w iit τ with
 |ex z=>rw [q]at nex;exact absurd rfl (nex z)
 |no=>rw [q]at nno;exact absurd rfl nno
 |ok ds=>
  rw [q]at h nex nno;simp only [R.out_ok]at h nex nno;refine⟨τ,S,ss.se,?_⟩;rw [q];intro J H1 s1 kW kS;generalize hr:qau itg (fun σ=>qX w ib σ) ds τ=r at h nex nno;refine⟨fun i m σ' H'=>m=ds.length-i∧i≤ds.length∧∃τ' S',SS g (frozen c (owned iit)) H0 (qct B (owned iit) σ H1) τ' σ' H' S'∧qc (hid H1 S) (hid H' S')∧qau itg (fun σ=>qX w ib σ) (ds.drop i) τ'=r,⟨ds.length,rfl,Nat.zero_le _,τ,S,(ss.up s1).froze _,qc.refl _,hr⟩,?_⟩;rintro i m σ' H' ⟨rfl,hi',τ',S',ss',e',hl⟩;have gg:Goes g J ds H' S':=by
   cases hw:owned iit with
   |false=>exact kS hw H' S' e' ss'.se.sub
   |true=>exact kW H' S' (ss'.iced hw) e' ss'.se.sub
  obtain⟨g1,g2⟩:=gg;have eH:qc (hid H S) (hid H' S'):=(qk s1).trans e';by_cases hlt:i<ds.length
  ·have hd:ds[i]? = some ds[i]:=List.getElem?_eq_getElem hlt;obtain⟨go1,go2⟩:=g2 i ds[i] hd;refine .inr ⟨go1,fun σ2 H2=>∃τ' S',SS g (frozen c (owned iit)) H0 (qct B (owned iit) σ H1) τ' σ2 H2 S'∧qc (hid H1 S) (hid H2 S')∧qau itg (fun σ=>qX w ib σ) (ds.drop (i+1)) τ'=r,fun σ2 H2 z=>⟨ds.length-(i+1),by lia,rfl,hlt,z⟩,fun x H2 hy=>?_⟩;obtain⟨s2,rx⟩:=go2 x H2 hy;rw [List.drop_eq_getElem_cons hlt]at hl;simp only [qau]at hl;cases q1:store itg ds[i] τ' with
   |ex z=>rw [q1]at hl;exact absurd hl.symm (nex z)
   |no=>rw [q1]at hl;exact absurd hl.symm nno
   |ok τ1=>
    rw [q1]at hl;simp only [R.out_ok]at hl;refine(ss'.up s2).store O.K hf rx q1 fun σ1 ss1=>⟨H0,_,τ1,S',ss1,?_⟩
    cases q2:qX w ib τ1 with
    |nx τ2=>rw [q2]at hl;exact fun σ2 H3 S3 s3 e3=>⟨τ2,S3,s3,(e'.trans (qk s2)).trans e3,hl⟩
    |ct τ2=>rw [q2]at hl;exact fun σ2 H3 S3 s3 e3=>⟨τ2,S3,s3,(e'.trans (qk s2)).trans e3,hl⟩
    |bk τ2=>
     rw [q2]at hl;simp only at hl;rw [←hl]at h;exact fun σ2 H3 S3 s3 e3=>h σ2 H3 S3 ((ss.up s1).thaw s3) ((eH.trans (qk s2)).trans e3)
    |rt d=>
     rw [q2]at hl;simp only at hl;rw [←hl]at h;refine fun v H3 s3 r3 f3=>h v H3 s3 (by rw [qoz]at r3;exact r3) fun z=>?_
     have f3:=f3 z;unfold qct at f3;split at f3
     ·exact f3
     ·exact f3
    |ex z=>rw [q2]at hl;exact absurd hl.symm (nex z)
    |no=>rw [q2]at hl;exact absurd hl.symm nno
  ·have e:i=ds.length:=by lia
   subst e;rw [List.drop_length]at hl;simp only [qau]at hl;rw [←hl]at h;exact .inl ⟨g1 ds.length (Nat.le_refl _),h σ' H' S' ((ss.up s1).thaw ss') eH⟩
end
section
variable{w:W}{g:Gc}{c:Cc}{E:XK}{fr:Bool}{X:Cx}{H0:Hp}{B:Sh}{τ:Env}{σ:L2.St}{H H':Hp}{S:Sh}{Ed:Ends}
theorem qkW{s:Stmt}:PS X s (tS w g c E fr .unk):=fun pins s σ H D I ⟨H0,B,τ,S,ss,h⟩=>by
 simp only [qav,qaw,qaC,qay,zW,qas,qax,qak,qaF,zS,qai,qad,zZ,zY,qac,qaf,qae,zX]at h;exact h.elim
theorem qpD(O:XO w g c E X)(hfz:c.frz=false){x:Str}{i:Nat}{k a:Expr}{ik ia:EV.E}{p ap cp pos:Pos}(h:loc c x=some i)(ho:c.own.contains x=true)(hk:PE X k (tE w g c E ik))(ha:PE X a (tE w g c E ia))(hes:esc ia=true)(hsk:isStar k=false)(hs:isStar a=false)(hl:(ap.endLine==cp.line)=true) :
  PS X (.Expr (.Call (.Attribute (.Name x p) "insert" ap) [k,a] [] cp) pos) (tS w g c E fr (.ins i ik ia)):=fun pins s σ H D I ⟨H0,B,τ,S,ss,h⟩=>by
 simp only [qav,qaw,qaC,qay,zW,qas,qax,qak,qaF,zS,qai,qad,zZ,zY,qac,qaf,qae,zX]at h;exact False.elim h
end
theorem qjk{e:Expr}{x:Str}{ap cp:Pos}{k a:Expr}(h:qmZ e=some (x,ap,k,a,cp)):∃p,e=.Call (.Attribute (.Name x p) "insert" ap) [k,a] [] cp:=by cases h
theorem qkl{x y:Str}{px py pt pt2:Pos}{kt k2:Nat}{a b:Expr}{env:PySem.Env}(h:env.kindOf x≠some .local):swappedStores [.Tuple [.Name x px,.Name y py] kt pt] (.Tuple [a,b] k2 pt2) env=pure none:=by
 have hx:(env.kindOf x==some NameKind.local)=false:=by simpa using h
 unfold swappedStores;simp only;split
 ·rfl
 ·split
  ·rfl
  ·split
   ·rfl
   ·rename_i hq
    exfalso;refine hq ?_;rw [List.filterMap_cons_none (by simp only [hx,Bool.false_and];rfl)];have:∀l:List Expr,∀f:Expr→Option Str,(l.filterMap f).length≤l.length:=fun l f=>List.length_filterMap_le f l
    simp only [Bool.or_eq_true,bne_iff_ne,ne_eq];left;intro z;have q:([Expr.Name x px,Expr.Name y py]:List Expr).length≤([Expr.Name y py]:List Expr).length:=by rw [←z];exact this _ _
    simp at q
theorem qkn{ts:List Expr}{k:Nat}{p:Pos}{e:Expr}{env:PySem.Env}(h:isTup e=true→qjB e=true):swappedStores [.Tuple ts k p] e env=pure none:=by
 cases e<;>first|rfl|skip
 rename_i vs k2 p2
 have h:vs.all (foldedForSure 8)=true:=h rfl;unfold swappedStores;simp only [h,if_true];split
 ·rfl
 ·split
  ·rfl
  ·split
   ·rfl
   ·rfl
theorem qhx{ts:List Expr}{e:Expr}{x y:Str}{a b:Expr}(h:qpr ts e=some (x,y,a,b)):∃px py k2 pt2,ts=[.Name x px,.Name y py]∧e=.Tuple [a,b] k2 pt2∧isStar a=false∧isStar b=false∧[a,b].all (foldedForSure 8)=false∧[a,b].all (constantsAlone 8)=false∧(px.line==py.line)=true:=by cases h
theorem qli{ts:List Expr}{e:Expr}{x y z:Str}{a b d:Expr}(h:qjK ts e=some (x,y,z,a,b,d)):∃px py pz k2 pt2,ts=[.Name x px,.Name y py,.Name z pz]∧e=.Tuple [a,b,d] k2 pt2∧isStar a=false∧isStar b=false∧isStar d=false∧[a,b,d].all (foldedForSure 8)=false∧[a,b,d].all (constantsAlone 8)=false∧(px.line==py.line)=true∧(px.line==pz.line)=true:=by
 unfold qjK at h;split at h
 ·split at h
  ·split at h
   ·rename_i hc
    simp only [Bool.and_eq_true,Bool.not_eq_true']at hc;cases h;exact⟨_,_,_,_,_,rfl,rfl,hc.1.1.1.1.1.1,hc.1.1.1.1.1.2,hc.1.1.1.1.2,hc.1.1.1.2,hc.1.1.2,hc.1.2,hc.2⟩
   ·cases h
  ·cases h
 ·cases h
section
variable{w:W}{g:Gc}{c:Cc}{E:XK}{fr:Bool}{X:Cx}
theorem qiJ(O:XO w g c E X){n:Nat}(hn:n≤100000){x:Str}{i:Nat}{elt:Expr}{gs:List Comprehension}{sc:Scope}{p p' pos:Pos}{ie:EV.E}(hl:zN c x=some i)(h:cE n c (.ListComp elt gs sc p)=some ie)(htw:qfa (.ListComp elt gs sc p)=false)(hk:(zl c i∧fresh c ie=true∧c.frz=false)∨(¬ zl c i∧esc ie=true)) :
  PS X (.Assign [.Name x p'] (.ListComp elt gs sc p) pos) (tS w g c E fr (.set (.nm i) ie)):=by
 obtain⟨l1,l2⟩:=zt hl;obtain⟨l3,_⟩:=zv l1;have hlt:i<c.N.length:=(List.getElem?_eq_some_iff.mp l3).1;have hN:X.N.Nodup:=by rw [O.N];exact O.nd
 have hix:X.N[i]? = some x:=by rw [O.N];exact l3
 have hx:L2.Loc X.env.scope x:=by unfold L2.Loc;rw [O.nm];rcases l2 with z|z;exact .inl z;exact .inr z.1
 have hf:X.fn x=true∨X.env.scope.names.lookup x=some .local:=by
  rcases l2 with z|z
  ·exact .inr (by rw [O.nm];exact z)
  ·exact .inl (O.fn x z.2)
 cases hb:(X.env.blockKind==.function&&X.env.kindOf x==some .local&&p'.line==p.line && !(sc.names.any fun(n,k)=>n==x&&(k==.local||k==.cell)))with
 |false=>
  have hs:swapsWith (.ListComp elt gs sc p) (some (.Name x p')) pos.line X.env=pure false:=by rw [←hb];rfl
  exact qda (e:=.ListComp elt gs sc p) (qku hN hix hx ((snd n hn).e O h) hs hf) (fun _ _ _ z=>z) hlt hk
 |true=>
  have hs:swapsWith (.ListComp elt gs sc p) (some (.Name x p')) pos.line X.env=pure true:=by rw [←hb];rfl
  match n,h with
  | 0,h=>simp [cE]at h
  |m+1,h=>
   have ih:=snd (w:=w) (g:=g) m (Nat.le_of_succ_le hn);obtain⟨tgt,it,ifs,iit,itg,it',ie',rfl,hs1,hk1,h1,h2,h3,h4,he,rfl⟩:=qiu h htw;have hS:zz X (zo sc.names) (qbb c sc.names) sc:=zz.of (by
    have e1:(fun x=>c.nm.lookup x)=X.env.kindOf:=by funext x;show _=X.env.scope.names.lookup x;rw [O.nm]
    rw [←e1,O.N];exact hk1.1)
   refine qda (e:=.ListComp elt [⟨tgt,it,ifs,0⟩] sc p) (qiW (tb:=fun acc=>qcM acc (tE w g (zp c sc) E0 ie')) hN hix hx (O.calm hs1.1) hS (ih.i O h1 he.2) (fun cl C s₀ H₀ fp=>?_) (by simp) hs hf (fun x=>by
    have q:=hs1.2;cases it<;>first|rfl|cases q)) (fun σ H Q q=>qdp O hS he.1 q) hlt hk
   have OY:=O.comp hS.kind hk1.2 cl C s₀ H₀ fp;exact⟨qdH OY h2,ih.ifs OY h3,fun acc=>qeT rfl (ih.e OY h4)⟩
end
structure qmx(w:W)(g:Gc)(n:Nat):Prop where
 s:∀{c:Cc}{E:XK}{X:Cx} (O:XS w g c E X) {fr:Bool}{x:Stmt}{ir:EV.S},cS n c fr x=some ir→PS X x (tS w g c E fr ir)
 ss:∀{c:Cc}{E:XK}{X:Cx} (O:XS w g c E X) {fr:Bool}{x:List Stmt}{ir:Ss},cSs n c fr x=some ir→PSs X x (tSs w g c E fr ir)
section
variable{w:W}{g:Gc}{n:Nat}
theorem qmx.ss_succ(ih:qmx w g n){c:Cc}{E:XK}{X:Cx}(O:XS w g c E X){fr:Bool}{x:List Stmt}{ir:Ss}(h:cSs (n+1) c fr x=some ir):PSs X x (tSs w g c E fr ir):=by
 match x with
 | []=>simp only [cSs,Option.some.injEq]at h;subst h;exact qit
 |s::r=>
  simp only [cSs,Option.bind_eq_bind,Option.bind_eq_some_iff]at h;obtain⟨ir',h2,h⟩:=h;cases h;cases h1:cS n c fr s with
  |none=>exact qgw qkW (ih.ss O h2)
  |some is=>exact qgw (ih.s O h1) (ih.ss O h2)
theorem qbP{c:Cc}{x:Str}{i:Nat}(h:c.N[i]? = some x):zl c i↔c.own.contains x=true:=⟨fun⟨y,h1,h2⟩=>by rw [h]at h1;cases h1;exact h2,fun h2=>⟨x,h,h2⟩⟩
theorem qiO{e:Expr}{x m:Str}{ap cp:Pos}{a:Expr}(h:qjw e=some (x,m,ap,a,cp)):∃p,e=.Call (.Attribute (.Name x p) m ap) [a] [] cp:=by
 unfold qjw at h;split at h
 ·split at h
  ·split at h
   ·split at h
    ·split at h
     ·rename_i hk;cases h;rw [List.isEmpty_iff]at hk;subst hk;exact⟨_,rfl⟩
     ·cases h
    ·cases h
   ·cases h
  ·cases h
 ·cases h
theorem qmx.s_succ(ih:qmx w g n)(hn:n≤100000){c:Cc}{E:XK}{X:Cx}(O:XS w g c E X){fr:Bool}{x:Stmt}{ir:EV.S}(h:cS (n+1) c fr x=some ir):PS X x (tS w g c E fr ir):=by
 have K:=snd (w:=w) (g:=g) n hn;unfold cS at h;split at h
 ·rename_i ts0 e pos
  split at h
  ·rename_i t0
   split at h
   ·-- x = e
    rename_i y p
    split at h
    ·cases h
    rename_i htw
    have htw:qfa e=false:=by simpa using htw
    simp only [Option.bind_eq_bind,Option.bind_eq_some_iff]at h;obtain⟨i,hl,ie,h1,h⟩:=h;obtain⟨l1,l2⟩:=zt hl;obtain⟨l3,_⟩:=zv l1;have ho:=qbP l3;have hk:((zl c i∧fresh c ie=true∧c.frz=false)∨(¬ zl c i∧esc ie=true))∧ir=.set (.nm i) ie:=by
     split at h
     ·rename_i hy
      split at h
      ·rename_i hf;cases h;exact⟨.inl ⟨ho.mpr hy,by simpa using hf⟩,rfl⟩
      ·cases h
     ·rename_i hy
      split at h
      ·rename_i hf;cases h;exact⟨.inr ⟨fun z=>hy (ho.mp z),hf⟩,rfl⟩
      ·cases h
    obtain⟨hk,rfl⟩:=hk;cases hc:qaX e with
    |false=>
     refine qda (e:=e) (qku (i:=i) (by rw [O.N];exact O.nd) (by rw [O.N];exact l3) (by unfold L2.Loc;rw [O.nm];rcases l2 with z|z;exact .inl z;exact .inr z.1) (K.e O.toXO h1) (qaW hc) ?_) (fun _ _ _ z=>z) (List.getElem?_eq_some_iff.mp l3).1 hk;rcases l2 with z|z
     ·exact .inr (by rw [O.nm];exact z)
     ·exact .inl (O.fn y z.2)
    |true=>
     cases e with
     |ListComp elt gs sc p=>exact qiJ O.toXO hn hl h1 htw hk
     |SetComp elt gs sc p=>match n,h1 with
      | 0,h1=>cases h1
      |m+1,h1=>cases h1
     |DictComp a b gs sc p=>match n,h1 with
      | 0,h1=>cases h1
      |m+1,h1=>cases h1
     |_=>cases hc
   ·-- (a, b) = e
    rename_i ts k p
    split at h
    ·rename_i x y a b hp
     split at h
     ·rename_i hx
      simp only [Option.bind_eq_bind,Option.bind_eq_some_iff]at h;obtain⟨tg,h1,ie,h2,h⟩:=h;split at h
      ·cases h
      ·rename_i hc
       cases h;obtain⟨px,py,k2,pt2,rfl,rfl,hsa,hsb,hfa,hca,hl⟩:=qhx hp;refine qiw O.toXO (K.e O.toXO h2) (qdH O.toXO h1) (qdG h1) (by simpa using hc) rfl ?_ rfl;refine qkl (fun z=>?_);rw [show X.env.kindOf x=X.env.scope.names.lookup x from rfl,O.nm]at z;rw [z]at hx;cases hx
     simp only [Option.bind_eq_bind,Option.bind_eq_some_iff]at h;obtain⟨i,hx,j,hy,ia,h1,ib,h2,h⟩:=h;obtain⟨px,py,k2,pt2,rfl,rfl,hsa,hsb,hfa,hca,hl⟩:=qhx hp;split at h
     ·cases h
     ·rename_i hc
      simp only [Bool.or_eq_true,Bool.not_eq_true',not_or,Bool.not_eq_true,Bool.not_eq_false]at hc;obtain⟨⟨⟨⟨⟨⟨⟨c1,c2⟩,c3⟩,c4⟩,c5⟩,c6⟩,c7⟩,c8⟩:=hc;obtain⟨l1,_⟩:=zt hx;obtain⟨l3,_⟩:=zv l1;obtain⟨m1,_⟩:=zt hy;obtain⟨m3,_⟩:=zv m1;have oi:=qbP l3;have oj:=qbP m3;have hk:((zl c j∧fresh c ib=true∧c.frz=false)∨(¬ zl c j∧esc ib=true))∧ir=.par i j ia ib:=by
       split at h
       ·rename_i hy'
        split at h
        ·rename_i hf;cases h;exact⟨.inl ⟨oj.mpr hy',by simpa using hf⟩,rfl⟩
        ·cases h
       ·rename_i hy'
        split at h
        ·rename_i hf;cases h;exact⟨.inr ⟨fun z=>hy' (oj.mp z),hf⟩,rfl⟩
        ·cases h
      obtain⟨hk,rfl⟩:=hk;exact qqB O.toXO (O.calm c1) hx hy (eq_of_beq c2) (eq_of_beq c3) (by simpa using c4) (K.e O.toXO h1) (K.e O.toXO h2) c7 c8 hfa hca hl (fun z=>by have:=oi.mp z;rw [c5]at this;cases this) c6 hk
    split at h
    ·rename_i x y z a b d hp
     simp only [Option.bind_eq_bind,Option.bind_eq_some_iff]at h;obtain⟨i,hx,j,hy,l,hz,ia,h1,ib,h2,id,h3,h⟩:=h;obtain⟨px,py,pz,k2,pt2,rfl,rfl,hsa,hsb,hsd,hfa,hca,hl,hl'⟩:=qli hp;split at h
     ·cases h
     ·rename_i hc
      simp only [Bool.or_eq_true,Bool.not_eq_true',not_or,Bool.not_eq_true,Bool.not_eq_false]at hc;obtain⟨⟨⟨⟨⟨⟨⟨⟨⟨⟨⟨⟨c1,c2⟩,c3⟩,c4⟩,c5⟩,c6⟩,c7⟩,c8⟩,c9⟩,c10⟩,c11⟩,c12⟩,c13⟩:=hc;cases h;have oi:=qbP (zv (zt hx).1).1;have oj:=qbP (zv (zt hy).1).1;have ol:=qbP (zv (zt hz).1).1;exact qnX O.toXO (O.calm c1) hx hy hz (eq_of_beq c2) (eq_of_beq c3) (eq_of_beq c4) (by simpa using c5) (by simpa using c6) (by simpa using c7) (K.e O.toXO h1) (K.e O.toXO h2) (K.e O.toXO h3) hsa hsb hsd hfa hca hl hl' (fun q=>by have:=oi.mp q;rw [c8]at this;cases this) (fun q=>by have:=oj.mp q;rw [c9]at this;cases this) (fun q=>by have:=ol.mp q;rw [c10]at this;cases this) c11 c12 c13
    simp only [Option.bind_eq_bind,Option.bind_eq_some_iff]at h;obtain⟨tg,h1,ie,h2,h⟩:=h;split at h
    ·cases h
    ·rename_i hc
     have hc:((isTup e=true→qjB e=true)∧qaX e=false)∧esc ie=true:=by simpa using hc
     cases h;refine qiw O.toXO (K.e O.toXO h2) (qdH O.toXO h1) (qdG h1) hc.2 (by simp only [swapsWithSole];exact qaW hc.1.2) ?_ rfl;exact qkn hc.1.1
   ·-- x[k] = e
    split at h
    ·simp only [Option.bind_eq_bind,Option.bind_eq_some_iff]at h;obtain⟨i,hl,ie,h1,ik,h2,h⟩:=h;split at h
     ·rename_i hc
      simp only [Bool.and_eq_true,Bool.not_eq_true']at hc;cases h;exact qnS O.toXO hc.2 (zt hl).1 hc.1.1.1.1 (K.e O.toXO h2) (K.e O.toXO h1) hc.1.1.1.2 hc.1.1.2 hc.1.2
     ·cases h
    ·cases h
   ·cases h
  ·cases h
 ·split at h
  ·-- x.insert(k, a)
   rename_i he
   obtain⟨p,rfl⟩:=qjk he;simp only [Option.bind_eq_bind,Option.bind_eq_some_iff]at h;obtain⟨i,hl,ik,h0,ia,h1,h⟩:=h;split at h
   ·rename_i hc
    simp only [Bool.and_eq_true,Bool.not_eq_true',beq_iff_eq]at hc;cases h;obtain⟨⟨⟨⟨⟨c2,c3⟩,c4⟩,c5⟩,c6⟩,c7⟩:=hc;exact qpD O.toXO c7 (zt hl).1 c2 (K.e O.toXO h0) (K.e O.toXO h1) c3 c4 c5 (by simpa using c6)
   ·cases h
  split at h
  ·-- x.append(a)
   rename_i he
   obtain⟨p,rfl⟩:=qiO he;simp only [Option.bind_eq_bind,Option.bind_eq_some_iff]at h;obtain⟨i,hl,ia,h1,h⟩:=h;split at h
   ·rename_i hc
    simp only [Bool.and_eq_true,Bool.not_eq_true',beq_iff_eq]at hc;cases h;obtain⟨⟨⟨⟨⟨rfl,c2⟩,c3⟩,c4⟩,c5⟩,c6⟩:=hc;exact qpH O.toXO c6 (zt hl).1 c2 (K.e O.toXO h1) c3 c4 (by simpa using c5)
   ·cases h
  ·split at h
   ·cases h
   ·rename_i hc
    simp only [Option.bind_eq_bind,Option.bind_eq_some_iff]at h;obtain⟨ie,h1,h⟩:=h;cases h;exact qoG (K.e O.toXO h1) (by simpa using hc)
 ·split at h
  ·-- return e
   rename_i e
   simp only [Option.bind_eq_bind,Option.bind_eq_some_iff]at h;obtain⟨ie,h1,h⟩:=h;split at h
   ·rename_i hf
    split at h
    ·rename_i y p
     split at h
     ·rename_i ho
      simp only [Option.map_eq_some_iff]at h;obtain⟨i,hl,rfl⟩:=h;exact qjZ O.toXO hl ho
     ·cases h
    ·split at h
     ·rename_i hfr
      cases h;exact qln (K.e O.toXO h1) fun _=>hfr
     ·cases h
   ·rename_i hf
    cases h;exact qln (K.e O.toXO h1) fun z=>absurd z hf
  ·split at h
   ·cases h
   ·rename_i hf
    cases h;exact qnj (by simpa using hf)
 ·simp only [Option.bind_eq_bind,Option.bind_eq_some_iff]at h;obtain⟨it,h1,ia,h2,ib,h3,h⟩:=h;cases h;exact qqO (K.t O.toXO h1) (ih.ss O h2) (ih.ss O h3)
 ·split at h
  ·cases h
  ·rename_i tg0 it0 b0 els0 pos0 hc
   have hc:(els0=[]∧c.calm=true)∧zg it0=true:=by simpa using hc
   obtain⟨⟨rfl,hc1⟩,hc2⟩:=hc;simp only [Option.bind_eq_bind,Option.bind_eq_some_iff]at h;obtain⟨tg,h1,it,h2,h⟩:=h;split at h
   ·cases h
   ·rename_i ho
    have ho:qcv it tg0=true:=by simpa using ho
    simp only [Option.bind_eq_some_iff]at h;obtain⟨ib,h3,h⟩:=h;cases h;exact qoW O.toXO (O.calm hc1) (K.i O.toXO.nox h2 ho) (qdH O.toXO.nox h1) (qdG h1) (ih.ss O.nox.froze h3) hc2
 ·cases h;exact qod
 ·cases h;exact qqy
 ·cases h;exact qqc
 ·cases h
theorem qlL:∀n,n≤100000→qmx w g n
 | 0,_=>⟨fun _ _ _ _ h=>by simp [cS]at h,fun _ _ _ _ h=>by simp [cSs]at h⟩
 |n+1,h=>
  have ih:=qlL n (Nat.le_of_succ_le h)
  ⟨fun O _ _ _ q=>ih.s_succ (Nat.le_of_succ_le h) O q,fun O _ _ _ q=>ih.ss_succ O q⟩
end
section
variable{w:W}{g:Gc}{c:Cc}{E:XK}{fr:Bool}{X:Cx}{H0:Hp}{B:Sh}{τ:Env}{σ:L2.St}{H H':Hp}{S:Sh}{n:Nat}
theorem SS.demote(s:SS g c H0 B τ σ H S){c':Cc}(hN:c'.N=c.N)(ho:c'.own=[])(hz:c'.frz=false):SS g c' H0 B τ σ H ⟨fun _=>false,B.h,B.z,B.y⟩:=by
 have no:∀i,¬ zl c' i:=fun i ⟨x,_,h⟩=>by rw [ho]at h;cases h
 have up:qc (hid H S) (hid H ⟨fun _=>false,B.h,B.z,B.y⟩):=fun b o h=>by
  obtain⟨h1,h2⟩:=qsh.mp h;refine qsh.mpr ⟨?_,h2⟩;have:=s.hd b;rw [h1]at this;show B.h b=false;cases q:B.h b with
  |false=>rfl
  |true=>rw [q]at this;cases this
 have val:∀(i:Nat) (d:D),τ[i]? = some (some d)→∃v,σ[i]? = some (some v)∧Rep g (hid H ⟨fun _=>false,B.h,B.z,B.y⟩) d v:=fun i d h=>by
  obtain⟨v,h1,h2,_⟩:=s.se.val i d h;refine⟨v,h1,?_⟩;rcases h2 with h2|⟨a,vs,ds,z1,rfl,rfl,z4,z5⟩
  ·exact h2.mono up
  ·exact .lst (SqL.of (qsh.mpr ⟨s.sub0.free (s.new a z1),z4⟩)) (z5.mono up)
 refine⟨⟨s.se.len,fun i d h=>?_,fun a ha=>?_⟩,by rw [s.lenN,hN],s.same,s.sub0,fun a=>by simp,fun a ha=>(by cases ha),fun i d hi _=>(no i hi).elim,fun i j d e a hi _ _ _ _ _=>(no i hi).elim,fun z=>by rw [hz]at z;cases z⟩
 ·obtain⟨v,h1,h2⟩:=val i d h;exact⟨v,h1,.inl h2,fun _ _ _=>h2⟩
 ·rcases ha with ha|ha
  ·exact s.sub0.same s.same a (.inl ha)
  ·cases ha
noncomputable def qmG(g:Gc)(E:XK)(fr:Bool)(H0:Hp)(B:Sh)(D:Ends):O→Prop
 | .nx _=>∀σ' H',qc H0 H'→D.nx σ' H'
 | .rt d=>∀v H',qc H0 H'→Rep g (hid H' B) d v→(fr=true→Fr g H0 B H' d v)→D.rt v H'
 | .ex k=>∀H' C,qc H0 H'→g.clA k=some C→E (.ref C) none H'
 |_=>False
theorem qmG.out{D:Ends}{o:O}(h:qmG g E fr H0 B D o):qbT g c E fr H0 B H S D o:=by
 cases o with
 |nx t=>exact fun σ' H' S' ss _=>h σ' H' ss.same
 |rt d=>exact h
 |ex k=>exact h
 |bk t=>exact h.elim
 |ct t=>exact h.elim
 |no=>exact h.elim
noncomputable def qtj(w:W)(g:Gc)(c:Cc)(E:XK)(fr:Bool)(s:Ss):TS:=fun D σ H=>∃H0 B τ S,SS g c H0 B τ σ H S∧qmG g E fr H0 B D (qX w s τ)
theorem qkC(hn:n≤100000)(O:XS w g c E X):∀{x:List Stmt}{ir:Ss},qff n c fr x=some ir→PSs X x (qtj w g c E fr ir)
 | [],ir,h=>by
  cases h;exact PSs.imp qit fun D σ H ⟨H0,B,τ,S,ss,z⟩=>⟨H0,B,τ,S,ss,z.out⟩
 |s::r,ir,h=>by
  unfold qff at h;split at h
  ·have O':XS w g (noOwn c) E X:=⟨⟨O.K,O.nm,O.N,O.nd,O.calm,O.units,O.fn,O.kind,O.pass,O.gok,O.fns,O.sub⟩,O.thr,O.exc,O.cat,O.frm,O.gh⟩
   exact PSs.imp ((qlL n hn).ss O' h) fun D σ H ⟨H0,B,τ,S,ss,z⟩=>⟨H0,B,τ,_,ss.demote rfl rfl rfl,z.out⟩
  ·simp only [Option.bind_eq_bind,Option.bind_eq_some_iff]at h;obtain⟨ir',h1,h⟩:=h;cases h;have hr:=qkC hn O h1;have hs:PS X s (tS w g c E fr ((cS n c fr s).getD .unk)):=by
    cases q:cS n c fr s with
    |none=>exact qkW
    |some is=>exact(qlL n hn).s O q
   refine PSs.imp (qha hs hr) fun D σ H ⟨H0,B,τ,S,ss,z⟩=>?_
   simp only [qX]at z;refine⟨H0,B,τ,S,ss,?_⟩;cases q:evS w ((cS n c fr s).getD .unk) τ with
   |nx τ'=>rw [q]at z;exact fun σ' H' S' s' e=>⟨H0,B,τ',S',s',z⟩
   |bk τ'=>rw [q]at z;exact z.elim
   |ct τ'=>rw [q]at z;exact z.elim
   |rt d=>rw [q]at z;exact z
   |ex k=>rw [q]at z;exact z
   |no=>rw [q]at z;exact z
end
noncomputable def GM0(p:Pr)(g:Gc)(mg:Str→Option Value)(x:Str):GK→Prop
 | .fn _=>∃f,g.fnA x=some f
 | .val=>∃u v d,mg x=some u∧RelV v u∧p.glb x=some d∧∀H,Rep g H d v
 | .bi b=>mg x=none∧x=b1N b∧∃id,b1V b=.builtin id
 | .rng=>mg x=none∧x = "range"
 | .enum=>mg x=none∧x = "enumerate"
 | .zip=>mg x=none∧x = "zip"
 | .isi=>mg x=none∧x = "isinstance"
 | .ty n b=>mg x=none∧bootBuiltins x=some (.type n)∧(n∈["int","bool","str","list","tuple"]∨n = "ValueError")∧∀b',b=some b'→x=b1N b'∧b1V b'=.type n
 | .exc=>∃C,mg x=some (.ref C)∧g.clA x=some C∧qkb g.K C
 | .exk=>∃C,mg x=some (.ref C)∧g.clA x=some C
 | .set=>mg x=none∧bootBuiltins x=some (.type "set")
structure Ground(p:Pr)(g:Gc)(G GH GU:List (Str×GK))(mg:Str→Option Value):Prop where
 fn:∀x f,g.fnA x=some f→∃st own fr fd fnn,p.fns x=some fnn∧cFn G GH own fr st=some fnn∧Fun g.K x x st f fd∧Binds g.K fd (argNames (zk st)) []∧PySem.W.keepIn g.K (.ref f)=true∧mg x=some (.ref f)∧G.lookup x=some (.fn fr)
 gl:∀x k,G.lookup x=some k→GM0 p g mg x k
 gu:∀x k,GU.lookup x=some k→(∀fr,k≠.fn fr)∧k≠.exc∧GM0 p g mg x k
 gh:∀x k,GH.lookup x=some k→GU.lookup x=some k
 sub:∀k cl b,p.sub k cl=some b→∃C cv,g.clA k=some C∧qaz g.K C∧PySem.W.kitOne g.K (.ref C) cv=some b∧match cl with
  | .ty n=>n = "ValueError"∧cv=.type n
  | .ex x=>∃D,g.clA x=some D∧cv=.ref D
 cat:∀k x,p.cat k x=true→∀C D,g.clA k=some C→g.clA x=some D→PySem.W.exmOne g.K (.ref C) (.ref D)=some true
abbrev wAt(p:Pr)(k:Nat):W:=⟨qa p k,p.glb,p.sub,p.cat⟩
theorem qlw{N ps:List Str}{sc:Scope}(h:qgl N ps sc=true):qcD N ps sc:=by
 unfold qgl at h;simp only [Bool.and_eq_true,beq_iff_eq,Bool.not_eq_true',decide_eq_true_eq,List.all_eq_true,Bool.or_eq_true,bne_iff_ne,ne_eq]at h;obtain⟨⟨⟨⟨⟨⟨h1,h2⟩,h3⟩,h4⟩,h5⟩,h6⟩,h7⟩:=h;exact⟨h1,h2,h3,h4,h5,h6,h7⟩
theorem qkv{G GH:List (Str×GK)}{own:List Str}{fr:Bool}{st:Stmt}{fnn:Fn}(h:cFn G GH own fr st=some fnn):qgl (qcx (zk st) (zj st)) (argNames (zk st)) (zj st)=true∧(argNames (zk st)).any own.contains=false ∧
  ∃b,qff qht ⟨(zj st).names,qcx (zk st) (zj st),own,G,true,true,false,GH,[],false⟩ fr (qah st)=some b∧fnn=⟨(argNames (zk st)).length,(qcx (zk st) (zj st)).length,fr,b⟩:=by
 unfold cFn at h;dsimp only at h;split at h
 ·cases h
 ·rename_i hc
  simp only [Bool.or_eq_true,Bool.not_eq_true',not_or,Bool.not_eq_false,Bool.not_eq_true]at hc;simp only [Option.bind_eq_bind,Option.bind_eq_some_iff,Option.some.injEq]at h;obtain⟨b,h1,h2⟩:=h;exact⟨hc.1,hc.2,b,h1,h2.symm⟩
section
variable{P:Program}{w:World}{K:PySem.W.Frag}{mg:Str→Option Value}{base:Heap}{N:List Str}{qual:Str}{scope:Scope}{f:Addr}{cd:Value}{A:Around}{outer:List PySem.Env}{s₀:Shared}{H₀:Hp}{E:XK}
end
theorem GM0.gm{p:Pr}{g:Gc}{mg:Str→Option Value}{x:Str}{k:GK}{P:Program}{wl:World}{base:Heap}{A:Around}{calm:Bool}{n:Nat}(h:GM0 p g mg x k)(hf:∀fr,k≠.fn fr):GM (wAt p n) g P wl mg base A calm x k:=by
 cases k with
 |fn fr'=>exact absurd rfl (hf fr')
 |exc=>obtain⟨C,h1,h2,_⟩:=h;exact⟨C,h1,h2⟩
 |val=>exact h
 |bi b=>exact h
 |rng=>exact h
 |enum=>exact h
 |zip=>exact h
 |isi=>exact h
 |ty n b=>exact h
 |exk=>exact h
 |set=>exact h
theorem qmg{w:W}{g:Gc}{c:Cc}{E:XK}{X:Cx}{N ps own:List Str}{sc:Scope}{fr:Bool}{body:List Stmt}{b:Ss}(hcN:c.N=N)(hco:c.own=own)(hcz:c.frz=false)(FS:qcD N ps sc)(c2:ps.any own.contains=false)(c3:qff qht c fr body=some b)
  (O:XS w g c E X) {vs:List V}{ds:List D}{B:Sh}{H:Hp}{Q:VK} (hB:Sub B H) (rv:qi g (hid H B) ds vs) (hl:ds.length=ps.length)
  (h:tR g E H (match qX w b (ds.map some++List.replicate (N.length-ps.length) none)with
   | .nx _=>if fr then .no else .ok .non
   | .rt d=>.ok d
   | .ex c=>.ex c
   |_=>.no) (fun d=>∀v H',qc H H'→Rep g (hid H' B) d v→(fr=true→Fr g H B H' d v)→Q v H')) :
  ∃t,PSs X body t∧t {nx:=fun _ H'=>Q .non H',rt:=Q} (start N vs) H:=by
 have hNl:ps.length≤N.length:=by have:=congrArg List.length FS.pre;rw [List.length_take]at this;lia
 refine⟨_,qkC (by decide) O c3,H,B,ds.map some++List.replicate (N.length-ps.length) none,⟨fun _=>false,B.h,B.z,B.y⟩,?_,?_⟩
 ·-- at the start
  have hh:hid H ⟨fun _=>false,B.h,B.z,B.y⟩=hid H B:=rfl;have hvl:=rv.length;have par:∀i d,(ds.map some++List.replicate (N.length-ps.length) none)[i]? = some (some d)→i<ps.length∧ds[i]? = some d:=fun i d hi=>by
   by_cases hlt:i<ds.length
   ·rw [List.getElem?_append_left (by simpa using hlt),List.getElem?_map]at hi;refine⟨by lia,?_⟩;cases q:ds[i]? with
    |none=>rw [q]at hi;cases hi
    |some e=>rw [q]at hi;simpa using hi
   ·rw [List.getElem?_append_right (by simpa using hlt)]at hi;rw [List.getElem?_replicate]at hi;split at hi<;>cases hi
  have noOwn:∀i d,zl c i→(ds.map some++List.replicate (N.length-ps.length) none)[i]? = some (some d)→False:=fun i d ⟨y,h1,h2⟩ hi=>by
   obtain⟨hlt,_⟩:=par i d hi;rw [hcN]at h1;rw [hco]at h2;have:N.take ps.length=ps:=FS.pre;have hy:ps[i]? = some y:=by
    rw [←this,List.getElem?_take,if_pos hlt];exact h1
   have:=List.any_eq_false.mp c2 y (List.mem_of_getElem? hy);exact this h2
  refine⟨⟨by simp [L2.start];lia,fun i d hi=>?_,fun a ha=>?_⟩,by simp [hcN];lia,qc.refl _,hB,(fun a=>by simp),(fun a ha=>by cases ha),(fun i d ho hi=>(noOwn i d ho hi).elim),fun i j d e a ho _ hi _ _ _=>(noOwn i d ho hi).elim,fun z=>by rw [hcz]at z;cases z⟩
  ·obtain⟨hlt,hd⟩:=par i d hi;obtain⟨v,h1,h2⟩:=rv.get hd;have hlt':i<vs.length:=by lia
   refine⟨v,?_,.inl h2,fun _ _ _=>h2⟩;unfold L2.start;rw [List.getElem?_append_left (by simpa using hlt'),List.getElem?_map,h1]
   rfl
  ·refine hB a ?_;rcases ha with ha|ha
   ·exact .inl ha
   ·cases ha
 ·-- at the end
  cases q:qX w b (ds.map some++List.replicate (N.length-ps.length) none)with
  |nx τ'=>
   rw [q]at h;simp only at h;cases fr with
   |true=>exact h.elim
   |false=>exact fun σ' H' hs=>h .non H' hs .non (by intro z;cases z)
  |rt d=>rw [q]at h;exact h
  |ex z=>rw [q]at h;exact h
  |bk z=>rw [q]at h;exact h.elim
  |ct z=>rw [q]at h;exact h.elim
  |no=>rw [q]at h;exact h.elim
section
variable{p:Pr}{g:Gc}{G GH GU:List (Str×GK)}{mg:Str→Option Value}{P:Program}{wl:World}{base:Heap}
theorem Ground.ok(T:Ground p g G GH GU mg):∀(k:Nat) (x:Str) (f:Addr) (st:Stmt) (own:List Str) (fr:Bool) (fd:FuncData) (fnn:Fn),p.fns x=some fnn→cFn G GH own fr st=some fnn→Fun g.K x x st f fd →
  qdf P wl g.K mg base (CX1 P wl) k f fd (argNames (zk st)) (spF (wAt p k) g x fr)
 | 0,x,f,st,own,fr,fd,fnn,_,_,_=>⟨fun vs H Q E ⟨S,ds,_,_,h⟩=>h.elim,fun A outer s H args us vs Q E _ _ _ _ ⟨S,ds,_,_,h⟩=>h.elim⟩
 |k+1,x,f,st,own,fr,fd,fnn,hf,hc,F=>by
  obtain⟨c1,c2,b,c3,rfl⟩:=qkv hc;have FS:=qlw c1;generalize hN:qcx (zk st) (zj st)=N at *;generalize hps:argNames (zk st)=ps at *;have call:∀ds,qa p (k+1) x ds=zG (wAt p k) ⟨ps.length,N.length,fr,b⟩ ds:=fun ds=>by simp only [qa,hf]
  have lenOf:∀vs H Q E,spF (wAt p (k+1)) g x fr vs H Q E→vs.length=ps.length:=fun vs H Q E ⟨S,ds,_,r,h⟩=>by
   have h:tR g E H (qa p (k+1) x ds) _:=h;rw [call]at h;unfold zG at h;by_cases hl:ds.length=ps.length
   ·rw [←r.length];exact hl
   ·rw [if_neg hl]at h;exact h.elim
  refine F.ok1 FS lenOf fun cdv A outer s H vs Q E hr hsp=>?_
  obtain⟨B,ds,hB,rv,h⟩:=hsp;have h:tR g E H (qa p (k+1) x ds) (fun d=>∀v H',qc H H'→Rep g (hid H' B) d v→(fr=true→Fr g H B H' d v)→Q v H'):=h;rw [call]at h;unfold zG at h;by_cases hl:ds.length=ps.length
  ·rw [if_pos hl]at h
   -- the ground of the body
   have calls:∀y fy,g.fnA y=some fy→∃fry,G.lookup y=some (.fn fry)∧qeo (wAt p k) g P wl mg base (A.deeper (envOfC x (zj st) s.heap.objs.size f cdv)) true y fy fry:=fun y fy hy=>by
    obtain⟨sty,owny,fry,fdy,fny,z1,z2,z3,z4,z5,z6,z7⟩:=T.fn y fy hy;exact⟨fry,z7,z6,z5,k,fdy,_,z4,.inl ⟨rfl,Ground.ok T k y fy sty owny fry fdy fny z1 z2 z3,hr⟩⟩
   have O:XS (wAt p k) g ⟨(zj st).names,N,own,G,true,true,false,GH,[],false⟩ E (qcV (CX1 P wl) P wl g.K mg base N x (zj st) f cdv A outer s H E):=by
    refine⟨⟨rfl,rfl,rfl,FS.nd,fun _=>rfl,hr.units,fun _ _=>rfl,FS.kind,qrv,fun y ky hy=>?_,fun _ y fy hy=>?_,T.sub⟩,(fun z=>by cases z),fun y C hy hC=>?_,T.cat,⟨rfl,rfl,rfl⟩,fun y ky hy=>?_⟩
    ·have:=T.gl y ky hy;by_cases hf:∃fr,ky=.fn fr
     ·obtain⟨fr',rfl⟩:=hf;obtain⟨fy,h1⟩:=this;obtain⟨fry,h2,h3⟩:=calls y fy h1;have hy:G.lookup y=some (.fn fr'):=hy;rw [hy]at h2;cases h2;exact⟨fy,h1,h3⟩
     ·exact this.gm fun fr z=>hf ⟨fr,z⟩
    ·obtain⟨fry,_,h3⟩:=calls y fy hy;exact⟨fry,h3⟩
    ·obtain⟨C',_,h2,h3⟩:=T.gl y .exc hy;rw [h2]at hC;cases hC;exact h3
    ·obtain⟨u1,u2,u3⟩:=T.gu y ky (T.gh y ky hy);exact⟨u2,fun v=>u3.gm u1⟩
   exact qmg rfl rfl rfl FS c2 c3 O hB rv hl h
  ·rw [if_neg hl]at h;exact h.elim
end
end EV
namespace WB
open PySem PySem.Spec PyProof.Rows L2
structure Dd(K:PySem.W.Frag)(n:Str)(st:Stmt)(f:Addr):Prop where
 a:PySem.W.nsIn K mainGlobals n=some (some (.ref f))
 l:∃oc od an sl kV dc pm cd ct,K.lookup f=some ⟨oc,od,.func (PySem.W.fnOf n n (zk st) (qah st) (zj st) .none kV dc pm an cd ct),sl⟩∧PySem.W.codeIn K cd n=true
 k:PySem.W.keepIn K (.ref f)=true
theorem qd{K:PySem.W.Frag}{n:Str}{st:Stmt}{f:Addr}{od an:Option Addr}{sl:Array (Option Value)}{oc kV dc pm cd ct:Value}(a:PySem.W.nsIn K mainGlobals n=some (some (.ref f)))
  (l:K.lookup f=some ⟨oc,od,.func (PySem.W.fnOf n n (zk st) (qah st) (zj st) .none kV dc pm an cd ct),sl⟩) (c:PySem.W.codeIn K cd n=true) (k:PySem.W.keepIn K (.ref f)=true):Dd K n st f:=
 ⟨a,⟨oc,od,an,sl,kV,dc,pm,cd,ct,l,c⟩,k⟩
theorem Dd.fn{K:PySem.W.Frag}{n:Str}{st:Stmt}{f:Addr}(d:Dd K n st f):∃fd,Fun K n n st f fd:=by
 obtain⟨oc,od,an,sl,kV,dc,pm,cd,ct,l,c⟩:=d.l;exact⟨_,qkq (st:=st) l c d.k⟩
theorem qoI{us:List Value}(h:us.length=1):∃a,us=[a]:=List.length_eq_one_iff.mp h
theorem qmi{n:Nat}{us:List Value}(h:us.length=n+1):∃a r,us=a::r∧r.length=n:=by
 cases us with
 |nil=>cases h
 |cons a r=>exact⟨a,r,rfl,Nat.succ.inj h⟩
theorem qqK{us:List Value}(h:us.length=2):∃a b,us=[a,b]:=by
 obtain⟨a,r,e,h⟩:=qmi h;obtain⟨b,q⟩:=qoI h;subst q;exact⟨a,b,e⟩
theorem qpx{us:List Value}(h:us.length=3):∃a b c,us=[a,b,c]:=by
 obtain⟨a,r,e,h⟩:=qmi h;obtain⟨b,c,q⟩:=qqK h;subst q;exact⟨a,b,c,e⟩
theorem qsY{us:List Value}(h:us.length=4):∃a b c d,us=[a,b,c,d]:=by
 obtain⟨a,r,e,h⟩:=qmi h;obtain⟨b,c,d,q⟩:=qpx h;subst q;exact⟨a,b,c,d,e⟩
structure Dk(K:PySem.W.Frag)(n:Str)(D:Addr):Prop where
 a:PySem.W.nsIn K mainGlobals n=some (some (.ref D))
 c:∃x,PySem.W.clsIn K D=some x
 t:PySem.W.typeIn K (.ref D)=some (.type "type")
end WB
namespace EV
open PySem PySem.Spec PySem.P PyProof.Rows L2
structure Ent where
 x:Str
 st:Stmt
 own:List Str
 fr:Bool
 fn:Fn
noncomputable def prT(tab:List Ent)(vals:List (Str×D))(qbf:List (Str×Str))(subs:List ((Str×Cl)×Bool):=[]):Pr:=⟨fun x=>(tab.find? (·.x==x)).map (·.fn),fun x=>vals.lookup x,fun k c=>subs.lookup (k,c),fun k x=>qbf.contains (k,x)⟩
noncomputable def unx:GK→GK
 | .exc=>.exk
 |k=>k
noncomputable def qcJ(oth:List (Str×GK)):List (Str×GK):=oth.map fun y=>(y.1,unx y.2)
noncomputable def qdF(us:List Ent)(oth:List (Str×GK)):List (Str×GK):=us.map (fun e=>(e.x,GK.fn e.fr))++qcJ oth
theorem qiv{x:Str}{k:GK}:∀{oth:List (Str×GK)},(qcJ oth).lookup x=some k→∃k0,oth.lookup x=some k0∧k=unx k0
 | [],h=>by cases h
 | (y,k1)::r,h=>by
  have h:List.lookup x ((y,unx k1)::qcJ r)=some k:=h;rw [List.lookup_cons]at h;split at h
  ·rename_i q;cases h;exact⟨k1,by rw [List.lookup_cons,q],rfl⟩
  ·rename_i q
   obtain⟨k0,h1,h2⟩:=qiv h;exact⟨k0,by rw [List.lookup_cons,q];exact h1,h2⟩
theorem qif{x:Str}{k:GK}{oth:List (Str×GK)}:∀{us:List Ent},(qdF us oth).lookup x=some k→(∃e∈us,e.x=x∧k=.fn e.fr)∨(qcJ oth).lookup x=some k
 | [],h=>.inr h
 |a::r,h=>by
  have h:List.lookup x ((a.x,GK.fn a.fr)::qdF r oth)=some k:=h;rw [List.lookup_cons]at h;split at h
  ·rename_i q;cases h;exact .inl ⟨a,List.mem_cons_self,(eq_of_beq q).symm,rfl⟩
  ·rcases qif h with ⟨e,h1,h2⟩|h1
   ·exact .inl ⟨e,List.mem_cons_of_mem _ h1,h2⟩
   ·exact .inr h1
noncomputable def qbu(K:PySem.W.Frag)(ns:List Str)(x:Str):Option Addr:=if ns.contains x then (match PySem.W.nsIn K mainGlobals x with
 |some (some (.ref f))=>some f
 |_=>none)else none
noncomputable def gOf(K:PySem.W.Frag)(fns cls:List Str):Gc:=⟨K,qbu K fns,qbu K cls⟩
theorem qbY{K:PySem.W.Frag}{ns:List Str}{x:Str}{f:Addr}(h:PySem.W.nsIn K mainGlobals x=some (some (.ref f)))(hx:ns.contains x=true):qbu K ns x=some f:=by
 unfold qbu;rw [if_pos hx,h]
theorem qcU{K:PySem.W.Frag}{ns:List Str}{x:Str}{f:Addr}(h:qbu K ns x=some f):ns.contains x=true∧PySem.W.nsIn K mainGlobals x=some (some (.ref f)):=by
 unfold qbu at h;split at h
 ·rename_i hx
  split at h
  ·rename_i q;cases h;exact⟨hx,q⟩
  ·cases h
 ·cases h
noncomputable def Bnd(e:Ent):Prop:=∀(kV doc pm:Value) (an:Option Addr) (cdv ct:Value) (us:List Value),us.length=(argNames (zk e.st)).length→bindArgs (PySem.W.fnOf e.x e.x (zk e.st) (qah e.st) (zj e.st) .none kV doc pm an cdv ct) ⟨us,[]⟩=pure ((argNames (zk e.st)).zip us)
structure qeh(K:PySem.W.Frag)(G:List (Str×GK))(e:Ent):Prop where
 dd:∃f,WB.Dd K e.x e.st f
 bnd:Bnd e
noncomputable def qpj(K:PySem.W.Frag)(vals:List (Str×D))(x:Str):GK→Prop
 | .fn _=>True
 | .val=>∃u v d,PySem.W.nsIn K mainGlobals x=some (some u)∧RelV v u∧vals.lookup x=some d∧∀g H,g.K=K→Rep g H d v
 | .bi b=>PySem.W.nsIn K mainGlobals x=some none∧x=b1N b∧∃id,b1V b=.builtin id
 | .rng=>PySem.W.nsIn K mainGlobals x=some none∧x = "range"
 | .enum=>PySem.W.nsIn K mainGlobals x=some none∧x = "enumerate"
 | .zip=>PySem.W.nsIn K mainGlobals x=some none∧x = "zip"
 | .isi=>PySem.W.nsIn K mainGlobals x=some none∧x = "isinstance"
 | .ty n b=>PySem.W.nsIn K mainGlobals x=some none∧bootBuiltins x=some (.type n)∧(n∈["int","bool","str","list","tuple"]∨n = "ValueError")∧∀b',b=some b'→x=b1N b'∧b1V b'=.type n
 | .exc=>∃C,PySem.W.nsIn K mainGlobals x=some (some (.ref C))∧PySem.W.excIn K C qcn "ValueError.__new__" = true
 | .exk=>∃C,PySem.W.nsIn K mainGlobals x=some (some (.ref C))
 | .set=>PySem.W.nsIn K mainGlobals x=some none∧bootBuiltins x=some (.type "set")
noncomputable def qna(K:PySem.W.Frag)(cls:List Str)(y:(Str×Cl)×Bool):Prop:=∃C cv,cls.contains y.1.1=true∧PySem.W.nsIn K mainGlobals y.1.1=some (some (.ref C))∧qaz K C∧PySem.W.kitOne K (.ref C) cv=some y.2∧match y.1.2 with
 | .ty n=>n = "ValueError"∧cv=.type n
 | .ex x=>∃D,cls.contains x=true∧PySem.W.nsIn K mainGlobals x=some (some (.ref D))∧cv=.ref D
theorem qgv{α β:Type} [BEq α] [LawfulBEq α]{a:α}{b:β}:∀{l:List (α×β)},l.lookup a=some b→(a,b)∈l
 | (c,d)::r,h=>by
  rw [List.lookup_cons]at h;split at h
  ·rename_i q;cases h;rw [eq_of_beq q];exact List.mem_cons_self
  ·exact List.mem_cons_of_mem _ (qgv h)
theorem qhi{tab:List Ent}{e:Ent}(hn:(tab.map (·.x)).Nodup)(he:e∈tab):tab.find? (·.x==e.x)=some e:=by
 induction tab with
 |nil=>simp at he
 |cons a r ih=>
  simp only [List.map_cons,List.nodup_cons]at hn;rw [List.find?_cons];rcases List.mem_cons.mp he with rfl|h
  ·simp
  ·have:(a.x==e.x)=false:=by
    cases q:a.x==e.x with
    |false=>rfl
    |true=>
     have:=eq_of_beq q;exact absurd (this▸List.mem_map.mpr ⟨e,h,rfl⟩) hn.1
   rw [this];exact ih hn.2 h
theorem qke{K:PySem.W.Frag}{h:Heap}{mg:Str→Option Value}(X:K.In h)(N:h.Ns mainGlobals mg){tab:List Ent}{oth G:List (Str×GK)}{vals:List (Str×D)}(hG:G=tab.map (fun e=>(e.x,GK.fn e.fr))++oth)
  (hnd:(tab.map (·.x)).Nodup) (ho:∀x k,oth.lookup x=some k→qpj K vals x k) (hof:∀x fr,oth.lookup x≠some (.fn fr)) {us:List Ent} (hus:∀e∈us,e∈tab) (hcu:∀e∈us,qpU (qcJ oth) e.own e.fr e.st=some e.fn) (hc:∀e∈tab,cFn G (qdF us oth) e.own e.fr e.st=some e.fn) (he:∀e∈tab,qeh K G e) (cls:List Str) {qbf:List (Str×Str)} (hcat:∀y∈qbf,∃C D,PySem.W.nsIn K mainGlobals y.1=some (some (.ref C))∧PySem.W.nsIn K mainGlobals y.2=some (some (.ref D))∧PySem.W.exmOne K (.ref C) (.ref D)=some true) (hcl:∀x,(oth.lookup x=some .exc∨oth.lookup x=some .exk)→cls.contains x=true)
  {subs:List ((Str×Cl)×Bool)} (hsub:∀y∈subs,qna K cls y) :
  Ground (prT tab vals qbf subs) (gOf K (tab.map (·.x)) cls) G (qdF us oth) (qcJ oth) mg:=by
 have lk:∀x k,G.lookup x=some k→(∃e∈tab,e.x=x∧k=.fn e.fr)∨oth.lookup x=some k:=by
  subst hG;clear hnd hc he hus
  induction tab with
  |nil=>intro x k hx;exact .inr hx
  |cons a r ih=>
   intro x k hx;simp only [List.map_cons,List.cons_append,List.lookup_cons]at hx;split at hx
   ·rename_i q;cases hx;exact .inl ⟨a,List.mem_cons_self,(eq_of_beq q).symm,rfl⟩
   ·rcases ih x k hx with ⟨e,h1,h2⟩|h1
    ·exact .inl ⟨e,List.mem_cons_of_mem _ h1,h2⟩
    ·exact .inr h1
 have lkE:∀e∈tab,G.lookup e.x=some (.fn e.fr):=by
  subst hG;clear hc he lk hus
  induction tab with
  |nil=>intro e h;simp at h
  |cons a r ih=>
   intro e hm;simp only [List.map_cons,List.nodup_cons]at hnd;simp only [List.map_cons,List.cons_append,List.lookup_cons];rcases List.mem_cons.mp hm with rfl|hm
   ·rw [beq_self_eq_true]
   ·have:(e.x==a.x)=false:=by
     cases q:e.x==a.x with
     |false=>rfl
     |true=>exact absurd ((eq_of_beq q)▸List.mem_map.mpr ⟨e,hm,rfl⟩) hnd.1
    rw [this];exact ih hnd.2 e hm
 have hca:∀k x,qbf.contains (k,x)=true→∀C D,qbu K cls k=some C→qbu K cls x=some D→PySem.W.exmOne K (.ref C) (.ref D)=some true:=fun k x z C D h1 h2=>by
  obtain⟨C',D',e1,e2,e3⟩:=hcat (k,x) (by simpa using z);have a1:=(qcU h1).2;have a2:=(qcU h2).2;rw [e1]at a1;rw [e2]at a2;cases a1;cases a2;exact e3
 have fnd:∀e∈tab,∃f fd,qbu K (tab.map (·.x)) e.x=some f∧Fun K e.x e.x e.st f fd∧Binds K fd (argNames (zk e.st)) []∧PySem.W.keepIn K (.ref f)=true∧mg e.x=some (.ref f):=fun e hm=>by
  obtain⟨⟨f',d⟩,hb⟩:=he e hm;obtain⟨fd,F⟩:=d.fn;exact⟨f',fd,qbY d.a (by simpa using List.mem_map.mpr ⟨e,hm,rfl⟩),F,F.binds hb,d.k,PySem.W.mg_of X N d.a⟩
 have fne:∀e∈tab,(prT tab vals qbf subs).fns e.x=some e.fn:=fun e hm=>by show (tab.find? (·.x==e.x)).map (·.fn)=_;rw [qhi hnd hm];rfl
 have gl:∀x k,oth.lookup x=some k→GM0 (prT tab vals qbf subs) (gOf K (tab.map (·.x)) cls) mg x k:=fun x k hk=>by
  have:=ho x k hk;cases k with
  |fn fr=>exact absurd hk (hof x fr)
  |val=>obtain⟨u,v,d,h1,h2,h3,h4⟩:=this;exact⟨u,v,d,PySem.W.mg_of X N h1,h2,h3,fun H=>h4 _ H rfl⟩
  |bi b=>exact⟨PySem.W.mg_none_of X N this.1,this.2⟩
  |rng=>exact⟨PySem.W.mg_none_of X N this.1,this.2⟩
  |enum=>exact⟨PySem.W.mg_none_of X N this.1,this.2⟩
  |zip=>exact⟨PySem.W.mg_none_of X N this.1,this.2⟩
  |isi=>exact⟨PySem.W.mg_none_of X N this.1,this.2⟩
  |ty n b=>exact⟨PySem.W.mg_none_of X N this.1,this.2⟩
  |exc=>obtain⟨C,h1,h2⟩:=this;exact⟨C,PySem.W.mg_of X N h1,qbY h1 (hcl x (.inl hk)),h2⟩
  |exk=>obtain⟨C,h1⟩:=this;exact⟨C,PySem.W.mg_of X N h1,qbY h1 (hcl x (.inr hk))⟩
  |set=>exact⟨PySem.W.mg_none_of X N this.1,this.2⟩
 refine⟨fun x f hf=>?_,fun x k hx=>?_,fun x k hx=>?_,fun x k hx=>?_,fun k cl b z=>?_,hca⟩
 ·obtain⟨h1,h2⟩:=qcU hf;obtain⟨e,hm,rfl⟩:=List.mem_map.mp (by simpa using h1:x∈tab.map (·.x));obtain⟨f',fd,z1,z2,z3,z4,z5⟩:=fnd e hm;have hf:qbu K (tab.map (·.x)) e.x=some f:=hf;rw [hf]at z1;cases z1;exact⟨e.st,e.own,e.fr,fd,e.fn,fne e hm,hc e hm,z2,z3,z4,z5,lkE e hm⟩
 ·rcases lk x k hx with ⟨e,hm,rfl,rfl⟩|hk
  ·obtain⟨f',fd,z1,_⟩:=fnd e hm;exact⟨f',z1⟩
  ·exact gl x k hk
 ·obtain⟨k0,h1,rfl⟩:=qiv hx;have:=gl x k0 h1;cases k0 with
  |fn fr=>exact absurd h1 (hof x fr)
  |exc=>obtain⟨C,z1,z2,_⟩:=this;exact⟨by simp [unx],by simp [unx],⟨C,z1,z2⟩⟩
  |_=>exact⟨by simp [unx],by simp [unx],this⟩
 ·rcases qif hx with ⟨e,hm,rfl,rfl⟩|hk
  ·have:=hcu e hm;cases this
  ·exact hk
 ·have z:subs.lookup (k,cl)=some b:=z;obtain⟨C,cv,h0,h1,h2,h3,h4⟩:=hsub _ (qgv z);refine⟨C,cv,qbY h1 h0,h2,h3,?_⟩;cases cl with
  |ty n=>exact h4
  |ex x=>obtain⟨D,d0,d1,d2⟩:=h4;exact⟨D,qbY d1 d0,d2⟩
theorem qrC{l:PySem.W.OpenLaw}{q:Program}{loose:List Str}{XP:(Str→Option Value)→Heap→Prop}{YP:World→Heap→Prop}{d:DefRec}{K:Params→PySem.W.Frag}{tab:List Ent}{G:List (Str×GK)}{vals:List (Str×D)}{cls:List Str}{qbf:List (Str×Str)}{subs:List ((Str×Cl)×Bool)}{GH GU:List (Str×GK)}{e:Ent}{k:Nat}
  (hn:l.most=some 63) (hdf:d.params.defaults=[]) (hd:d.name=e.x) (hr:qaY k callerA) (hY:∀(w:World) (h:Heap),YP w h→(K w.params).In h) (hm:e∈tab) (hnd:(tab.map (·.x)).Nodup) (hx:e.x = "law") (hfr:e.fr=false) (hp:argNames (zk e.st)=[("_law_script" : Str)])
  (hG:∀(w:World) (mg:Str→Option Value) (h:Heap),(K w.params).In h→h.Ns mainGlobals mg→Ground (prT tab vals qbf subs) (gOf (K w.params) (tab.map (·.x)) cls) G GH GU mg∧qeh (K w.params) G e) (hc:cFn G GH e.own e.fr e.st=some e.fn)
  (hlaw:∀ns:List Int,ns.length≤63→qa (prT tab vals qbf subs) k "law" [.lst (ns.map D.int)]=.ok (.bl true)) :
  PySem.W.WalkO q loose XP YP l.row.toRowW d [] (fun f vs=>PySem.call f vs):=by
 refine L2.qol (n:=63) (k:=k) (x:="_law_script") (CX:=fun w=>CX1 l.prog w) (sp:=fun w=>spF (wAt (prT tab vals qbf subs) k) (gOf (K w.params) (tab.map (·.x)) cls) "law" false) hn (by decide) hdf hr hY (fun w mg fa h KX N hfa=>?_) (fun w H a ns hl _ hS=>?_) fun w H s e s' z=>?_
 ·obtain⟨T,⟨f,dd⟩,hb⟩:=hG w mg h KX N;have e1:=hfa.symm.trans (hd▸PySem.W.mg_of KX N dd.a);cases e1;obtain⟨oc,od,an,sl,kV,dc,pm,cd,ct,lk,hcd⟩:=dd.l;refine⟨PySem.W.fnOf e.x e.x (zk e.st) (qah e.st) (zj e.st) .none kV dc pm an cd ct,fun s u=>.of_eq ?_,fun base _ _=>?_⟩
  ·have:=hb kV dc pm an cd ct [u] (by rw [hp];rfl);rw [hp]at this;exact this
  ·have:=T.ok (P:=l.prog) (wl:=w) (base:=base) k e.x fa e.st e.own e.fr _ e.fn (by show (tab.find? (·.x==e.x)).map (·.fn)=_;rw [qhi hnd hm];rfl) hc (qkq (st:=e.st) lk hcd dd.k);rw [hp,hx,hfr]at this;rw [hx];exact this
 ·refine⟨⟨fun _=>false,fun _=>false,[],fun _=>none⟩,[.lst (ns.map D.int)],(fun a z=>by rcases z with z|z<;>cases z),.cons (.lst (xs:=ns.map V.int) ?_ (qi.ofInts _)) .nil,?_⟩
  ·have:hid H ⟨fun _=>false,fun _=>false,[],fun _=>none⟩=H:=by funext b;unfold hid;rw [if_neg (by simp)]
   rw [this];exact hS
  ·show tR _ _ _ (qa (prT tab vals qbf subs) k "law" [.lst (ns.map D.int)]) _;rw [hlaw ns hl];intro v H' _ r _;cases r;rfl
 ·obtain⟨_,_,_,_,_,_,_,_,_,z⟩:=z;exact z
end EV
namespace KG
open EV
open PySem (Str)
open L2 (atI ixN ltP)
abbrev prD:Int×Int→D:=EV.pairD
theorem zq{w:W}{f:Fn}{ds:List D}{d:D}{τ:Env}(hl:ds.length=f.ps)(hτ:ds.map some++List.replicate (f.N-f.ps) none=τ)(h:qX w f.body τ=.rt d):zG w f ds=.ok d:=by
 rw [zG,if_pos hl,hτ,h]
theorem qmO{w:W}{s:S}{r:Ss}{τ σ:Env}{o:O}(h:evS w s τ=.nx σ)(h':qX w r σ=o):qX w (.cons s r) τ=o:=by rw [qX,h];exact h'
theorem qjd{w:W}{it:It}{cap:List (Option Nat)}{t:T}{elt:E}{τ c:Env}{ds:List D}{g:D→List D}(h:evI w it τ=.ok ds)(hz:ds.length≤SZ)(hc:qaN cap τ=none::none::c)
  (hb:∀x∈ds,((evT w t (none::some x::c)).bind fun r=>if r then (evE w elt (none::some x::c)).bind fun d=>.ok [d]else .ok [])=.ok (g x)):evE w (.comp it cap (.nm 1) t elt) τ=.ok (.lst (ds.flatMap g)):=by
 have key:∀(l:List D) (v:Option D) (acc:List D),(∀x∈l,x∈ds)→zD (fun x σ=>noEx ((store (.nm 1) x σ).bind fun σ'=>(evT w t σ').bind fun r=>if r then (evE w elt σ').bind fun d=>.ok (σ',[d])else .ok (σ',[]))) l (none::v::c) acc=.ok (acc++l.flatMap g):=by
  intro l
  induction l with
  |nil=>intro v acc _;simp [zD]
  |cons x r ih=>
   intro v acc hm;have q:=hb x (hm x List.mem_cons_self);rw [zD];have e:noEx ((store (.nm 1) x (none::v::c)).bind fun σ'=>(evT w t σ').bind fun r=>if r then (evE w elt σ').bind fun d=>.ok (σ',[d])else .ok (σ',[]))=.ok (none::some x::c,g x):=by
    simp only [store,R.bind_ok,List.set_cons_succ,List.set_cons_zero];cases ht:evT w t (none::some x::c)with
    |ok b=>
     rw [ht]at q;simp only [R.bind_ok]at q ⊢;cases b
     ·simp at q ⊢;rw [←q];rfl
     ·simp only [if_true]at q ⊢;cases he:evE w elt (none::some x::c)with
      |ok d=>rw [he]at q;simp only [R.bind_ok,R.ok.injEq]at q ⊢;rw [←q];rfl
      |ex=>rw [he]at q;cases q
      |no=>rw [he]at q;cases q
    |ex=>rw [ht]at q;cases q
    |no=>rw [ht]at q;cases q
   rw [e];simp only [R.bind_ok];rw [ih (some x) _ fun y hy=>hm y (List.mem_cons_of_mem _ hy),List.flatMap_cons,List.append_assoc]
 rw [qD,h];simp only [R.bind_ok];rw [if_neg (by lia),hc,key ds none [] fun _ h=>h]
 rfl
theorem qiG{w:W}{i:Int}:qbd w (.int i) (.ty "int")=.ok (.bl true):=rfl
theorem qkf{w:W}{i:Int}:qbd w (.int i) (.ty "bool")=.ok (.bl false):=rfl
theorem qiV{w:W}{i:List D}:qbd w (.tup i) (.ty "tuple")=.ok (.bl true):=rfl
theorem qlE{w:W}{i:List D}:qbd w (.tup i) (.ty "bool")=.ok (.bl false)∧qbd w (.tup i) (.ty "int")=.ok (.bl false)∧qbd w (.tup i) (.ty "str")=.ok (.bl false)∧qbd w (.tup i) (.ty "list")=.ok (.bl false):=⟨rfl,rfl,rfl,rfl⟩
theorem qly{w:W}{i:Bool}:qbd w (.bl i) (.ty "bool")=.ok (.bl true):=rfl
theorem qni(t:Int×Int):(prD t).asks=true:=rfl
noncomputable def mn(a b:Int):Int:=if b<a then b else a
noncomputable def mx(a b:Int):Int:=if a<b then b else a
noncomputable def qlv(ts:List (Int×Int))(a b:Int):Bool:=ts.any fun t=>t.1==mn a b&&t.2==mx a b
theorem qqE(ts:List (Int×Int))(u v:Int):qh .isin (.tup [.int u,.int v]) (.tup (ts.map prD))=.ok (ts.any fun t=>t.1==u&&t.2==v):=by
 rw [qh];simp only [seq?];rw [if_pos (by simp only [Bool.and_eq_true,List.all_eq_true,List.mem_map];exact⟨rfl,fun x ⟨t,_,e⟩=>e▸qni t⟩),inD,List.any_map]
 congr 2;funext t;show ((t.1==u)&&((t.2==v)&&true))=_;rw [Bool.and_true]
structure GW(m:Int)(ts:List (Int×Int)):Prop where
 lo:1≤m
 hi:m≤8
 lt:ts.Pairwise fun s t=>ltP s t=true
 ok:∀t∈ts,0≤t.1∧t.1<t.2∧t.2<m
 len:ts.length≤28
structure GS(m:Int)(s:List Int):Prop where
 lt:s.Pairwise (· < ·)
 ok:∀i∈s,0≤i∧i<m
 len:s.length≤8
abbrev wb(m:Int)(ts:List (Int×Int)):D:=.tup [.int m,.tup (ts.map prD)]
abbrev tu(s:List Int):D:=.tup (s.map D.int)
theorem qhc{xs:List D}{i:Nat}(h:i<xs.length):atI xs (i:Int)=some xs[i]:=by
 rw [atI,ixN,if_pos (by lia),if_pos (by lia)];simp [h]
theorem all_true(xs:List D):bools? (xs.flatMap fun _=>[.bl true])=some (List.replicate xs.length true):=by
 induction xs with
 |nil=>rfl
 |cons x r ih=>show (bools? (r.flatMap fun _=>[.bl true])).map (true :: ·)=_;rw [ih];rfl
theorem qnK(n:Nat):(List.replicate n true).all id=true:=by simp
theorem qpE{s t:Int×Int}(h:ltP s t=true):qh .lt (prD s) (prD t)=.ok true:=by
 show R.ok (qba [s.1,s.2] [t.1,t.2])=_;rw [ltP]at h;simp only [qba];by_cases e:s.1=t.1
 ·rw [if_pos e]at h ⊢;by_cases e2:s.2=t.2
  ·rw [e2]at h;simp at h
  ·rw [if_neg e2,h]
 ·rw [if_neg e]at h ⊢;rw [h]
noncomputable def rng(m:Int):List Int:=(List.range m.toNat).map fun(i:Nat)=>(i:Int)
theorem qkD(x y:Int)(h:0<y)(h':y≤2^64):small (x%y)=true:=by
 have a:=Int.emod_nonneg x (show y≠0 by lia);have b:=Int.emod_lt_of_pos x h;simp only [small,Bool.and_eq_true,decide_eq_true_eq];lia
noncomputable def st(c j:Int):Int:=
 ((((c%2147483647+977 * j+1) * 48271%2147483647) * ((c%2147483647+977 * j+1) * 48271%2147483647)%2147483629+40692 * (j+3)) * 69621%2147483647)/8
theorem GW.sub{m:Int}{ts ps:List (Int×Int)}(h:GW m ps)(s:ts.Sublist ps):GW m ts:=
 ⟨h.lo,h.hi,h.lt.sublist s,fun t ht=>h.ok t (s.subset ht),Nat.le_trans s.length_le h.len⟩
theorem eq_int(a b:Int):qh .eq (.int a) (.int b)=.ok (decide (a=b)):=by
 show R.ok (a==b)=_;congr 1
theorem lt_int(a b:Int):qh .lt (.int a) (.int b)=.ok (decide (a<b)):=rfl
noncomputable instance (m:Int) (ts:List (Int×Int)):Decidable (GW m ts):=
 decidable_of_iff (1≤m∧m≤8∧ts.Pairwise (fun s t=>ltP s t=true)∧(∀t∈ts,0≤t.1∧t.1<t.2∧t.2<m)∧ts.length≤28) ⟨fun⟨a,b,c,d,e⟩=>⟨a,b,c,d,e⟩,fun⟨a,b,c,d,e⟩=>⟨a,b,c,d,e⟩⟩
noncomputable def Ends(J:Env→Prop)(Q:D→Prop):O→Prop
 | .nx σ=>J σ
 | .rt d=>Q d
 |_=>False
section
variable{w:W}{J K:Env→Prop}{Q:D→Prop}{s:S}{r:Ss}{τ σ:Env}
theorem qoJ(h:J τ):Ends J Q (qX w .nil τ):=by rw [qX];exact h
theorem qdr(h:evS w s τ=.nx σ)(h':Ends J Q (qX w r σ)):Ends J Q (qX w (.cons s r) τ):=by rw [qX,h];exact h'
theorem qnB(h:Ends K Q (evS w s τ))(h':∀σ,K σ→Ends J Q (qX w r σ)):Ends J Q (qX w (.cons s r) τ):=by
 rw [qX];cases q:evS w s τ with
 |nx σ=>rw [q]at h;exact h' σ h
 |rt d=>rw [q]at h;exact h
 |_=>rw [q]at h;exact h.elim
theorem qrR{e:E}{d:D}(h:evE w e τ=.ok d)(hq:Q d):Ends J Q (qX w (.cons (.ret e) r) τ):=by
 rw [qX,zW,h];exact hq
theorem qpQ{tg:Tg}{it:It}{b:Ss}{ds:List D}(I:List D→Env→Prop)(h:evI w it τ=.ok ds)(h0:I ds τ)(hs:∀x t σ,I (x::t) σ→∃σ1,store tg x σ=.ok σ1∧Ends (I t) Q (qX w b σ1))(hn:∀σ,I [] σ→Ends J Q (qX w r σ)):Ends J Q (qX w (.cons (.for tg it b) r) τ):=by
 have key:∀(l:List D) (σ:Env),I l σ→Ends (I []) Q (qau tg (fun σ=>qX w b σ) l σ):=by
  intro l
  induction l with
  |nil=>intro σ q;exact q
  |cons x t ih=>
   intro σ q;obtain⟨σ1,a,b'⟩:=hs x t σ q;rw [qau,a];simp only [R.out_ok];cases z:qX w b σ1 with
   |nx σ2=>rw [z]at b';exact ih σ2 b'
   |rt d=>rw [z]at b';exact b'
   |_=>rw [z]at b';exact b'.elim
 have hk:=key ds τ h0;refine qnB (K:=I []) ?_ hn;rw [qak,h];simp only [R.out_ok];cases z:qau tg (fun σ=>qX w b σ) ds τ with
 |nx σ2=>rw [z]at hk;exact hk
 |rt d=>rw [z]at hk;exact hk
 |_=>rw [z]at hk;exact hk.elim
end
noncomputable def hd(m:Int)(ts:List (Int×Int))(a:Int):List Int:=(rng m).filter fun b=>b==a||qlv ts a b
end KG
noncomputable def KG.Z:=And.intro @EV.qX.eq_1 (And.intro @EV.qX.eq_2 (And.intro @EV.qav (And.intro @EV.qaw (And.intro @EV.qay (And.intro @EV.zW (And.intro @EV.qas (And.intro @EV.qax (And.intro @EV.zS (And.intro @EV.qV (And.intro @EV.zc (And.intro @EV.zd (And.intro @EV.zb (And.intro @EV.qY (And.intro @EV.za (And.intro @EV.qZ (And.intro @EV.qt (And.intro @EV.qz (And.intro @EV.qC (And.intro @EV.qB (And.intro @EV.qx (And.intro @EV.qw (And.intro @EV.qy (And.intro @EV.qu (And.intro @EV.qA (And.intro @EV.qo (And.intro @EV.qq (And.intro @EV.qE (And.intro @EV.qr (And.intro @EV.zJ.eq_1 (And.intro @EV.zJ.eq_2 (And.intro @EV.qcl (And.intro @EV.qcf (And.intro @EV.qck (And.intro @EV.qcj (And.intro @EV.qcg (And.intro @EV.qce (And.intro @EV.qcp (And.intro @EV.evI.eq_1 (And.intro @EV.evI.eq_2 (And.intro @EV.evI.eq_3 (And.intro @EV.evI.eq_4 (And.intro @EV.evI.eq_5 (And.intro @EV.evI.eq_6 (And.intro @EV.evO.eq_1 (And.intro @EV.evO.eq_2 (And.intro @EV.opI.eq_1 (And.intro @EV.opI.eq_2 (And.intro @EV.opI.eq_3 (And.intro @EV.opI.eq_4 (And.intro @EV.opI.eq_5 (And.intro @EV.opI.eq_6 (And.intro @EV.opI.eq_7 (And.intro @EV.opI.eq_8 (And.intro @EV.opI.eq_9 (And.intro @EV.opI.eq_10 (And.intro @EV.opI.eq_11 (And.intro @EV.b11.eq_1 (And.intro @EV.b11.eq_2 (And.intro @EV.b11.eq_3 (And.intro @EV.b11.eq_4 (And.intro @EV.b11.eq_5 (And.intro @EV.b11.eq_6 (And.intro @EV.b11.eq_7 (And.intro @EV.b11.eq_8 (And.intro @EV.b11.eq_9 (And.intro @EV.b11.eq_10 (And.intro @EV.b11.eq_11 (And.intro @EV.b11.eq_12 (And.intro @EV.b12.eq_1 (And.intro @EV.b12.eq_2 (And.intro @EV.b12.eq_3 (And.intro @EV.qaA.eq_1 (And.intro @EV.qaA.eq_2 (And.intro @EV.qaO.eq_1 (And.intro @EV.qaO.eq_2 (And.intro @EV.iiR.eq_1 (And.intro @EV.iiR.eq_2 (And.intro @EV.qaj.eq_1 (And.intro @EV.store.eq_1 (And.intro @EV.store.eq_2 (And.intro @EV.store.eq_3 (And.intro @EV.setAll.eq_1 (And.intro @EV.setAll.eq_2 (And.intro @EV.setAll.eq_3 (And.intro @EV.truth.eq_1 (And.intro @EV.truth.eq_2 (And.intro @EV.truth.eq_3 (And.intro @EV.truth.eq_4 (And.intro @EV.truth.eq_5 (And.intro @EV.truth.eq_6 (And.intro @KG.qiG (And.intro @KG.qkf (And.intro @KG.qiV (And.intro @KG.qlE (@KG.qly)))))))))))))))))))))))))))))))))))))))))))))))))))))))))))))))))))))))))))))))))))))))))))))))
namespace KG
open EV
open PySem (Str)
open L2 (atI ixN ltP)
noncomputable def qbG:Fn:=⟨1,1,false,(.cons (.ret (.and (.isi (.var 0) (.ty "int")) (.not (.isi (.var 0) (.ty "bool"))))) .nil)⟩
noncomputable def qaB:Fn:=⟨3,3,false,(.cons (.ret (.and (.call "is_whole" (.cons (.var 0) .nil)) (.cmp2 .le .le (.var 1) (.var 0) (.var 2)))) .nil)⟩
noncomputable def qbw:Fn:=⟨1,1,false,(.cons (.ret (.and (.isi (.var 0) (.ty "tuple")) (.cmp .eq (.bi .len (.cons (.var 0) .nil)) (.con (.int 2))))) .nil)⟩
noncomputable def qcy:Fn:=⟨1,1,false,(.cons (.ret (.bi .all (.cons (.comp (.rng (.op .sub (.bi .len (.cons (.var 0) .nil)) (.con (.int 1)))) [none,none,some 0] (.nm 1) .yes (.cmp .lt (.ix (.var 2) (.var 1)) (.ix (.var 2) (.op .add (.var 1) (.con (.int 1)))))) .nil))) .nil)⟩
noncomputable def qbX:Fn:=⟨1,3,false,(.cons (.ite (.not (.val (.call "is_pair" (.cons (.var 0) .nil)))) (.cons (.ret (.con (.bl false))) .nil) .nil) (.cons (.set (.tp [1,2]) (.var 0)) (.cons (.ite (.or (.not (.val (.call "is_between" (.cons (.var 1) (.cons (.con (.int 1)) (.cons (.glb "MOST") .nil)))))) (.not (.val (.isi (.var 2) (.ty "tuple"))))) (.cons (.ret (.con (.bl false))) .nil) .nil) (.cons (.ret (.and (.bi .all (.cons (.comp (.seq (.var 2)) [none,none,some 1] (.nm 1) .yes (.call "is_tie" (.cons (.var 1) (.cons (.var 2) .nil)))) .nil)) (.call "rises" (.cons (.var 2) .nil)))) .nil))))⟩
noncomputable def qbZ:Fn:=⟨2,4,false,(.cons (.ite (.not (.val (.call "is_pair" (.cons (.var 0) .nil)))) (.cons (.ret (.con (.bl false))) .nil) .nil) (.cons (.set (.tp [2,3]) (.var 0)) (.cons (.ret (.and (.call "is_whole" (.cons (.var 2) .nil)) (.and (.call "is_whole" (.cons (.var 3) .nil)) (.cmp3 .le .lt .lt (.con (.int 0)) (.var 2) (.var 3) (.var 1))))) .nil)))⟩
noncomputable def qaZ:Fn:=⟨1,1,false,(.cons (.ite (.not (.val (.call "is_web" (.cons (.var 0) .nil)))) (.cons .unk .nil) .nil) .nil)⟩
noncomputable def qcH:Fn:=⟨1,1,false,(.cons (.exp (.call "need_web" (.cons (.var 0) .nil))) (.cons (.ret (.bi .tuple (.cons (.comp (.rng (.ix (.var 0) (.con (.int 0)))) [none,none,some 0] (.nm 1) .yes (.call "hood_of" (.cons (.var 2) (.cons (.var 1) .nil)))) .nil))) .nil))⟩
noncomputable def qbv:Fn:=⟨2,4,false,(.cons (.set (.tp [2,3]) (.var 0)) (.cons (.ret (.bi .tuple (.cons (.comp (.rng (.var 2)) [none,none,some 1,some 3] (.nm 1) (.or (.cmp .eq (.var 1) (.var 2)) (.val (.call "are_tied" (.cons (.var 3) (.cons (.var 2) (.cons (.var 1) .nil)))))) (.var 1)) .nil))) .nil))⟩
noncomputable def qaG:Fn:=⟨3,3,false,(.cons (.ret (.cmp .isin (.tup (.cons (.bi .min (.cons (.var 1) (.cons (.var 2) .nil))) (.cons (.bi .max (.cons (.var 1) (.cons (.var 2) .nil))) .nil))) (.var 0))) .nil)⟩
noncomputable def qcm:Fn:=⟨2,2,false,(.cons (.ret (.bi .tuple (.cons (.comp (.seq (.var 1)) [none,none,some 0] (.nm 1) (.cmp .isin (.var 1) (.var 2)) (.var 1)) .nil))) .nil)⟩
noncomputable def qbH:Fn:=⟨2,2,false,(.cons (.ret (.comp (.seq (.var 0)) [none,none,some 1] (.nm 1) .yes (.call "mark_of" (.cons (.var 1) (.cons (.var 2) .nil))))) .nil)⟩
noncomputable def qbF:Fn:=⟨1,3,false,(.cons (.set (.nm 1) (.lst (.cons (.tup .nil) .nil))) (.cons (.for (.nm 2) (.rng (.ix (.var 0) (.con (.int 0)))) (.cons (.set (.nm 1) (.op .add (.var 1) (.comp (.seq (.var 1)) [none,none,some 2] (.nm 1) .yes (.op .add (.var 1) (.tup (.cons (.var 2) .nil)))))) .nil)) (.cons (.ret (.bi .sorted (.cons (.var 1) .nil))) .nil)))⟩
noncomputable def zx:Fn:=⟨2,2,false,(.cons (.ite (.cmp .lt (.var 1) (.bi .len (.cons (.var 0) .nil))) (.cons (.ret (.ix (.var 0) (.var 1))) .nil) .nil) (.cons (.ret (.con (.int 0))) .nil))⟩
noncomputable def zU:Fn:=⟨2,3,false,(.cons (.set (.nm 2) (.op .mod (.op .mul (.op .add (.op .add (.op .mod (.var 0) (.con (.int 2147483647))) (.op .mul (.con (.int 977)) (.var 1))) (.con (.int 1))) (.con (.int 48271))) (.con (.int 2147483647)))) (.cons (.set (.nm 2) (.op .mod (.op .mul (.var 2) (.var 2)) (.con (.int 2147483629)))) (.cons (.set (.nm 2) (.op .mod (.op .mul (.op .add (.var 2) (.op .mul (.con (.int 40692)) (.op .add (.var 1) (.con (.int 3))))) (.con (.int 69621))) (.con (.int 2147483647)))) (.cons (.ret (.op .fdiv (.var 2) (.con (.int 8)))) .nil))))⟩
noncomputable def qes:Fn:=⟨2,10,false,(.cons (.set (.nm 2) (.op .add (.con (.int 1)) (.op .mod (.var 0) (.var 1)))) (.cons (.set (.nm 3) (.op .fdiv (.var 0) (.var 1))) (.cons (.set (.nm 4) (.op .mod (.var 3) (.con (.int 6)))) (.cons (.set (.nm 5) (.lst .nil)) (.cons (.for (.nm 6) (.rng2 (.con (.int 1)) (.var 2)) (.cons (.for (.nm 7) (.rng (.var 6)) (.cons (.set (.nm 8) (.op .band (.op .shr (.op .fdiv (.var 3) (.con (.int 6))) (.op .add (.op .fdiv (.op .mul (.var 6) (.op .sub (.var 6) (.con (.int 1)))) (.con (.int 2))) (.var 7))) (.con (.int 1)))) (.cons (.ite (.cmp .eq (.var 4) (.con (.int 3))) (.cons (.set (.nm 8) (.op .fdiv (.op .mod (.call "_law_stir" (.cons (.var 0) (.cons (.op .add (.op .mul (.con (.int 8)) (.var 7)) (.var 6)) .nil))) (.con (.int 3))) (.con (.int 2)))) .nil) .nil) (.cons (.ite (.cmp .eq (.var 4) (.con (.int 4))) (.cons (.set (.nm 8) (.op .fdiv (.op .add (.op .mod (.call "_law_stir" (.cons (.var 0) (.cons (.op .add (.op .mul (.con (.int 8)) (.var 7)) (.var 6)) .nil))) (.con (.int 4))) (.con (.int 2))) (.con (.int 3)))) .nil) .nil) (.cons (.ite (.cmp .eq (.var 4) (.con (.int 5))) (.cons (.set (.nm 9) (.lst (.cons (.cmp .eq (.var 6) (.op .add (.var 7) (.con (.int 1)))) (.cons (.or (.cmp .eq (.var 6) (.op .add (.var 7) (.con (.int 1)))) (.cmp .eq (.op .sub (.var 6) (.var 7)) (.op .sub (.var 2) (.con (.int 1))))) (.cons (.cmp .eq (.var 7) (.con (.int 0))) (.cons (.con (.bl true)) (.cons (.and (.cmp .eq (.var 6) (.op .add (.var 7) (.con (.int 1)))) (.cmp .lt (.op .mod (.var 7) (.con (.int 3))) (.con (.int 2)))) .nil))))))) (.cons (.set (.nm 8) (.bi .int (.cons (.ix (.var 9) (.op .mod (.op .fdiv (.var 3) (.con (.int 6))) (.con (.int 5)))) .nil))) .nil)) .nil) (.cons (.ite (.cmp .eq (.var 8) (.con (.int 1))) (.cons (.app 5 (.tup (.cons (.var 7) (.cons (.var 6) .nil)))) .nil) .nil) .nil)))))) .nil)) (.cons (.ret (.tup (.cons (.var 2) (.cons (.bi .tuple (.cons (.bi .sorted (.cons (.own 5) .nil)) .nil)) .nil)))) .nil))))))⟩
noncomputable def qgR:Fn:=⟨1,4,false,(.cons (.set (.nm 1) (.comp (.rng (.ix (.var 0) (.con (.int 0)))) [none,none] (.nm 1) .yes (.op .shl (.con (.int 1)) (.var 1)))) (.cons (.for (.tp [2,3]) (.seq (.ix (.var 0) (.con (.int 1)))) (.cons (.seti 1 (.var 2) (.op .bor (.ix (.own 1) (.var 2)) (.op .shl (.con (.int 1)) (.var 3)))) (.cons (.seti 1 (.var 3) (.op .bor (.ix (.own 1) (.var 3)) (.op .shl (.con (.int 1)) (.var 2)))) .nil))) (.cons (.ret (.own 1)) .nil)))⟩
noncomputable def qhZ:Fn:=⟨2,2,false,(.cons (.ret (.bi .tuple (.cons (.comp (.rng (.var 0)) [none,none,some 1] (.nm 1) (.cmp .eq (.op .band (.op .shr (.var 2) (.var 1)) (.con (.int 1))) (.con (.int 1))) (.var 1)) .nil))) .nil)⟩
noncomputable def qaD:Fn:=⟨2,2,false,(.cons (.ret (.call "is_between" (.cons (.var 1) (.cons (.con (.int 0)) (.cons (.op .sub (.ix (.var 0) (.con (.int 0))) (.con (.int 1))) .nil))))) .nil)⟩
noncomputable def qaS:Fn:=⟨2,2,false,(.cons (.ite (.not (.val (.isi (.var 1) (.ty "tuple")))) (.cons (.ret (.con (.bl false))) .nil) .nil) (.cons (.ret (.and (.bi .all (.cons (.comp (.seq (.var 1)) [none,none,some 0] (.nm 1) .yes (.call "is_place" (.cons (.var 2) (.cons (.var 1) .nil)))) .nil)) (.call "rises" (.cons (.var 1) .nil)))) .nil))⟩
noncomputable def qaJ:Fn:=⟨2,2,false,(.cons (.ite (.not (.val (.call "is_some" (.cons (.var 0) (.cons (.var 1) .nil))))) (.cons .unk .nil) .nil) .nil)⟩
structure Web(p:Pr):Prop where
 is_whole:p.fns "is_whole" = some qbG
 is_between:p.fns "is_between" = some qaB
 is_pair:p.fns "is_pair" = some qbw
 rises:p.fns "rises" = some qcy
 is_web:p.fns "is_web" = some qbX
 is_tie:p.fns "is_tie" = some qbZ
 need_web:p.fns "need_web" = some qaZ
 MOST:p.glb "MOST" = some (.int 8)
structure Base(p:Pr):Prop extends Web p where
 all_some:p.fns "all_some" = some qbF
 _law_cell_at:p.fns "_law_cell_at" = some zx
 _law_stir:p.fns "_law_stir" = some zU
 _law_web:p.fns "_law_web" = some qes
 _law_some:p.fns "_law_some" = some qhZ
structure qpc(p:Pr):Prop where
 _law_cell_at:p.fns "_law_cell_at" = some zx
 _law_stir:p.fns "_law_stir" = some zU
 _law_web:p.fns "_law_web" = some qes
theorem Base.draw{p:Pr}(B:Base p):qpc p:=⟨B._law_cell_at,B._law_stir,B._law_web⟩
structure Hds(p:Pr):Prop where
 hoods:p.fns "hoods" = some qcH
 hood_of:p.fns "hood_of" = some qbv
 are_tied:p.fns "are_tied" = some qaG
structure Nbr(p:Pr):Prop where
 hoods:p.fns "hoods" = some qcH
 hood_of:p.fns "hood_of" = some qbv
 are_tied:p.fns "are_tied" = some qaG
 mark_of:p.fns "mark_of" = some qcm
 marks_of:p.fns "marks_of" = some qbH
structure qsZ(p:Pr):Prop extends Nbr p where
 _law_masks:p.fns "_law_masks" = some qgR
noncomputable instance {p:Pr}:CoeOut (Base p) (Web p):=⟨fun b=>b.toWeb⟩
theorem Nbr.hds{p:Pr}(O:Nbr p):Hds p:=⟨O.hoods,O.hood_of,O.are_tied⟩
noncomputable instance {p:Pr}:CoeOut (Base p) (qpc p):=⟨fun b=>b.draw⟩
noncomputable instance {p:Pr}:CoeOut (Nbr p) (Hds p):=⟨fun b=>b.hds⟩
noncomputable instance {p:Pr}:CoeOut (qsZ p) (Nbr p):=⟨fun b=>b.toNbr⟩
structure qjH(p:Pr):Prop where
 is_place:p.fns "is_place" = some qaD
 is_some:p.fns "is_some" = some qaS
structure qiU(p:Pr):Prop where
 is_place:p.fns "is_place" = some qaD
 is_some:p.fns "is_some" = some qaS
 need_some:p.fns "need_some" = some qaJ
theorem qiU.a{p:Pr}(b:qiU p):qjH p:=⟨b.is_place,b.is_some⟩
noncomputable instance {p:Pr}:CoeOut (qiU p) (qjH p):=⟨fun b=>b.a⟩
end KG
namespace K56
open PySem PySem.Spec PyProof.Rows L2 EV
noncomputable def top(i:Nat):Stmt:=PySem.Challenge.pw_holdplaces_k56_whole_lines_and_webs_alik.main.body.getD i (.Pass ⟨0,0,0,0⟩)
abbrev qbG:Fn:=KG.qbG
abbrev qaB:Fn:=KG.qaB
noncomputable def qbk:Fn:=⟨3,3,false,(.cons (.ite (.not (.val (.call "is_between" (.cons (.var 0) (.cons (.var 1) (.cons (.var 2) .nil)))))) (.cons .unk .nil) .nil) .nil)⟩
abbrev qbw:Fn:=KG.qbw
abbrev qcy:Fn:=KG.qcy
noncomputable def qcQ:Fn:=⟨1,1,false,(.cons (.exp (.call "need_between" (.cons (.var 0) (.cons (.con (.int 1)) (.cons (.glb "LONGEST") .nil))))) .nil)⟩
noncomputable def qcu:Fn:=⟨1,1,false,(.cons (.exp (.call "need_between" (.cons (.var 0) (.cons (.con (.int 3)) (.cons (.glb "LONGEST") .nil))))) .nil)⟩
noncomputable def qcd:Fn:=⟨1,1,false,(.cons (.exp (.call "need_row" (.cons (.var 0) .nil))) (.cons (.ret (.call "thirds" (.cons (.var 0) .nil))) .nil))⟩
noncomputable def qbA:Fn:=⟨1,1,false,(.cons (.exp (.call "need_ring" (.cons (.var 0) .nil))) (.cons (.ret (.call "thirds" (.cons (.var 0) .nil))) .nil))⟩
noncomputable def qej:Fn:=⟨1,1,false,(.cons (.exp (.call "need_row" (.cons (.var 0) .nil))) (.cons (.ret (.op .add (.op .fdiv (.var 0) (.con (.int 2))) (.con (.int 1)))) .nil))⟩
noncomputable def qkr:Fn:=⟨1,1,false,(.cons (.exp (.call "need_row" (.cons (.var 0) .nil))) (.cons (.ret (.call "middles" (.cons (.var 0) .nil))) .nil))⟩
noncomputable def qiF:Fn:=⟨1,1,false,(.cons (.exp (.call "need_ring" (.cons (.var 0) .nil))) (.cons (.ret (.call "middles" (.cons (.var 0) .nil))) .nil))⟩
noncomputable def qgy:Fn:=⟨1,1,false,(.cons (.exp (.call "need_row" (.cons (.var 0) .nil))) (.cons (.ret (.ite (.cmp .eq (.op .mod (.var 0) (.con (.int 2))) (.con (.int 1))) (.call "zigzag" (.cons (.var 0) .nil)) (.op .add (.call "zigzag" (.cons (.var 0) .nil)) (.tup (.cons (.op .sub (.op .mul (.con (.int 2)) (.var 0)) (.con (.int 1))) .nil))))) .nil))⟩
noncomputable def qib:Fn:=⟨1,1,false,(.cons (.exp (.call "need_row" (.cons (.var 0) .nil))) (.cons (.ret (.call "thirds_from" (.cons (.con (.int 0)) (.cons (.var 0) .nil)))) .nil))⟩
noncomputable def qgr:Fn:=⟨1,1,false,(.cons (.exp (.call "need_ring" (.cons (.var 0) .nil))) (.cons (.ret (.ite (.cmp .eq (.op .mod (.var 0) (.con (.int 3))) (.con (.int 0))) (.call "thirds_from" (.cons (.con (.int 0)) (.cons (.var 0) .nil))) (.con .non))) .nil))⟩
noncomputable def qfb:Fn:=⟨1,1,false,(.cons (.exp (.call "need_row" (.cons (.var 0) .nil))) (.cons (.ret (.ite (.cmp .eq (.op .mod (.var 0) (.con (.int 2))) (.con (.int 1))) (.call "zigzag" (.cons (.var 0) .nil)) (.con .non))) .nil))⟩
noncomputable def qiI:Fn:=⟨1,3,false,(.cons (.exp (.call "need_row" (.cons (.var 0) .nil))) (.cons (.set (.nm 1) (.call "thirds" (.cons (.var 0) .nil))) (.cons (.set (.nm 2) (.op .sub (.op .mul (.con (.int 3)) (.var 1)) (.var 0))) (.cons (.ite (.cmp .eq (.var 2) (.con (.int 0))) (.cons (.ret (.con (.int 1))) .nil) .nil) (.cons (.ite (.cmp .eq (.var 2) (.con (.int 1))) (.cons (.ret (.op .add (.var 1) (.con (.int 1)))) .nil) .nil) (.cons (.ret (.op .sub (.op .add (.op .fdiv (.op .mul (.op .add (.var 1) (.con (.int 1))) (.var 1)) (.con (.int 2))) (.var 1)) (.con (.int 1)))) .nil))))))⟩
noncomputable def qhT:Fn:=⟨1,3,false,(.cons (.exp (.call "need_ring" (.cons (.var 0) .nil))) (.cons (.set (.nm 1) (.call "thirds" (.cons (.var 0) .nil))) (.cons (.set (.nm 2) (.op .sub (.op .mul (.con (.int 3)) (.var 1)) (.var 0))) (.cons (.ite (.cmp .eq (.var 2) (.con (.int 0))) (.cons (.ret (.con (.int 3))) .nil) .nil) (.cons (.ite (.cmp .eq (.var 2) (.con (.int 1))) (.cons (.ret (.var 0)) .nil) .nil) (.cons (.ret (.op .add (.var 0) (.op .fdiv (.op .mul (.var 0) (.op .sub (.var 1) (.con (.int 1)))) (.con (.int 2))))) .nil))))))⟩
noncomputable def qjc:Fn:=⟨1,1,false,(.cons (.exp (.call "need_row" (.cons (.var 0) .nil))) (.cons (.ret (.comp (.rng (.con (.int 2))) [none,none,some 0] (.nm 1) (.cmp .le (.op .mod (.op .sub (.op .sub (.var 2) (.con (.int 1))) (.var 1)) (.con (.int 3))) (.con (.int 1))) (.call "thirds_from" (.cons (.var 1) (.cons (.var 2) .nil))))) .nil))⟩
noncomputable def qhY:Fn:=⟨1,1,false,(.cons (.exp (.call "need_ring" (.cons (.var 0) .nil))) (.cons (.ret (.ite (.cmp .eq (.op .mod (.var 0) (.con (.int 3))) (.con (.int 0))) (.comp (.rng (.con (.int 3))) [none,none,some 0] (.nm 1) .yes (.call "thirds_from" (.cons (.var 1) (.cons (.var 2) .nil)))) (.lst .nil))) .nil))⟩
noncomputable def qby:Fn:=⟨1,1,false,(.cons (.exp (.call "need_row" (.cons (.var 0) .nil))) (.cons (.ret (.call "summed_on" (.cons (.tup (.cons (.con (.int 1)) (.cons (.con (.int 3)) (.cons (.con (.int 5)) .nil)))) (.cons (.op .sub (.var 0) (.con (.int 1))) .nil)))) .nil))⟩
noncomputable def qbh:Fn:=⟨1,1,false,(.cons (.exp (.call "need_ring" (.cons (.var 0) .nil))) (.cons (.ret (.call "summed_on" (.cons (.tup (.cons (.con (.int 7)) (.cons (.con (.int 11)) (.cons (.con (.int 21)) .nil)))) (.cons (.op .sub (.var 0) (.con (.int 3))) .nil)))) .nil))⟩
noncomputable def qdI:Fn:=⟨1,1,false,(.cons (.ret (.op .fdiv (.op .add (.var 0) (.con (.int 2))) (.con (.int 3)))) .nil)⟩
noncomputable def qfX:Fn:=⟨2,2,false,(.cons (.ret (.rtup (.rng3 (.var 0) (.var 1) (.con (.int 3))))) .nil)⟩
noncomputable def qkK:Fn:=⟨1,1,false,(.cons (.ret (.bi .tuple (.cons (.comp (.rng3 (.con (.int 0)) (.var 0) (.con (.int 3))) [none,none,some 0] (.nm 1) .yes (.bi .min (.cons (.op .add (.var 1) (.con (.int 1))) (.cons (.op .sub (.var 2) (.con (.int 1))) .nil)))) .nil))) .nil)⟩
noncomputable def qlZ:Fn:=⟨1,1,false,(.cons (.ret (.bi .tuple (.cons (.comp (.rng3 (.con (.int 0)) (.var 0) (.con (.int 2))) [none,none] (.nm 1) .yes (.op .add (.op .mul (.con (.int 2)) (.var 1)) (.op .mod (.op .fdiv (.var 1) (.con (.int 2))) (.con (.int 2))))) .nil))) .nil)⟩
noncomputable def qdC:Fn:=⟨2,6,false,(.cons (.set (.tp [2,3,4]) (.var 0)) (.cons (.for (.nm 5) (.rng (.var 1)) (.cons (.par3 2 3 4 (.var 3) (.var 4) (.op .add (.op .add (.var 2) (.var 3)) (.var 4))) .nil)) (.cons (.ret (.var 2)) .nil)))⟩
abbrev qbX:Fn:=KG.qbX
abbrev qbZ:Fn:=KG.qbZ
abbrev qaZ:Fn:=KG.qaZ
abbrev qaD:Fn:=KG.qaD
abbrev qcH:Fn:=KG.qcH
abbrev qbv:Fn:=KG.qbv
abbrev qaG:Fn:=KG.qaG
abbrev qaS:Fn:=KG.qaS
abbrev qaJ:Fn:=KG.qaJ
noncomputable def qjN:Fn:=⟨2,3,false,(.cons (.set (.nm 2) (.call "unheld" (.cons (.var 0) (.cons (.var 1) .nil)))) (.cons (.ite (.val (.var 2)) (.cons .unk .nil) .nil) .nil))⟩
noncomputable def qlD:Fn:=⟨2,2,false,(.cons (.exp (.call "need_web" (.cons (.var 0) .nil))) (.cons (.exp (.call "need_some" (.cons (.var 0) (.cons (.var 1) .nil)))) (.cons (.ret (.call "places_marked" (.cons (.call "marks_of" (.cons (.call "hoods" (.cons (.var 0) .nil)) (.cons (.var 1) .nil))) (.cons (.tup .nil) .nil)))) .nil)))⟩
noncomputable def qhV:Fn:=⟨2,2,false,(.cons (.ret (.cmp .eq (.call "unheld" (.cons (.var 0) (.cons (.var 1) .nil))) (.tup .nil))) .nil)⟩
abbrev qcm:Fn:=KG.qcm
abbrev qbH:Fn:=KG.qbH
noncomputable def qex:Fn:=⟨2,2,false,(.cons (.ret (.bi .tuple (.cons (.comp (.enum (.var 0)) [none,none,none,some 1] (.tp [1,2]) (.cmp .eq (.var 2) (.var 3)) (.var 1)) .nil))) .nil)⟩
abbrev qbF:Fn:=KG.qbF
noncomputable def qgj:Fn:=⟨1,2,false,(.cons (.set (.nm 1) (.call "hoods" (.cons (.var 0) .nil))) (.cons (.ret (.comp (.seq (.call "all_some" (.cons (.var 0) .nil))) [none,none,some 1] (.nm 1) (.cmp .notin (.tup .nil) (.call "marks_of" (.cons (.var 2) (.cons (.var 1) .nil)))) (.var 1))) .nil))⟩
noncomputable def qre:Fn:=⟨1,1,false,(.cons (.exp (.call "need_between" (.cons (.var 0) (.cons (.con (.int 1)) (.cons (.glb "MOST") .nil))))) (.cons (.ret (.call "web_of" (.cons (.var 0) (.cons (.call "row_ties" (.cons (.var 0) .nil)) .nil)))) .nil))⟩
noncomputable def qpC:Fn:=⟨1,1,false,(.cons (.exp (.call "need_between" (.cons (.var 0) (.cons (.con (.int 3)) (.cons (.glb "MOST") .nil))))) (.cons (.ret (.call "web_of" (.cons (.var 0) (.cons (.op .add (.call "row_ties" (.cons (.var 0) .nil)) (.lst (.cons (.tup (.cons (.con (.int 0)) (.cons (.op .sub (.var 0) (.con (.int 1))) .nil))) .nil))) .nil)))) .nil))⟩
noncomputable def qof:Fn:=⟨2,5,false,(.cons (.exp (.call "need_between" (.cons (.var 0) (.cons (.con (.int 1)) (.cons (.glb "MOST") .nil))))) (.cons (.exp (.call "need_between" (.cons (.var 1) (.cons (.con (.int 1)) (.cons (.op .fdiv (.glb "MOST") (.var 0)) .nil))))) (.cons (.set (.nm 2) (.op .mul (.var 0) (.var 1))) (.cons (.set (.nm 3) (.comp (.rng (.var 2)) [none,none,some 1] (.nm 1) (.cmp .ne (.op .mod (.op .add (.var 1) (.con (.int 1))) (.var 2)) (.con (.int 0))) (.tup (.cons (.var 1) (.cons (.op .add (.var 1) (.con (.int 1))) .nil))))) (.cons (.set (.nm 4) (.comp (.rng (.op .sub (.var 2) (.var 1))) [none,none,some 1] (.nm 1) .yes (.tup (.cons (.var 1) (.cons (.op .add (.var 1) (.var 2)) .nil))))) (.cons (.ret (.call "web_of" (.cons (.var 2) (.cons (.op .add (.var 3) (.var 4)) .nil)))) .nil))))))⟩
noncomputable def qjS:Fn:=⟨1,1,false,(.cons (.ret (.comp (.rng (.op .sub (.var 0) (.con (.int 1)))) [none,none] (.nm 1) .yes (.tup (.cons (.var 1) (.cons (.op .add (.var 1) (.con (.int 1))) .nil))))) .nil)⟩
noncomputable def qlN:Fn:=⟨2,2,false,(.cons (.ret (.tup (.cons (.var 0) (.cons (.bi .tuple (.cons (.bi .sorted (.cons (.var 1) .nil)) .nil)) .nil)))) .nil)⟩
noncomputable def qka:Fn:=⟨1,2,false,(.cons (.exp (.call "need_web" (.cons (.var 0) .nil))) (.cons (.set (.nm 1) (.comp (.seq (.call "all_holding" (.cons (.var 0) .nil))) [none,none] (.nm 1) .yes (.bi .len (.cons (.var 1) .nil)))) (.cons (.ret (.comp (.rng (.op .add (.ix (.var 0) (.con (.int 0))) (.con (.int 1)))) [none,none,some 1] (.nm 1) .yes (.cnt (.var 2) (.var 1)))) .nil)))⟩
noncomputable def qeI:Fn:=⟨1,1,false,(.cons (.ret (.bi .sum (.cons (.call "by_size" (.cons (.var 0) .nil)) .nil))) .nil)⟩
noncomputable def qgM:Fn:=⟨1,1,false,(.cons (.ret (.bi .len (.cons (.call "first_fewest" (.cons (.var 0) .nil)) .nil))) .nil)⟩
noncomputable def qcA:Fn:=⟨1,1,false,(.cons (.ret (.ix (.call "all_fewest" (.cons (.var 0) .nil)) (.con (.int 0)))) .nil)⟩
noncomputable def qgH:Fn:=⟨1,3,false,(.cons (.exp (.call "need_web" (.cons (.var 0) .nil))) (.cons (.set (.nm 1) (.call "all_holding" (.cons (.var 0) .nil))) (.cons (.set (.nm 2) (.bi .min (.cons (.comp (.seq (.var 1)) [none,none] (.nm 1) .yes (.bi .len (.cons (.var 1) .nil))) .nil))) (.cons (.ret (.comp (.seq (.var 1)) [none,none,some 2] (.nm 1) (.cmp .eq (.bi .len (.cons (.var 1) .nil)) (.var 2)) (.var 1))) .nil))))⟩
noncomputable def qiK:Fn:=⟨2,2,false,(.cons (.exp (.call "need_web" (.cons (.var 0) .nil))) (.cons (.exp (.call "need_some" (.cons (.var 0) (.cons (.var 1) .nil)))) (.cons (.ret (.call "is_apart_by" (.cons (.call "marks_of" (.cons (.call "hoods" (.cons (.var 0) .nil)) (.cons (.var 1) .nil))) .nil))) .nil)))⟩
noncomputable def qhe:Fn:=⟨1,1,false,(.cons (.ret (.bi .len (.cons (.call "first_apart" (.cons (.var 0) .nil)) .nil))) .nil)⟩
noncomputable def qge:Fn:=⟨1,3,false,(.cons (.exp (.call "need_web" (.cons (.var 0) .nil))) (.cons (.set (.nm 1) (.call "hoods" (.cons (.var 0) .nil))) (.cons (.set (.nm 2) (.comp (.seq (.call "all_some" (.cons (.var 0) .nil))) [none,none,some 1] (.nm 1) (.val (.call "is_apart_by" (.cons (.call "marks_of" (.cons (.var 2) (.cons (.var 1) .nil))) .nil))) (.var 1))) (.cons (.ret (.mxk true (.var 2))) .nil))))⟩
noncomputable def qjl:Fn:=⟨3,3,false,(.cons (.exp (.call "need_web" (.cons (.var 0) .nil))) (.cons (.exp (.call "need_some" (.cons (.var 0) (.cons (.var 1) .nil)))) (.cons (.exp (.call "need_all" (.cons (.var 0) (.cons (.var 1) .nil)))) (.cons (.ret (.and (.call "is_some" (.cons (.var 0) (.cons (.var 2) .nil))) (.and (.cmp .eq (.bi .len (.cons (.var 2) .nil)) (.bi .len (.cons (.var 1) .nil))) (.call "is_apart" (.cons (.var 0) (.cons (.var 2) .nil)))))) .nil))))⟩
noncomputable def qiT:Fn:=⟨1,2,false,(.cons (.exp (.call "need_web" (.cons (.var 0) .nil))) (.cons (.set (.nm 1) (.call "hoods" (.cons (.var 0) .nil))) (.cons (.ret (.comp (.seq (.call "all_some" (.cons (.var 0) .nil))) [none,none,some 1] (.nm 1) (.val (.call "is_once_by" (.cons (.call "marks_of" (.cons (.var 2) (.cons (.var 1) .nil))) .nil))) (.var 1))) .nil)))⟩
noncomputable def qga:Fn:=⟨1,1,false,(.cons (.ret (.bi .all (.cons (.comp (.seq (.var 0)) [none,none] (.nm 1) .yes (.cmp .le (.bi .len (.cons (.var 1) .nil)) (.con (.int 1)))) .nil))) .nil)⟩
noncomputable def qgF:Fn:=⟨1,1,false,(.cons (.ret (.bi .all (.cons (.comp (.seq (.var 0)) [none,none] (.nm 1) .yes (.cmp .eq (.bi .len (.cons (.var 1) .nil)) (.con (.int 1)))) .nil))) .nil)⟩
abbrev zx:Fn:=KG.zx
abbrev zU:Fn:=KG.zU
noncomputable def qag:Fn:=⟨4,8,false,(.cons (.set (.tp [4,5,6,7]) (.var 1)) (.cons (.ite (.or (.cmp .ne (.call "fewest" (.cons (.var 0) .nil)) (.var 4)) (.or (.cmp .ne (.bi .len (.cons (.call "all_fewest" (.cons (.var 0) .nil)) .nil)) (.var 5)) (.or (.cmp .ne (.call "all_once" (.cons (.var 0) .nil)) (.var 6)) (.cmp .ne (.call "many_holding" (.cons (.var 0) .nil)) (.var 7))))) (.cons (.ret (.con (.bl false))) .nil) .nil) (.cons (.ite (.or (.not (.val (.call "holds_all" (.cons (.var 0) (.cons (.var 2) .nil))))) (.cmp .notin (.var 2) (.call "all_fewest" (.cons (.var 0) .nil)))) (.cons (.ret (.con (.bl false))) .nil) .nil) (.cons (.ite (.cmp .is (.var 3) (.con .non)) (.cons (.ret (.cmp .lt (.call "most_apart" (.cons (.var 0) .nil)) (.var 4))) .nil) .nil) (.cons (.ret (.and (.call "is_paper" (.cons (.var 0) (.cons (.var 2) (.cons (.var 3) .nil)))) (.cmp .eq (.call "most_apart" (.cons (.var 0) .nil)) (.var 4)))) .nil)))))⟩
noncomputable def zF:Fn:=⟨1,3,false,(.cons (.set (.nm 1) (.tup (.cons (.call "row_fewest" (.cons (.var 0) .nil)) (.cons (.call "row_many" (.cons (.var 0) .nil)) (.cons (.call "row_once" (.cons (.var 0) .nil)) (.cons (.call "row_holding" (.cons (.var 0) .nil)) .nil)))))) (.cons (.ite (.not (.val (.call "_law_alike" (.cons (.call "row" (.cons (.var 0) .nil)) (.cons (.var 1) (.cons (.call "row_set" (.cons (.var 0) .nil)) (.cons (.call "row_paper" (.cons (.var 0) .nil)) .nil))))))) (.cons (.ret (.con (.bl false))) .nil) .nil) (.cons (.ite (.cmp .gt (.var 0) (.con (.int 2))) (.cons (.set (.nm 1) (.tup (.cons (.call "ring_fewest" (.cons (.var 0) .nil)) (.cons (.call "ring_many" (.cons (.var 0) .nil)) (.cons (.call "ring_once" (.cons (.var 0) .nil)) (.cons (.call "ring_holding" (.cons (.var 0) .nil)) .nil)))))) (.cons (.ite (.not (.val (.call "_law_alike" (.cons (.call "ring" (.cons (.var 0) .nil)) (.cons (.var 1) (.cons (.call "ring_set" (.cons (.var 0) .nil)) (.cons (.call "ring_paper" (.cons (.var 0) .nil)) .nil))))))) (.cons (.ret (.con (.bl false))) .nil) .nil) .nil)) .nil) (.cons (.ite (.cmp .gt (.var 0) (.con (.int 4))) (.cons (.ret (.con (.bl true))) .nil) .nil) (.cons (.set (.nm 2) (.call "block" (.cons (.var 0) (.cons (.con (.int 2)) .nil)))) (.cons (.ite (.or (.cmp .ne (.call "fewest" (.cons (.var 2) .nil)) (.call "ladder_fewest" (.cons (.var 0) .nil))) (.cmp .notin (.call "ladder_set" (.cons (.var 0) .nil)) (.call "all_fewest" (.cons (.var 2) .nil)))) (.cons (.ret (.con (.bl false))) .nil) .nil) (.cons (.ite (.cmp .is (.call "ladder_paper" (.cons (.var 0) .nil)) (.con .non)) (.cons (.ret (.cmp .lt (.call "most_apart" (.cons (.var 2) .nil)) (.call "fewest" (.cons (.var 2) .nil)))) .nil) .nil) (.cons (.ret (.call "is_paper" (.cons (.var 2) (.cons (.call "ladder_set" (.cons (.var 0) .nil)) (.cons (.call "ladder_paper" (.cons (.var 0) .nil)) .nil))))) .nil))))))))⟩
noncomputable def qgk:Fn:=⟨1,3,false,(.cons (.ite (.or (.not (.val (.call "_law_right" (.cons (.con (.int 1)) .nil)))) (.or (.not (.val (.call "_law_right" (.cons (.con (.int 2)) .nil)))) (.not (.val (.call "_law_right" (.cons (.con (.int 3)) .nil)))))) (.cons (.ret (.con (.bl false))) .nil) .nil) (.cons (.for (.nm 1) (.seq (.op .add (.lst (.cons (.call "_law_cell_at" (.cons (.var 0) (.cons (.con (.int 0)) .nil))) .nil)) (.sl (.var 0) (.some (.con (.int 1))) (.some (.con (.int 3)))))) (.cons (.ite (.or (.not (.val (.call "_law_right" (.cons (.op .add (.con (.int 1)) (.op .mod (.var 1) (.con (.int 8)))) .nil)))) (.not (.val (.call "_law_right" (.cons (.op .add (.con (.int 1)) (.op .mod (.call "_law_stir" (.cons (.var 1) (.cons (.con (.int 1)) .nil))) (.con (.int 8)))) .nil))))) (.cons (.ret (.con (.bl false))) .nil) .nil) (.cons (.set (.nm 2) (.op .add (.con (.int 4)) (.op .mod (.call "_law_stir" (.cons (.var 1) (.cons (.con (.int 2)) .nil))) (.con (.int 297))))) (.cons (.ite (.or (.cmp .ne (.call "row_fewest" (.cons (.var 2) .nil)) (.op .add (.call "row_fewest" (.cons (.op .sub (.var 2) (.con (.int 3))) .nil)) (.con (.int 1)))) (.cmp .lt (.call "row_fewest" (.cons (.var 2) .nil)) (.call "row_fewest" (.cons (.op .sub (.var 2) (.con (.int 1))) .nil)))) (.cons (.ret (.con (.bl false))) .nil) .nil) (.cons (.ite (.and (.cmp .gt (.var 2) (.con (.int 5))) (.or (.cmp .ne (.call "ring_fewest" (.cons (.var 2) .nil)) (.op .add (.call "ring_fewest" (.cons (.op .sub (.var 2) (.con (.int 3))) .nil)) (.con (.int 1)))) (.cmp .eq (.op .mod (.call "ring_holding" (.cons (.var 2) .nil)) (.con (.int 2))) (.con (.int 0))))) (.cons (.ret (.con (.bl false))) .nil) .nil) (.cons (.ite (.cmp .ne (.call "row_holding" (.cons (.var 2) .nil)) (.op .add (.op .add (.call "row_holding" (.cons (.op .sub (.var 2) (.con (.int 1))) .nil)) (.call "row_holding" (.cons (.op .sub (.var 2) (.con (.int 2))) .nil))) (.call "row_holding" (.cons (.op .sub (.var 2) (.con (.int 3))) .nil)))) (.cons (.ret (.con (.bl false))) .nil) .nil) .nil)))))) (.cons (.ret (.con (.bl true))) .nil)))⟩
abbrev qjM:Ent:=⟨"is_whole",top 7,[],false,qbG⟩
abbrev qgB:Ent:=⟨"is_between",top 8,[],false,qaB⟩
abbrev qeS:Ent:=⟨"need_between",top 9,[],false,qbk⟩
abbrev qkN:Ent:=⟨"is_pair",top 10,[],false,qbw⟩
abbrev qnH:Ent:=⟨"rises",top 11,[],false,qcy⟩
abbrev qjT:Ent:=⟨"need_row",top 14,[],false,qcQ⟩
abbrev qhG:Ent:=⟨"need_ring",top 15,[],false,qcu⟩
abbrev qgY:Ent:=⟨"row_fewest",top 16,[],false,qcd⟩
abbrev qgi:Ent:=⟨"ring_fewest",top 17,[],false,qbA⟩
abbrev qeq:Ent:=⟨"ladder_fewest",top 18,[],false,qej⟩
abbrev qkM:Ent:=⟨"row_set",top 19,[],false,qkr⟩
abbrev qjr:Ent:=⟨"ring_set",top 20,[],false,qiF⟩
abbrev qgG:Ent:=⟨"ladder_set",top 21,[],false,qgy⟩
abbrev qhX:Ent:=⟨"row_paper",top 22,[],false,qib⟩
abbrev qhu:Ent:=⟨"ring_paper",top 23,[],false,qgr⟩
abbrev qfd:Ent:=⟨"ladder_paper",top 24,[],false,qfb⟩
abbrev qju:Ent:=⟨"row_many",top 25,[],false,qiI⟩
abbrev qhL:Ent:=⟨"ring_many",top 26,[],false,qhT⟩
abbrev qjJ:Ent:=⟨"row_once",top 27,[],false,qjc⟩
abbrev qhO:Ent:=⟨"ring_once",top 28,[],false,qhY⟩
abbrev qfZ:Ent:=⟨"row_holding",top 29,[],false,qby⟩
abbrev qfh:Ent:=⟨"ring_holding",top 30,[],false,qbh⟩
abbrev qmc:Ent:=⟨"thirds",top 31,[],false,qdI⟩
abbrev qgg:Ent:=⟨"thirds_from",top 32,[],false,qfX⟩
abbrev qlf:Ent:=⟨"middles",top 33,[],false,qkK⟩
abbrev qlz:Ent:=⟨"zigzag",top 34,[],false,qlZ⟩
abbrev qhC:Ent:=⟨"summed_on",top 35,[],false,qdC⟩
abbrev qlR:Ent:=⟨"is_web",top 38,[],false,qbX⟩
abbrev qlo:Ent:=⟨"is_tie",top 39,[],false,qbZ⟩
abbrev qjf:Ent:=⟨"need_web",top 40,[],false,qaZ⟩
abbrev qiH:Ent:=⟨"is_place",top 41,[],false,qaD⟩
abbrev qnd:Ent:=⟨"hoods",top 42,[],false,qcH⟩
abbrev qkO:Ent:=⟨"hood_of",top 43,[],false,qbv⟩
abbrev qjL:Ent:=⟨"are_tied",top 44,[],false,qaG⟩
abbrev qkH:Ent:=⟨"is_some",top 46,[],false,qaS⟩
abbrev qhF:Ent:=⟨"need_some",top 47,[],false,qaJ⟩
abbrev qjF:Ent:=⟨"need_all",top 48,[],false,qjN⟩
abbrev qmB:Ent:=⟨"unheld",top 49,[],false,qlD⟩
abbrev qhH:Ent:=⟨"holds_all",top 50,[],false,qhV⟩
abbrev qky:Ent:=⟨"mark_of",top 51,[],false,qcm⟩
abbrev qjx:Ent:=⟨"marks_of",top 52,[],false,qbH⟩
abbrev qey:Ent:=⟨"places_marked",top 53,[],false,qex⟩
abbrev qjQ:Ent:=⟨"all_some",top 54,[],false,qbF⟩
abbrev qfV:Ent:=⟨"all_holding",top 55,[],false,qgj⟩
abbrev qrz:Ent:=⟨"row",top 57,[],false,qre⟩
abbrev qqM:Ent:=⟨"ring",top 58,[],false,qpC⟩
abbrev qnx:Ent:=⟨"block",top 59,[],false,qof⟩
abbrev qjG:Ent:=⟨"row_ties",top 60,[],false,qjS⟩
abbrev qlu:Ent:=⟨"web_of",top 61,[],false,qlN⟩
abbrev qkQ:Ent:=⟨"by_size",top 63,[],false,qka⟩
abbrev qeO:Ent:=⟨"many_holding",top 64,[],false,qeI⟩
abbrev qmv:Ent:=⟨"fewest",top 66,[],false,qgM⟩
abbrev qeV:Ent:=⟨"first_fewest",top 67,[],false,qcA⟩
abbrev qhb:Ent:=⟨"all_fewest",top 68,[],false,qgH⟩
abbrev qiS:Ent:=⟨"is_apart",top 69,[],false,qiK⟩
abbrev qgx:Ent:=⟨"most_apart",top 70,[],false,qhe⟩
abbrev qgb:Ent:=⟨"first_apart",top 71,[],false,qge⟩
abbrev qjs:Ent:=⟨"is_paper",top 72,[],false,qjl⟩
abbrev qjq:Ent:=⟨"all_once",top 73,[],false,qiT⟩
abbrev qgh:Ent:=⟨"is_apart_by",top 74,[],false,qga⟩
abbrev qgK:Ent:=⟨"is_once_by",top 75,[],false,qgF⟩
abbrev qeQ:Ent:=⟨"_law_cell_at",top 77,[],false,zx⟩
abbrev qhD:Ent:=⟨"_law_stir",top 78,[],false,zU⟩
abbrev qhv:Ent:=⟨"_law_alike",top 79,[],false,qag⟩
abbrev qgE:Ent:=⟨"_law_right",top 80,[],false,zF⟩
abbrev qdv:Ent:=⟨"law",top 81,[],false,qgk⟩
abbrev tab:List Ent:=[qjM,qgB,qeS,qkN,qnH,qjT,qhG,qgY,qgi,qeq,qkM,qjr,qgG,qhX,qhu,qfd,qju,qhL,qjJ,qhO,qfZ,qfh,qmc,qgg,qlf,qlz,qhC,qlR,qlo,qjf,qiH,qnd,qkO,qjL,qkH,qhF,qjF,qmB,qhH,qky,qjx,qey,qjQ,qfV,qrz,qqM,qnx,qjG,qlu,qkQ,qeO,qmv,qeV,qhb,qiS,qgx,qgb,qjs,qjq,qgh,qgK,qeQ,qhD,qhv,qgE,qdv]
abbrev oth:List (Str×GK):=[(Str.ofString "NoWeb",GK.exc),(Str.ofString "NoPlaces",GK.exc),(Str.ofString "NoNumber",GK.exc),(Str.ofString "NotAll",GK.exk),(Str.ofString "LONGEST",GK.val),(Str.ofString "MOST",GK.val),(Str.ofString "len",GK.bi .len),(Str.ofString "tuple",GK.ty "tuple" (some .tuple)),(Str.ofString "int",GK.ty "int" (some .int)),(Str.ofString "bool",GK.ty "bool" (some .bool)),(Str.ofString "sorted",GK.bi .sorted),(Str.ofString "all",GK.bi .all),(Str.ofString "min",GK.bi .min),(Str.ofString "max",GK.bi .max),(Str.ofString "sum",GK.bi .sum),(Str.ofString "range",GK.rng),(Str.ofString "enumerate",GK.enum),(Str.ofString "isinstance",GK.isi)]
abbrev vals:List (Str×D):=[(Str.ofString "LONGEST",(.int 300)),(Str.ofString "MOST",(.int 8))]
abbrev G:List (Str×GK):=tab.map (fun e=>(e.x,GK.fn e.fr))++oth
abbrev qbf:List (Str×Str):=[]
abbrev us:List Ent:=[]
abbrev subs:List ((Str×Cl)×Bool):=[]
abbrev p:Pr:=prT tab vals qbf subs
theorem qee:p.fns "need_between" = some qbk:=by kernel_rfl
theorem qhJ:p.fns "need_row" = some qcQ:=by kernel_rfl
theorem qgu:p.fns "need_ring" = some qcu:=by kernel_rfl
theorem qfT:p.fns "row_fewest" = some qcd:=by kernel_rfl
theorem qfe:p.fns "ring_fewest" = some qbA:=by kernel_rfl
theorem qeW:p.fns "row_holding" = some qby:=by kernel_rfl
theorem qeC:p.fns "ring_holding" = some qbh:=by kernel_rfl
theorem qkc:p.fns "thirds" = some qdI:=by kernel_rfl
theorem qgL:p.fns "summed_on" = some qdC:=by kernel_rfl
theorem qkL:p.fns "fewest" = some qgM:=by kernel_rfl
theorem qef:p.fns "first_fewest" = some qcA:=by kernel_rfl
theorem zA:p.fns "_law_alike" = some qag:=by kernel_rfl
theorem zQ:p.fns "_law_right" = some zF:=by kernel_rfl
theorem qra:p.fns "law" = some qgk:=by kernel_rfl
end K56
namespace KG
open EV
open PySem (Str)
open L2 (atI ixN ltP)
section
variable{p:Pr}
theorem qf{k:Nat}{x:Str}{f:Fn}{ds:List D}(h:p.fns x=some f):qa p (k+1) x ds=zG ⟨qa p k,p.glb,p.sub,p.cat⟩ f ds:=by
 rw [qa,h]
section
variable(B:Web p)
include B
theorem is_whole{k:Nat}(i:Int):qa p (k+1) "is_whole" [.int i]=.ok (.bl true):=by rw [qf B.is_whole];rfl
theorem is_between{k:Nat}(i a b:Int)(h:a≤i∧i≤b):qa p (k+2) "is_between" [.int i,.int a,.int b]=.ok (.bl true):=by
 rw [qf B.is_between];refine zq rfl rfl ?_;simp [KG.Z,KG.qaB,is_whole B,qh,qgo,h.1,h.2]
theorem is_pair{k:Nat}(a b:D):qa p (k+1) "is_pair" [.tup [a,b]]=.ok (.bl true):=by
 rw [qf B.is_pair];refine zq rfl rfl ?_;simp [KG.Z,KG.qbw,b1,seq?,qh,D.asks,D.plain,D.deep,D.eqv]
theorem is_tie{k:Nat}(a b m:Int)(h:0≤a∧a<b∧b<m):qa p (k+2) "is_tie" [.tup [.int a,.int b],.int m]=.ok (.bl true):=by
 rw [qf B.is_tie];refine zq rfl rfl ?_;simp [KG.Z,KG.qbZ,is_pair B,is_whole B,qh,qgo,h.1,h.2.1,h.2.2]
theorem rises{k:Nat}(xs:List D)(hz:xs.length≤28)(h:∀(i:Nat) (q:i+1<xs.length),qh .lt xs[i] xs[i+1]=.ok true):qa p (k+1) "rises" [.tup xs]=.ok (.bl true):=by
 rw [qf B.rises];refine zq rfl rfl ?_;have hr:qg ((xs.length:Int)-1)=true:=by simp [qg];lia
 have hc:evE ⟨qa p k,p.glb,p.sub,p.cat⟩ (.comp (.rng (.op .sub (.bi .len (.cons (.var 0) .nil)) (.con (.int 1)))) [none,none,some 0] (.nm 1) .yes (.cmp .lt (.ix (.var 2) (.var 1)) (.ix (.var 2) (.op .add (.var 1) (.con (.int 1)))))) [some (.tup xs)]=.ok (.lst ((zB 0 ((xs.length:Int)-1).toNat).flatMap fun _=>[.bl true])):=by
  refine qjd (c:=[some (.tup xs)]) ?_ ?_ rfl ?_
  ·simp [KG.Z,b1,seq?,op2,hr]
  ·simp [zB,SZ];lia
  ·intro x hx;simp only [zB,List.mem_map,List.mem_range]at hx;obtain⟨i,hi,rfl⟩:=hx;have e1:atI xs ((0:Int)+(i:Int))=some xs[i]:=by rw [Int.zero_add];exact qhc (by lia)
   have e2:atI xs ((0:Int)+(i:Int)+1)=some xs[i+1]:=by rw [Int.zero_add];exact qhc (i:=i+1) (by lia)
   have e3:=h i (by lia);simp only [Int.zero_add]at e1 e2;simp [KG.Z,ixD,op2,e1,e2,e3]
 simp [KG.Z,KG.qcy,hc,b1,all_true,qnK]
theorem is_web{k:Nat}{m:Int}{ts:List (Int×Int)}(h:GW m ts):qa p (k+3) "is_web" [wb m ts]=.ok (.bl true):=by
 rw [qf B.is_web];refine zq rfl rfl ?_;have hr:=rises B (k:=k+1) (ts.map prD) (by simpa using h.len) (fun i q=>by
  rw [List.getElem_map,List.getElem_map];exact qpE (List.pairwise_iff_getElem.mp h.lt i (i+1) (by simp at q;lia) (by simpa using q) (by lia)))
 have hc:evE ⟨qa p (k+2),p.glb,p.sub,p.cat⟩ (.comp (.seq (.var 2)) [none,none,some 1] (.nm 1) .yes (.call "is_tie" (.cons (.var 1) (.cons (.var 2) .nil)))) [some (wb m ts),some (.int m),some (.tup (ts.map prD))]=.ok (.lst ((ts.map prD).flatMap fun _=>[.bl true])):=by
  refine qjd (c:=[some (.int m)]) ?_ ?_ rfl ?_
  ·simp [KG.Z,seq?]
  ·simp [SZ];have:=h.len;lia
  ·intro x hx;rw [List.mem_map]at hx;obtain⟨t,ht,rfl⟩:=hx;have e:=is_tie B (k:=k) t.1 t.2 m (h.ok t ht);have e':qa p (k+2) "is_tie" [prD t,.int m]=.ok (.bl true):=e;simp [KG.Z,e']
 simp [KG.Z,KG.qbX,is_pair B,is_between B m 1 8 ⟨h.lo,h.hi⟩,B.MOST,hc,b1,all_true,hr]
theorem need_web{k:Nat}{m:Int}{ts:List (Int×Int)}(h:GW m ts):qa p (k+4) "need_web" [wb m ts]=.ok .non:=by
 rw [qf B.need_web];simp only [zG];simp [KG.Z,KG.qaZ,is_web B h]
end
theorem qrO(hf:p.fns "_law_stir" = some zU){k:Nat}(c j:Int):qa p (k+1) "_law_stir" [.int c,.int j]=.ok (.int (st c j)):=by
 have s1:small 977=true:=by decide
 have s2:small 48271=true:=by decide
 have s3:small 40692=true:=by decide
 have s4:small 69621=true:=by decide
 have s5:=qkD ((c%2147483647+977 * j+1) * 48271) 2147483647 (by decide) (by decide);rw [qf hf];refine zq rfl rfl ?_;simp [KG.Z,KG.zU,op2,s1,s2,s3,s4,s5,st]
theorem qmy(hf:p.fns "_law_cell_at" = some zx){k:Nat}(ns:List Int):∃x:Int,qa p (k+1) "_law_cell_at" [.lst (ns.map D.int),.int 0]=.ok (.int x):=by
 cases ns with
 |nil=>
  refine⟨0,?_⟩;have e1:b1 .len [.lst []]=.ok (.int 0):=rfl;have e3:qh .lt (.int 0) (.int 0)=.ok false:=rfl;rw [qf hf];refine zq rfl rfl ?_;simp [KG.Z,KG.zx,e1,e3]
 |cons x r=>
  refine⟨x,?_⟩;have e1:b1 .len [.lst ((x::r).map D.int)]=.ok (.int (r.length+1:Nat)):=by
   show R.ok (D.int ((x::r).map D.int).length)=_;simp
  have e2:ixD (.lst ((x::r).map D.int)) (.int 0)=.ok (.int x):=by
   have:=qhc (xs:=(x::r).map D.int) (i:=0) (by simp);simp only [ixD];rw [show (0:Int)=((0:Nat):Int)from rfl,this];rfl
  simp only [List.map_cons]at e1 e2;have h0:(0:Int)<((r.length+1:Nat):Int):=by lia
  have e3:qh .lt (.int 0) (.int ((r.length+1:Nat):Int))=.ok true:=by rw [lt_int,decide_eq_true h0]
  generalize ((r.length+1:Nat):Int)=N at *;rw [qf hf];refine zq rfl rfl ?_;simp [KG.Z,KG.zx,e1,e2,e3]
section
variable(B:Base p)
include B
end
section
variable(B:Web p)(S:qjH p)
include B S
theorem is_place{k:Nat}(i m:Int)(t:D)(h:0≤i∧i<m):qa p (k+3) "is_place" [.tup [.int m,t],.int i]=.ok (.bl true):=by
 rw [qf S.is_place];refine zq rfl rfl ?_;simp [KG.Z,KG.qaD,ixD,atI,ixN,op2,is_between B i 0 (m-1) (by lia)]
theorem is_some{k:Nat}{m:Int}{t:D}{s:List Int}(h:GS m s):qa p (k+4) "is_some" [.tup [.int m,t],tu s]=.ok (.bl true):=by
 rw [qf S.is_some];refine zq rfl rfl ?_;have hr:=rises B (k:=k+2) (s.map D.int) (by simp;have:=h.len;lia) (fun i q=>by
  rw [List.getElem_map,List.getElem_map];have:=List.pairwise_iff_getElem.mp h.lt i (i+1) (by simp at q;lia) (by simpa using q) (by lia);simp [qh,qgo,this])
 have hc:evE ⟨qa p (k+3),p.glb,p.sub,p.cat⟩ (.comp (.seq (.var 1)) [none,none,some 0] (.nm 1) .yes (.call "is_place" (.cons (.var 2) (.cons (.var 1) .nil)))) [some (.tup [.int m,t]),some (tu s)]=.ok (.lst ((s.map D.int).flatMap fun _=>[.bl true])):=by
  refine qjd (c:=[some (.tup [.int m,t])]) ?_ ?_ rfl ?_
  ·simp [KG.Z,seq?]
  ·simp [SZ];have:=h.len;lia
  ·intro x hx;rw [List.mem_map]at hx;obtain⟨i,hi,rfl⟩:=hx;simp [KG.Z,is_place B S i m t (h.ok i hi)]
 simp [KG.Z,KG.qaS,hc,b1,all_true,hr]
omit S in
theorem need_some(S:qiU p){k:Nat}{m:Int}{t:D}{s:List Int}(h:GS m s):qa p (k+5) "need_some" [.tup [.int m,t],tu s]=.ok .non:=by
 rw [qf S.need_some];simp only [zG];simp [KG.Z,KG.qaJ,is_some B S h]
end
section
variable(B:Web p)(O:Hds p)
include O
theorem are_tied{k:Nat}(ts:List (Int×Int))(a b:Int):qa p (k+1) "are_tied" [.tup (ts.map prD),.int a,.int b]=.ok (.bl (qlv ts a b)):=by
 rw [qf O.are_tied];refine zq rfl rfl ?_;simp [KG.Z,KG.qaG,b1,qqE,qlv,mn,mx]
include B
end
section
variable(O:Nbr p)
include O
end
end
theorem ne_int(a b:Int):qh .ne (.int a) (.int b)=.ok (!decide (a=b)):=by
 show R.ok (!(a==b))=_
 congr 1
theorem qns(ns:List Int)(lo hi:Option Int):∃cs:List Int,cutD (ns.map D.int) lo hi=cs.map D.int∧cs.length≤ns.length:=by
 refine⟨(ns.drop _).take _,by rw [cutD,←List.map_drop,←List.map_take],by simp;lia⟩
theorem fx{α:Type}{f:α→D}{r:List D}{x:D}{l:List α}(e:x::r=l.map f):∃a l',l=a::l'∧x=f a∧r=l'.map f:=by
 cases l with
 |nil=>cases e
 |cons a l'=>rw [List.map_cons]at e;injection e with e1 e2;exact⟨a,l',rfl,e1,e2⟩
theorem qoS{w:W}{f:Fn}{ds:List D}{τ:Env}{Q:D→Prop}(hl:ds.length=f.ps)(hτ:ds.map some++List.replicate (f.N-f.ps) none=τ)(h:Ends (fun _=>False) Q (qX w f.body τ)):∃d,zG w f ds=.ok d∧Q d:=by
 rw [zG,if_pos hl,hτ];cases z:qX w f.body τ with
 |rt d=>rw [z]at h;exact⟨d,rfl,h⟩
 |nx _=>rw [z]at h;exact h.elim
 |_=>rw [z]at h;exact h.elim
end KG
namespace K56
open EV KG
open PySem (Str)
open L2 (atI ixN ltP)
theorem B:Web p:=⟨by kernel_rfl,by kernel_rfl,by kernel_rfl,by kernel_rfl,by kernel_rfl,by kernel_rfl,by kernel_rfl,by kernel_rfl⟩
noncomputable def tri:Nat→Int→Int→Int→Int×Int×Int
 | 0,a,b,c=>(a,b,c)
 |n+1,a,b,c=>tri n b c (a+b+c)
theorem qcK:∀(n:Nat) (a b c:Int),tri (n+1) a b c=((tri n a b c).2.1,(tri n a b c).2.2,(tri n a b c).1+(tri n a b c).2.1+(tri n a b c).2.2)
 | 0,_,_,_=>rfl
 |n+1,a,b,c=>by rw [tri,qcK n b c (a+b+c),tri]
theorem qnV(n:Nat)(a b c:Int):(tri (n+3) a b c).1=(tri (n+2) a b c).1+(tri (n+1) a b c).1+(tri n a b c).1:=by
 rw [qcK (n+2),qcK (n+1),qcK n];dsimp only;lia
theorem qiz:∀(n:Nat) (a b c:Int),a%2=1→b%2=1→c%2=1→(tri n a b c).1%2=1
 | 0,_,_,_,h,_,_=>h
 |n+1,a,b,c,h1,h2,h3=>qiz n b c (a+b+c) h2 h3 (by lia)
noncomputable def rh(n:Int):Int:=(tri (n-1).toNat 1 3 5).1
noncomputable def gh(n:Int):Int:=(tri (n-3).toNat 7 11 21).1
theorem qqD{n:Int}(h:4≤n):rh n=rh (n-1)+rh (n-2)+rh (n-3):=by
 obtain⟨m,rfl⟩:∃m:Nat,n=(m:Int)+4:=⟨(n-4).toNat,by lia⟩
 have e0:((m:Int)+4-1).toNat=m+3:=by lia
 have e1:((m:Int)+4-1-1).toNat=m+2:=by lia
 have e2:((m:Int)+4-2-1).toNat=m+1:=by lia
 have e3:((m:Int)+4-3-1).toNat=m:=by lia
 rw [rh,rh,rh,rh,e0,e1,e2,e3,qnV]
theorem qoU(n:Int):gh n%2=1:=qiz _ _ _ _ rfl rfl rfl
noncomputable def qiQ:Ss:=(.cons (.par3 2 3 4 (.var 3) (.var 4) (.op .add (.op .add (.var 2) (.var 3)) (.var 4))) .nil)
theorem qmQ{w:W}{x0 x1:Option D}:∀(ds:List D) (a b c:Int) (v:Option D),∃v',qau (.nm 5) (fun σ=>qX w qiQ σ) ds [x0,x1,some (.int a),some (.int b),some (.int c),v]=.nx [x0,x1,some (.int (tri ds.length a b c).1),some (.int (tri ds.length a b c).2.1),some (.int (tri ds.length a b c).2.2),v']
 | [],a,b,c,v=>⟨v,rfl⟩
 |d::r,a,b,c,v=>by
  obtain⟨v',h⟩:=qmQ (w:=w) (x0:=x0) (x1:=x1) r b c (a+b+c) (some d);refine⟨v',?_⟩;show qau (.nm 5) (fun σ=>qX w qiQ σ) r [x0,x1,some (.int b),some (.int c),some (.int (a+b+c)),some d]=_;exact h
theorem qhU{w:W}(a b c n:Int)(h0:0≤n)(h1:n≤300):qX w qdC.body [some (.tup [.int a,.int b,.int c]),some (.int n),none,none,none,none]=.rt (.int (tri n.toNat a b c).1):=by
 have hs:qg n=true:=by simp only [qg,Bool.and_eq_true,decide_eq_true_eq];lia
 obtain⟨v',h⟩:=qmQ (w:=w) (x0:=some (.tup [.int a,.int b,.int c])) (x1:=some (.int n)) (zB 0 n.toNat) a b c none;rw [show (zB 0 n.toNat).length=n.toNat by simp [zB]]at h;show qX w (.cons (.set (.tp [2,3,4]) (.var 0)) (.cons (.for (.nm 5) (.rng (.var 1)) qiQ) (.cons (.ret (.var 2)) .nil))) _=_;refine qmO (σ:=[some (.tup [.int a,.int b,.int c]),some (.int n),some (.int a),some (.int b),some (.int c),none]) rfl ?_;have hi:evI w (.rng (.var 1)) [some (.tup [.int a,.int b,.int c]),some (.int n),some (.int a),some (.int b),some (.int c),none]=.ok (zB 0 n.toNat):=by
  show (if qg n then R.ok (zB 0 n.toNat)else .no)=_;rw [hs,if_pos rfl]
 refine qmO (σ:=[some (.tup [.int a,.int b,.int c]),some (.int n),some (.int (tri n.toNat a b c).1),some (.int (tri n.toNat a b c).2.1),some (.int (tri n.toNat a b c).2.2),v']) ?_ rfl;rw [qak,hi];simp only [R.out_ok];rw [h]
 rfl
theorem qft{k:Nat}(a b c n:Int)(h0:0≤n)(h1:n≤300):qa p (k+1) "summed_on" [.tup [.int a,.int b,.int c],.int n]=.ok (.int (tri n.toNat a b c).1):=by
 rw [qf qgL];exact zq rfl rfl (qhU a b c n h0 h1)
theorem qdb{k:Nat}(n a b:Int)(h:a≤n∧n≤b):qa p (k+3) "need_between" [.int n,.int a,.int b]=.ok .non:=by
 have e:=is_between B (k:=k) n a b h;rw [qf qee];simp only [zG];simp [KG.Z,qbk,e]
theorem qhr{k:Nat}(n:Int)(h:1≤n∧n≤300):qa p (k+4) "need_row" [.int n]=.ok .non:=by
 have e:=qdb (k:=k) n 1 300 h;have g:p.glb "LONGEST" = some (.int 300):=by kernel_rfl
 rw [qf qhJ];simp only [zG];simp [KG.Z,qcQ,e,g]
theorem qfs{k:Nat}(n:Int)(h:3≤n∧n≤300):qa p (k+4) "need_ring" [.int n]=.ok .non:=by
 have e:=qdb (k:=k) n 3 300 h;have g:p.glb "LONGEST" = some (.int 300):=by kernel_rfl
 rw [qf qgu];simp only [zG];simp [KG.Z,qcu,e,g]
theorem qkU{k:Nat}(n:Int):qa p (k+1) "thirds" [.int n]=.ok (.int ((n+2)/3)):=by
 have e1:op2 .add (.int n) (.int 2)=.ok (.int (n+2)):=rfl;have e2:op2 .fdiv (.int (n+2)) (.int 3)=.ok (.int ((n+2)/3)):=rfl;rw [qf qkc];refine zq rfl rfl ?_;simp [KG.Z,qdI,e1,e2]
theorem qiM{k:Nat}(n:Int)(h:1≤n∧n≤300):qa p (k+5) "row_fewest" [.int n]=.ok (.int ((n+2)/3)):=by
 have e1:=qhr (k:=k) n h;have e2:=qkU (k:=k+3) n;rw [qf qfT];refine zq rfl rfl ?_;simp [KG.Z,qcd,e1,e2]
theorem qhW{k:Nat}(n:Int)(h:3≤n∧n≤300):qa p (k+5) "ring_fewest" [.int n]=.ok (.int ((n+2)/3)):=by
 have e1:=qfs (k:=k) n h;have e2:=qkU (k:=k+3) n;rw [qf qfe];refine zq rfl rfl ?_;simp [KG.Z,qbA,e1,e2]
theorem qhK{k:Nat}(n:Int)(h:1≤n∧n≤300):qa p (k+5) "row_holding" [.int n]=.ok (.int (rh n)):=by
 have e1:=qhr (k:=k) n h;have e2:=qft (k:=k+3) 1 3 5 (n-1) (by lia) (by lia);have e3:op2 .sub (.int n) (.int 1)=.ok (.int (n-1)):=rfl;rw [qf qeW];refine zq rfl rfl ?_;simp [KG.Z,qby,e1,e2,e3,rh]
theorem qgz{k:Nat}(n:Int)(h:3≤n∧n≤300):qa p (k+5) "ring_holding" [.int n]=.ok (.int (gh n)):=by
 have e1:=qfs (k:=k) n h;have e2:=qft (k:=k+3) 7 11 21 (n-3) (by lia) (by lia);have e3:op2 .sub (.int n) (.int 3)=.ok (.int (n-3)):=rfl;rw [qf qeC];refine zq rfl rfl ?_;simp [KG.Z,qbh,e1,e2,e3,gh]
theorem r1:qa p 20 "_law_right" [.int 1]=.ok (.bl true):=by kernel_rfl
theorem r2:qa p 20 "_law_right" [.int 2]=.ok (.bl true):=by kernel_rfl
theorem zK{k:Nat}{W d:D}{F:List D}{few:Int}(h:qa p (k+10) "all_fewest" [W]=.ok (.lst F))(h1:ixD (.lst F) (.int 0)=.ok d)(h2:b1 .len [d]=.ok (.int few)):qa p (k+12) "fewest" [W]=.ok (.int few):=by
 have e:qa p (k+11) "first_fewest" [W]=.ok d:=by
  rw [qf qef];refine zq rfl rfl ?_;show qX _ (.cons (.ret (.ix (.call "all_fewest" (.cons (.var 0) .nil)) (.con (.int 0)))) .nil) _=_;simp [KG.Z,h,h1]
 rw [qf qkL];refine zq rfl rfl ?_;show qX _ (.cons (.ret (.bi .len (.cons (.call "first_fewest" (.cons (.var 0) .nil)) .nil))) .nil) _=_;simp only [qX,zW,qq,zJ,qo,qV,qaj,List.map_cons,List.map_nil,List.cons_append,List.nil_append,List.getElem?_cons_zero,R.bind_ok,e,h2,R.out_ok]
theorem qbx{F':Str→List D→R D}{W S P:D}{few many hold:Int}{F C:List D}(a1:F' "fewest" [W]=.ok (.int few))(a2:F' "all_fewest" [W]=.ok (.lst F))(a3:(F.length:Int)=many)(a4:F' "all_once" [W]=.ok (.lst C))(a5:qh .ne (.lst C) (.lst C)=.ok false)(a6:F' "many_holding" [W]=.ok (.int hold))(a7:F' "holds_all" [W,S]=.ok (.bl true))(a8:qh .notin S (.lst F)=.ok false)(a9:qh .is P .non=.ok false)(a10:F' "is_paper" [W,S,P]=.ok (.bl true))(a11:F' "most_apart" [W]=.ok (.int few)) :
  zG ⟨F',p.glb,p.sub,p.cat⟩ qag [W,.tup [.int few,.int many,.lst C,.int hold],S,P]=.ok (.bl true):=by
 have l:b1 .len [.lst F]=.ok (.int many):=by rw [←a3];rfl
 refine zq rfl rfl ?_;simp [KG.Z,qag,a1,a2,l,a4,a5,a6,a7,a8,a9,a10,a11,ne_int,eq_int]
theorem qdq{F':Str→List D→R D}{W S:D}{few many hold ap:Int}{F C:List D}(a1:F' "fewest" [W]=.ok (.int few))(a2:F' "all_fewest" [W]=.ok (.lst F))(a3:(F.length:Int)=many)(a4:F' "all_once" [W]=.ok (.lst C))(a5:qh .ne (.lst C) (.lst C)=.ok false)(a6:F' "many_holding" [W]=.ok (.int hold))(a7:F' "holds_all" [W,S]=.ok (.bl true))(a8:qh .notin S (.lst F)=.ok false)(a11:F' "most_apart" [W]=.ok (.int ap))(a12:ap<few) :
  zG ⟨F',p.glb,p.sub,p.cat⟩ qag [W,.tup [.int few,.int many,.lst C,.int hold],S,.non]=.ok (.bl true):=by
 have l:b1 .len [.lst F]=.ok (.int many):=by rw [←a3];rfl
 have a9:qh .is .non .non=.ok true:=rfl;refine zq rfl rfl ?_;simp [KG.Z,qag,a1,a2,l,a4,a5,a6,a7,a8,a9,a11,ne_int,lt_int,a12]
theorem qch{F':Str→List D→R D}{n:Int}{W W' S S' P P' x1 x2 x3 x4 y1 y2 y3 y4:D}(n2:qh .gt (.int n) (.int 2)=.ok true)(n4:qh .gt (.int n) (.int 4)=.ok true)
  (b1:F' "row_fewest" [.int n]=.ok x1) (b2:F' "row_many" [.int n]=.ok x2) (b3:F' "row_once" [.int n]=.ok x3) (b4:F' "row_holding" [.int n]=.ok x4) (b5:F' "row" [.int n]=.ok W) (b6:F' "row_set" [.int n]=.ok S) (b7:F' "row_paper" [.int n]=.ok P) (b8:F' "_law_alike" [W,.tup [x1,x2,x3,x4],S,P]=.ok (.bl true))
  (c1:F' "ring_fewest" [.int n]=.ok y1) (c2:F' "ring_many" [.int n]=.ok y2) (c3:F' "ring_once" [.int n]=.ok y3) (c4:F' "ring_holding" [.int n]=.ok y4) (c5:F' "ring" [.int n]=.ok W') (c6:F' "ring_set" [.int n]=.ok S') (c7:F' "ring_paper" [.int n]=.ok P') (c8:F' "_law_alike" [W',.tup [y1,y2,y3,y4],S',P']=.ok (.bl true)) :
  zG ⟨F',p.glb,p.sub,p.cat⟩ zF [.int n]=.ok (.bl true):=by
 refine zq rfl rfl ?_;simp [KG.Z,zF,n2,n4,b1,b2,b3,b4,b5,b6,b7,b8,c1,c2,c3,c4,c5,c6,c7,c8]
theorem qnr{F':Str→List D→R D}{n:Int}{W W' S S' P P' x1 x2 x3 x4 y1 y2 y3 y4 W2 L Q:D}{few:Int}{F:List D}(n2:qh .gt (.int n) (.int 2)=.ok true)(n4:qh .gt (.int n) (.int 4)=.ok false)
  (b1:F' "row_fewest" [.int n]=.ok x1) (b2:F' "row_many" [.int n]=.ok x2) (b3:F' "row_once" [.int n]=.ok x3) (b4:F' "row_holding" [.int n]=.ok x4) (b5:F' "row" [.int n]=.ok W) (b6:F' "row_set" [.int n]=.ok S) (b7:F' "row_paper" [.int n]=.ok P) (b8:F' "_law_alike" [W,.tup [x1,x2,x3,x4],S,P]=.ok (.bl true))
  (c1:F' "ring_fewest" [.int n]=.ok y1) (c2:F' "ring_many" [.int n]=.ok y2) (c3:F' "ring_once" [.int n]=.ok y3) (c4:F' "ring_holding" [.int n]=.ok y4) (c5:F' "ring" [.int n]=.ok W') (c6:F' "ring_set" [.int n]=.ok S') (c7:F' "ring_paper" [.int n]=.ok P') (c8:F' "_law_alike" [W',.tup [y1,y2,y3,y4],S',P']=.ok (.bl true))
  (d1:F' "block" [.int n,.int 2]=.ok W2) (d2:F' "fewest" [W2]=.ok (.int few)) (d3:F' "ladder_fewest" [.int n]=.ok (.int few)) (d4:F' "ladder_set" [.int n]=.ok L) (d5:F' "all_fewest" [W2]=.ok (.lst F)) (d6:qh .notin L (.lst F)=.ok false) (d7:F' "ladder_paper" [.int n]=.ok Q) (d8:qh .is Q .non=.ok false) (d9:F' "is_paper" [W2,L,Q]=.ok (.bl true)) :
  zG ⟨F',p.glb,p.sub,p.cat⟩ zF [.int n]=.ok (.bl true):=by
 refine zq rfl rfl ?_;simp [KG.Z,zF,n2,n4,b1,b2,b3,b4,b5,b6,b7,b8,c1,c2,c3,c4,c5,c6,c7,c8,d1,d2,d3,d4,d5,d6,d7,d8,d9,ne_int]
theorem qoa{F':Str→List D→R D}{n:Int}{W W' S S' P P' x1 x2 x3 x4 y1 y2 y3 y4 W2 L:D}{few ap:Int}{F:List D}(n2:qh .gt (.int n) (.int 2)=.ok true)(n4:qh .gt (.int n) (.int 4)=.ok false)
  (b1:F' "row_fewest" [.int n]=.ok x1) (b2:F' "row_many" [.int n]=.ok x2) (b3:F' "row_once" [.int n]=.ok x3) (b4:F' "row_holding" [.int n]=.ok x4) (b5:F' "row" [.int n]=.ok W) (b6:F' "row_set" [.int n]=.ok S) (b7:F' "row_paper" [.int n]=.ok P) (b8:F' "_law_alike" [W,.tup [x1,x2,x3,x4],S,P]=.ok (.bl true))
  (c1:F' "ring_fewest" [.int n]=.ok y1) (c2:F' "ring_many" [.int n]=.ok y2) (c3:F' "ring_once" [.int n]=.ok y3) (c4:F' "ring_holding" [.int n]=.ok y4) (c5:F' "ring" [.int n]=.ok W') (c6:F' "ring_set" [.int n]=.ok S') (c7:F' "ring_paper" [.int n]=.ok P') (c8:F' "_law_alike" [W',.tup [y1,y2,y3,y4],S',P']=.ok (.bl true))
  (d1:F' "block" [.int n,.int 2]=.ok W2) (d2:F' "fewest" [W2]=.ok (.int few)) (d3:F' "ladder_fewest" [.int n]=.ok (.int few)) (d4:F' "ladder_set" [.int n]=.ok L) (d5:F' "all_fewest" [W2]=.ok (.lst F)) (d6:qh .notin L (.lst F)=.ok false) (d7:F' "ladder_paper" [.int n]=.ok .non) (d8:F' "most_apart" [W2]=.ok (.int ap)) (d9:ap<few) :
  zG ⟨F',p.glb,p.sub,p.cat⟩ zF [.int n]=.ok (.bl true):=by
 have z:qh .is .non .non=.ok true:=rfl;refine zq rfl rfl ?_;simp [KG.Z,zF,n2,n4,b1,b2,b3,b4,b5,b6,b7,b8,c1,c2,c3,c4,c5,c6,c7,c8,d1,d2,d3,d4,d5,d6,d7,d8,z,ne_int,lt_int,d9]
noncomputable def Wa5:D:=.tup [.int 5,.tup [.tup [.int 0,.int 1],.tup [.int 1,.int 2],.tup [.int 2,.int 3],.tup [.int 3,.int 4]]]
noncomputable def Fa5:List D:=[.tup [.int 0,.int 3],.tup [.int 1,.int 3],.tup [.int 1,.int 4]]
noncomputable def Ca5:List D:=[.tup [.int 0,.int 3],.tup [.int 1,.int 4]]
theorem qpG{k:Nat}:qa p (k+10) "all_fewest" [Wa5]=.ok (.lst Fa5):=by kernel_rfl
theorem qsB{k:Nat}:qa p (k+10) "all_once" [Wa5]=.ok (.lst Ca5):=by kernel_rfl
theorem qsR{k:Nat}:qa p (k+11) "many_holding" [Wa5]=.ok (.int 17):=by kernel_rfl
theorem qsE{k:Nat}:qa p (k+11) "most_apart" [Wa5]=.ok (.int 2):=by kernel_rfl
theorem a5:qa p 19 "_law_alike" [Wa5,.tup [.int 2,.int 3,.lst Ca5,.int 17],.tup [.int 1,.int 4],.tup [.int 0,.int 3]]=.ok (.bl true):=by
 rw [qf zA];exact qbx (zK (k:=6) qpG rfl rfl) qpG rfl qsB (by kernel_rfl) qsR (by kernel_rfl) (by kernel_rfl) (by kernel_rfl) (by kernel_rfl) qsE
noncomputable def Wg5:D:=.tup [.int 5,.tup [.tup [.int 0,.int 1],.tup [.int 0,.int 4],.tup [.int 1,.int 2],.tup [.int 2,.int 3],.tup [.int 3,.int 4]]]
noncomputable def Fg5:List D:=[.tup [.int 0,.int 2],.tup [.int 0,.int 3],.tup [.int 1,.int 3],.tup [.int 1,.int 4],.tup [.int 2,.int 4]]
noncomputable def Cg5:List D:=[]
theorem qqY{k:Nat}:qa p (k+10) "all_fewest" [Wg5]=.ok (.lst Fg5):=by kernel_rfl
theorem qsQ{k:Nat}:qa p (k+10) "all_once" [Wg5]=.ok (.lst Cg5):=by kernel_rfl
theorem qtd{k:Nat}:qa p (k+11) "many_holding" [Wg5]=.ok (.int 21):=by kernel_rfl
theorem qth{k:Nat}:qa p (k+11) "most_apart" [Wg5]=.ok (.int 1):=by kernel_rfl
theorem g5:qa p 19 "_law_alike" [Wg5,.tup [.int 2,.int 5,.lst Cg5,.int 21],.tup [.int 1,.int 4],.non]=.ok (.bl true):=by
 rw [qf zA];exact qdq (zK (k:=6) qqY rfl rfl) qqY rfl qsQ (by kernel_rfl) qtd (by kernel_rfl) (by kernel_rfl) qth (by decide)
theorem r5:qa p 20 "_law_right" [.int 5]=.ok (.bl true):=by
 rw [qf zQ];exact qch rfl rfl (by kernel_rfl) (by kernel_rfl) (by kernel_rfl) (by kernel_rfl) (by kernel_rfl) (by kernel_rfl) (by kernel_rfl) a5 (by kernel_rfl) (by kernel_rfl) (by kernel_rfl) (by kernel_rfl) (by kernel_rfl) (by kernel_rfl) (by kernel_rfl) g5
noncomputable def Wa6:D:=.tup [.int 6,.tup [.tup [.int 0,.int 1],.tup [.int 1,.int 2],.tup [.int 2,.int 3],.tup [.int 3,.int 4],.tup [.int 4,.int 5]]]
noncomputable def Fa6:List D:=[.tup [.int 1,.int 4]]
noncomputable def Ca6:List D:=[.tup [.int 1,.int 4]]
theorem qpX{k:Nat}:qa p (k+10) "all_fewest" [Wa6]=.ok (.lst Fa6):=by kernel_rfl
theorem qsP{k:Nat}:qa p (k+10) "all_once" [Wa6]=.ok (.lst Ca6):=by kernel_rfl
theorem qtb{k:Nat}:qa p (k+11) "many_holding" [Wa6]=.ok (.int 31):=by kernel_rfl
theorem qsO{k:Nat}:qa p (k+11) "most_apart" [Wa6]=.ok (.int 2):=by kernel_rfl
theorem a6:qa p 19 "_law_alike" [Wa6,.tup [.int 2,.int 1,.lst Ca6,.int 31],.tup [.int 1,.int 4],.tup [.int 0,.int 3]]=.ok (.bl true):=by
 rw [qf zA];exact qbx (zK (k:=6) qpX rfl rfl) qpX rfl qsP (by kernel_rfl) qtb (by kernel_rfl) (by kernel_rfl) (by kernel_rfl) (by kernel_rfl) qsO
noncomputable def Wg6:D:=.tup [.int 6,.tup [.tup [.int 0,.int 1],.tup [.int 0,.int 5],.tup [.int 1,.int 2],.tup [.int 2,.int 3],.tup [.int 3,.int 4],.tup [.int 4,.int 5]]]
noncomputable def Fg6:List D:=[.tup [.int 0,.int 3],.tup [.int 1,.int 4],.tup [.int 2,.int 5]]
noncomputable def Cg6:List D:=[.tup [.int 0,.int 3],.tup [.int 1,.int 4],.tup [.int 2,.int 5]]
theorem qqH{k:Nat}:qa p (k+10) "all_fewest" [Wg6]=.ok (.lst Fg6):=by kernel_rfl
theorem qsJ{k:Nat}:qa p (k+10) "all_once" [Wg6]=.ok (.lst Cg6):=by kernel_rfl
theorem qta{k:Nat}:qa p (k+11) "many_holding" [Wg6]=.ok (.int 39):=by kernel_rfl
theorem qsU{k:Nat}:qa p (k+11) "most_apart" [Wg6]=.ok (.int 2):=by kernel_rfl
theorem g6:qa p 19 "_law_alike" [Wg6,.tup [.int 2,.int 3,.lst Cg6,.int 39],.tup [.int 1,.int 4],.tup [.int 0,.int 3]]=.ok (.bl true):=by
 rw [qf zA];exact qbx (zK (k:=6) qqH rfl rfl) qqH rfl qsJ (by kernel_rfl) qta (by kernel_rfl) (by kernel_rfl) (by kernel_rfl) (by kernel_rfl) qsU
theorem r6:qa p 20 "_law_right" [.int 6]=.ok (.bl true):=by
 rw [qf zQ];exact qch rfl rfl (by kernel_rfl) (by kernel_rfl) (by kernel_rfl) (by kernel_rfl) (by kernel_rfl) (by kernel_rfl) (by kernel_rfl) a6 (by kernel_rfl) (by kernel_rfl) (by kernel_rfl) (by kernel_rfl) (by kernel_rfl) (by kernel_rfl) (by kernel_rfl) g6
noncomputable def Wa7:D:=.tup [.int 7,.tup [.tup [.int 0,.int 1],.tup [.int 1,.int 2],.tup [.int 2,.int 3],.tup [.int 3,.int 4],.tup [.int 4,.int 5],.tup [.int 5,.int 6]]]
noncomputable def Fa7:List D:=[.tup [.int 0,.int 2,.int 5],.tup [.int 0,.int 3,.int 5],.tup [.int 0,.int 3,.int 6],.tup [.int 1,.int 2,.int 5],.tup [.int 1,.int 3,.int 5],.tup [.int 1,.int 3,.int 6],.tup [.int 1,.int 4,.int 5],.tup [.int 1,.int 4,.int 6]]
noncomputable def Ca7:List D:=[.tup [.int 0,.int 3,.int 6]]
theorem qpb{k:Nat}:qa p (k+10) "all_fewest" [Wa7]=.ok (.lst Fa7):=by kernel_rfl
theorem qsS{k:Nat}:qa p (k+10) "all_once" [Wa7]=.ok (.lst Ca7):=by kernel_rfl
theorem qte{k:Nat}:qa p (k+11) "many_holding" [Wa7]=.ok (.int 57):=by kernel_rfl
theorem qsl{k:Nat}:qa p (k+11) "most_apart" [Wa7]=.ok (.int 3):=by kernel_rfl
theorem a7:qa p 19 "_law_alike" [Wa7,.tup [.int 3,.int 8,.lst Ca7,.int 57],.tup [.int 1,.int 4,.int 6],.tup [.int 0,.int 3,.int 6]]=.ok (.bl true):=by
 rw [qf zA];exact qbx (zK (k:=6) qpb rfl rfl) qpb rfl qsS (by kernel_rfl) qte (by kernel_rfl) (by kernel_rfl) (by kernel_rfl) (by kernel_rfl) qsl
noncomputable def Wg7:D:=.tup [.int 7,.tup [.tup [.int 0,.int 1],.tup [.int 0,.int 6],.tup [.int 1,.int 2],.tup [.int 2,.int 3],.tup [.int 3,.int 4],.tup [.int 4,.int 5],.tup [.int 5,.int 6]]]
noncomputable def Fg7:List D:=[.tup [.int 0,.int 1,.int 4],.tup [.int 0,.int 2,.int 4],.tup [.int 0,.int 2,.int 5],.tup [.int 0,.int 3,.int 4],.tup [.int 0,.int 3,.int 5],.tup [.int 0,.int 3,.int 6],.tup [.int 1,.int 2,.int 5],.tup [.int 1,.int 3,.int 5],.tup [.int 1,.int 3,.int 6],.tup [.int 1,.int 4,.int 5],.tup [.int 1,.int 4,.int 6],.tup [.int 2,.int 3,.int 6],.tup [.int 2,.int 4,.int 6],.tup [.int 2,.int 5,.int 6]]
noncomputable def Cg7:List D:=[]
theorem qpm{k:Nat}:qa p (k+10) "all_fewest" [Wg7]=.ok (.lst Fg7):=by kernel_rfl
theorem qsG{k:Nat}:qa p (k+10) "all_once" [Wg7]=.ok (.lst Cg7):=by kernel_rfl
theorem qsy{k:Nat}:qa p (k+11) "many_holding" [Wg7]=.ok (.int 71):=by kernel_rfl
theorem qsr{k:Nat}:qa p (k+11) "most_apart" [Wg7]=.ok (.int 2):=by kernel_rfl
theorem g7:qa p 19 "_law_alike" [Wg7,.tup [.int 3,.int 14,.lst Cg7,.int 71],.tup [.int 1,.int 4,.int 6],.non]=.ok (.bl true):=by
 rw [qf zA];exact qdq (zK (k:=6) qpm rfl rfl) qpm rfl qsG (by kernel_rfl) qsy (by kernel_rfl) (by kernel_rfl) qsr (by decide)
theorem r7:qa p 20 "_law_right" [.int 7]=.ok (.bl true):=by
 rw [qf zQ];exact qch rfl rfl (by kernel_rfl) (by kernel_rfl) (by kernel_rfl) (by kernel_rfl) (by kernel_rfl) (by kernel_rfl) (by kernel_rfl) a7 (by kernel_rfl) (by kernel_rfl) (by kernel_rfl) (by kernel_rfl) (by kernel_rfl) (by kernel_rfl) (by kernel_rfl) g7
noncomputable def Wa8:D:=.tup [.int 8,.tup [.tup [.int 0,.int 1],.tup [.int 1,.int 2],.tup [.int 2,.int 3],.tup [.int 3,.int 4],.tup [.int 4,.int 5],.tup [.int 5,.int 6],.tup [.int 6,.int 7]]]
noncomputable def Fa8:List D:=[.tup [.int 0,.int 3,.int 6],.tup [.int 1,.int 3,.int 6],.tup [.int 1,.int 4,.int 6],.tup [.int 1,.int 4,.int 7]]
noncomputable def Ca8:List D:=[.tup [.int 0,.int 3,.int 6],.tup [.int 1,.int 4,.int 7]]
theorem qps{k:Nat}:qa p (k+10) "all_fewest" [Wa8]=.ok (.lst Fa8):=by kernel_rfl
theorem qtc{k:Nat}:qa p (k+10) "all_once" [Wa8]=.ok (.lst Ca8):=by kernel_rfl
theorem qsI{k:Nat}:qa p (k+11) "many_holding" [Wa8]=.ok (.int 105):=by kernel_rfl
theorem qsA{k:Nat}:qa p (k+11) "most_apart" [Wa8]=.ok (.int 3):=by kernel_rfl
theorem a8:qa p 19 "_law_alike" [Wa8,.tup [.int 3,.int 4,.lst Ca8,.int 105],.tup [.int 1,.int 4,.int 7],.tup [.int 0,.int 3,.int 6]]=.ok (.bl true):=by
 rw [qf zA];exact qbx (zK (k:=6) qps rfl rfl) qps rfl qtc (by kernel_rfl) qsI (by kernel_rfl) (by kernel_rfl) (by kernel_rfl) (by kernel_rfl) qsA
noncomputable def Wg8:D:=.tup [.int 8,.tup [.tup [.int 0,.int 1],.tup [.int 0,.int 7],.tup [.int 1,.int 2],.tup [.int 2,.int 3],.tup [.int 3,.int 4],.tup [.int 4,.int 5],.tup [.int 5,.int 6],.tup [.int 6,.int 7]]]
noncomputable def Fg8:List D:=[.tup [.int 0,.int 2,.int 5],.tup [.int 0,.int 3,.int 5],.tup [.int 0,.int 3,.int 6],.tup [.int 1,.int 3,.int 6],.tup [.int 1,.int 4,.int 6],.tup [.int 1,.int 4,.int 7],.tup [.int 2,.int 4,.int 7],.tup [.int 2,.int 5,.int 7]]
noncomputable def Cg8:List D:=[]
theorem qoX{k:Nat}:qa p (k+10) "all_fewest" [Wg8]=.ok (.lst Fg8):=by kernel_rfl
theorem qsW{k:Nat}:qa p (k+10) "all_once" [Wg8]=.ok (.lst Cg8):=by kernel_rfl
theorem qtg{k:Nat}:qa p (k+11) "many_holding" [Wg8]=.ok (.int 131):=by kernel_rfl
theorem qsm{k:Nat}:qa p (k+11) "most_apart" [Wg8]=.ok (.int 2):=by kernel_rfl
theorem g8:qa p 19 "_law_alike" [Wg8,.tup [.int 3,.int 8,.lst Cg8,.int 131],.tup [.int 1,.int 4,.int 7],.non]=.ok (.bl true):=by
 rw [qf zA];exact qdq (zK (k:=6) qoX rfl rfl) qoX rfl qsW (by kernel_rfl) qtg (by kernel_rfl) (by kernel_rfl) qsm (by decide)
theorem r8:qa p 20 "_law_right" [.int 8]=.ok (.bl true):=by
 rw [qf zQ];exact qch rfl rfl (by kernel_rfl) (by kernel_rfl) (by kernel_rfl) (by kernel_rfl) (by kernel_rfl) (by kernel_rfl) (by kernel_rfl) a8 (by kernel_rfl) (by kernel_rfl) (by kernel_rfl) (by kernel_rfl) (by kernel_rfl) (by kernel_rfl) (by kernel_rfl) g8
noncomputable def Wl3:D:=.tup [.int 6,.tup [.tup [.int 0,.int 1],.tup [.int 0,.int 2],.tup [.int 1,.int 3],.tup [.int 2,.int 3],.tup [.int 2,.int 4],.tup [.int 3,.int 5],.tup [.int 4,.int 5]]]
noncomputable def Fl3:List D:=[.tup [.int 0,.int 5],.tup [.int 1,.int 4],.tup [.int 2,.int 3]]
theorem qqZ{k:Nat}:qa p (k+10) "all_fewest" [Wl3]=.ok (.lst Fl3):=by kernel_rfl
theorem a3:qa p 19 "_law_alike" [.tup [.int 3,.tup [.tup [.int 0,.int 1],.tup [.int 1,.int 2]]],.tup [.int 1,.int 1,.lst [.tup [.int 1]],.int 5],.tup [.int 1],.tup [.int 0]]=.ok (.bl true):=by kernel_rfl
theorem g3:qa p 19 "_law_alike" [.tup [.int 3,.tup [.tup [.int 0,.int 1],.tup [.int 0,.int 2],.tup [.int 1,.int 2]]],.tup [.int 1,.int 3,.lst [.tup [.int 0],.tup [.int 1],.tup [.int 2]],.int 7],.tup [.int 1],.tup [.int 0]]=.ok (.bl true):=by kernel_rfl
theorem r3:qa p 20 "_law_right" [.int 3]=.ok (.bl true):=by
 rw [qf zQ];exact qnr rfl rfl (by kernel_rfl) (by kernel_rfl) (by kernel_rfl) (by kernel_rfl) (by kernel_rfl) (by kernel_rfl) (by kernel_rfl) a3 (by kernel_rfl) (by kernel_rfl) (by kernel_rfl) (by kernel_rfl) (by kernel_rfl) (by kernel_rfl) (by kernel_rfl) g3 (W2:=Wl3) (L:=.tup [.int 0,.int 5]) (Q:=.tup [.int 0,.int 5]) (by kernel_rfl) (zK (k:=7) qqZ rfl rfl) (by kernel_rfl) (by kernel_rfl) qqZ (by kernel_rfl) (by kernel_rfl) (by kernel_rfl) (by kernel_rfl) 
noncomputable def Wl4:D:=.tup [.int 8,.tup [.tup [.int 0,.int 1],.tup [.int 0,.int 2],.tup [.int 1,.int 3],.tup [.int 2,.int 3],.tup [.int 2,.int 4],.tup [.int 3,.int 5],.tup [.int 4,.int 5],.tup [.int 4,.int 6],.tup [.int 5,.int 7],.tup [.int 6,.int 7]]]
noncomputable def Fl4:List D:=[.tup [.int 0,.int 2,.int 7],.tup [.int 0,.int 3,.int 6],.tup [.int 0,.int 4,.int 5],.tup [.int 0,.int 5,.int 6],.tup [.int 0,.int 5,.int 7],.tup [.int 1,.int 2,.int 7],.tup [.int 1,.int 3,.int 6],.tup [.int 1,.int 4,.int 5],.tup [.int 1,.int 4,.int 6],.tup [.int 1,.int 4,.int 7],.tup [.int 2,.int 3,.int 6],.tup [.int 2,.int 3,.int 7]]
theorem qoO{k:Nat}:qa p (k+10) "all_fewest" [Wl4]=.ok (.lst Fl4):=by kernel_rfl
theorem qsi{k:Nat}:qa p (k+11) "most_apart" [Wl4]=.ok (.int 2):=by kernel_rfl
theorem a4:qa p 19 "_law_alike" [.tup [.int 4,.tup [.tup [.int 0,.int 1],.tup [.int 1,.int 2],.tup [.int 2,.int 3]]],.tup [.int 2,.int 4,.lst [.tup [.int 0,.int 3]],.int 9],.tup [.int 1,.int 3],.tup [.int 0,.int 3]]=.ok (.bl true):=by kernel_rfl
theorem g4:qa p 19 "_law_alike" [.tup [.int 4,.tup [.tup [.int 0,.int 1],.tup [.int 0,.int 3],.tup [.int 1,.int 2],.tup [.int 2,.int 3]]],.tup [.int 2,.int 6,.lst [],.int 11],.tup [.int 1,.int 3],.non]=.ok (.bl true):=by kernel_rfl
theorem r4:qa p 20 "_law_right" [.int 4]=.ok (.bl true):=by
 rw [qf zQ];exact qoa rfl rfl (by kernel_rfl) (by kernel_rfl) (by kernel_rfl) (by kernel_rfl) (by kernel_rfl) (by kernel_rfl) (by kernel_rfl) a4 (by kernel_rfl) (by kernel_rfl) (by kernel_rfl) (by kernel_rfl) (by kernel_rfl) (by kernel_rfl) (by kernel_rfl) g4 (W2:=Wl4) (L:=.tup [.int 0,.int 5,.int 7]) (by kernel_rfl) (zK (k:=7) qoO rfl rfl) (by kernel_rfl) (by kernel_rfl) qoO (by kernel_rfl) (by kernel_rfl) qsi (by decide)
theorem right{n:Int}(h0:1≤n)(h1:n≤8):qa p 20 "_law_right" [.int n]=.ok (.bl true):=by
 rcases(show n=1∨n=2∨n=3∨n=4∨n=5∨n=6∨n=7∨n=8 by lia)with h|h|h|h|h|h|h|h
 ·rw [h];exact r1
 ·rw [h];exact r2
 ·rw [h];exact r3
 ·rw [h];exact r4
 ·rw [h];exact r5
 ·rw [h];exact r6
 ·rw [h];exact r7
 ·rw [h];exact r8
theorem qlQ{w:W}(ns:List Int)(hn:ns.length≤63)(hc:∃x:Int,w.call "_law_cell_at" [.lst (ns.map D.int),.int 0]=.ok (.int x))
  (hs:∀c j:Int,w.call "_law_stir" [.int c,.int j]=.ok (.int (st c j)))
  (hr:∀n:Int,1≤n→n≤8→w.call "_law_right" [.int n]=.ok (.bl true))
  (h1:∀n:Int,1≤n∧n≤300→w.call "row_fewest" [.int n]=.ok (.int ((n+2)/3)))
  (h2:∀n:Int,3≤n∧n≤300→w.call "ring_fewest" [.int n]=.ok (.int ((n+2)/3)))
  (h3:∀n:Int,1≤n∧n≤300→w.call "row_holding" [.int n]=.ok (.int (rh n)))
  (h4:∀n:Int,3≤n∧n≤300→w.call "ring_holding" [.int n]=.ok (.int (gh n))):Ends (fun _=>False) (fun d=>d=.bl true) (qX w qgk.body [some (.lst (ns.map D.int)),none,none]):=by
 have q1:=hr 1 (by lia) (by lia);have q2:=hr 2 (by lia) (by lia);have q3:=hr 3 (by lia) (by lia);refine qdr (σ:=[some (.lst (ns.map D.int)),none,none]) (by simp [KG.Z,q1,q2,q3]) ?_;obtain⟨cs,hcs,hcl⟩:=qns ns (some 1) (some 3);obtain⟨x,hx⟩:=hc;refine qpQ (ds:=(x::cs).map D.int) (fun r σ=>∃(ms:List Int) (v1 v2:Option D),r=ms.map D.int∧σ=[some (.lst (ns.map D.int)),v1,v2]) ?_ ⟨_,none,none,rfl,rfl⟩ ?_ ?_
 ·have e:op2 .add (.lst [.int x]) (.lst (cs.map D.int))=.ok (.lst ((x::cs).map D.int)):=by
   rw [op2,if_pos (by simp [SZ];lia)];simp
  simp [KG.Z,slD,hcs,hx,e,seq?]
 ·rintro y t σ ⟨ms,v1,v2,e,rfl⟩;obtain⟨c,ms,rfl,rfl,rfl⟩:=fx e;refine⟨[some (.lst (ns.map D.int)),some (.int c),v2],rfl,?_⟩;generalize some (D.lst (ns.map D.int))=N;have a1:=hr (1+c%8) (by lia) (by lia);have a2:=hr (1+st c 1%8) (by lia) (by lia);have o1:op2 .mod (.int c) (.int 8)=.ok (.int (c%8)):=rfl;have o2:op2 .add (.int 1) (.int (c%8))=.ok (.int (1+c%8)):=rfl;have o3:op2 .mod (.int (st c 1)) (.int 8)=.ok (.int (st c 1%8)):=rfl;have o4:op2 .add (.int 1) (.int (st c 1%8))=.ok (.int (1+st c 1%8)):=rfl;have s1:=hs c 1;have s2:=hs c 2;refine qdr (σ:=[N,some (.int c),v2]) (by simp [KG.Z,s1,o1,o2,o3,o4,a1,a2]) ?_;have o5:op2 .mod (.int (st c 2)) (.int 297)=.ok (.int (st c 2%297)):=rfl;have o6:op2 .add (.int 4) (.int (st c 2%297))=.ok (.int (4+st c 2%297)):=rfl;obtain⟨n,hn⟩:∃n,n=4+st c 2%297:=⟨_,rfl⟩
  have n1:4≤n:=by lia
  have n2:n≤300:=by lia
  refine qdr (σ:=[N,some (.int c),some (.int n)]) (by rw [hn];simp [KG.Z,s2,o5,o6]) ?_;clear s2 o5 o6 hn a1 a2 o1 o2 o3 o4 s1;have p1:op2 .sub (.int n) (.int 1)=.ok (.int (n-1)):=rfl;have p2:op2 .sub (.int n) (.int 2)=.ok (.int (n-2)):=rfl;have p3:op2 .sub (.int n) (.int 3)=.ok (.int (n-3)):=rfl;have f0:=h1 n (by lia);have f1:=h1 (n-1) (by lia);have f3:=h1 (n-3) (by lia);have t1:op2 .add (.int ((n-3+2)/3)) (.int 1)=.ok (.int ((n-3+2)/3+1)):=rfl;have u1:qh .ne (.int ((n+2)/3)) (.int ((n-3+2)/3+1))=.ok false:=by rw [ne_int,decide_eq_true (by lia)];rfl
  have u2:qh .lt (.int ((n+2)/3)) (.int ((n-1+2)/3))=.ok false:=by rw [lt_int,decide_eq_false (by lia)]
  refine qdr (σ:=[N,some (.int c),some (.int n)]) (by simp [KG.Z,f0,f1,f3,p1,p3,t1,u1,u2]) ?_;refine qdr (σ:=[N,some (.int c),some (.int n)]) ?_ ?_
  ·by_cases g:5<n
   ·have g0:=h2 n (by lia);have g3:=h2 (n-3) (by lia);have y0:=h4 n (by lia);have y1:op2 .mod (.int (gh n)) (.int 2)=.ok (.int (gh n%2)):=rfl;have y2:qh .eq (.int (gh n%2)) (.int 0)=.ok false:=by rw [eq_int,decide_eq_false (by rw [qoU];lia)]
    have y3:qh .gt (.int n) (.int 5)=.ok true:=by
     show R.ok (decide (n>5))=_;rw [decide_eq_true (by lia)]
    simp [KG.Z,g0,g3,p3,t1,u1,y0,y1,y2,y3]
   ·have y3:qh .gt (.int n) (.int 5)=.ok false:=by
     show R.ok (decide (n>5))=_;rw [decide_eq_false (by lia)]
    simp [KG.Z,y3]
  ·have z0:=h3 n (by lia);have z1:=h3 (n-1) (by lia);have z2:=h3 (n-2) (by lia);have z3:=h3 (n-3) (by lia);have w1:op2 .add (.int (rh (n-1))) (.int (rh (n-2)))=.ok (.int (rh (n-1)+rh (n-2))):=rfl;have w2:op2 .add (.int (rh (n-1)+rh (n-2))) (.int (rh (n-3)))=.ok (.int (rh (n-1)+rh (n-2)+rh (n-3))):=rfl;have w3:qh .ne (.int (rh n)) (.int (rh (n-1)+rh (n-2)+rh (n-3)))=.ok false:=by rw [ne_int,decide_eq_true (qqD n1)];rfl
   refine qdr (σ:=[N,some (.int c),some (.int n)]) (by simp [KG.Z,z0,z1,z2,z3,p1,p2,p3,w1,w2,w3]) ?_;exact qoJ ⟨ms,_,_,rfl,rfl⟩
 ·rintro σ ⟨ms,v1,v2,e,rfl⟩;exact qrR (d:=.bl true) (by simp [KG.Z]) rfl
theorem qnL{F:Str→List D→R D}(ns:List Int)(hn:ns.length≤63)(hc:∃x:Int,F "_law_cell_at" [.lst (ns.map D.int),.int 0]=.ok (.int x))
  (hs:∀c j:Int,F "_law_stir" [.int c,.int j]=.ok (.int (st c j)))
  (hr:∀n:Int,1≤n→n≤8→F "_law_right" [.int n]=.ok (.bl true))
  (h1:∀n:Int,1≤n∧n≤300→F "row_fewest" [.int n]=.ok (.int ((n+2)/3)))
  (h2:∀n:Int,3≤n∧n≤300→F "ring_fewest" [.int n]=.ok (.int ((n+2)/3)))
  (h3:∀n:Int,1≤n∧n≤300→F "row_holding" [.int n]=.ok (.int (rh n)))
  (h4:∀n:Int,3≤n∧n≤300→F "ring_holding" [.int n]=.ok (.int (gh n))):zG ⟨F,p.glb,p.sub,p.cat⟩ qgk [.lst (ns.map D.int)]=.ok (.bl true):=by
 obtain⟨d,e,rfl⟩:=qoS (w:=⟨F,p.glb,p.sub,p.cat⟩) (f:=qgk) (ds:=[.lst (ns.map D.int)]) rfl rfl (qlQ (w:=⟨F,p.glb,p.sub,p.cat⟩) ns hn hc hs hr h1 h2 h3 h4);exact e
noncomputable def depth:Nat:=21
theorem qma:∀ns:List Int,ns.length≤63→qa p depth "law" [.lst (ns.map D.int)]=.ok (.bl true):=by
 intro ns hn;rw [show depth=20+1 from rfl,qf qra];exact qnL ns hn (qmy (by kernel_rfl) (k:=19) ns) (fun c j=>qrO (by kernel_rfl) (k:=19) c j) (fun n h0 h1=>right h0 h1) (fun n h=>qiM (k:=15) n h) (fun n h=>qhW (k:=15) n h) (fun n h=>qhK (k:=15) n h) (fun n h=>qgz (k:=15) n h)
end K56
namespace K56
open PySem PySem.Spec PyProof.Rows L2 EV
theorem qmI:∀e∈tab,cFn G (qdF us oth) e.own e.fr e.st=some e.fn:=by
 intro e he;simp only [tab,List.mem_cons,List.not_mem_nil,or_false]at he;rcases he with rfl|rfl|rfl|rfl|rfl|rfl|rfl|rfl|rfl|rfl|rfl|rfl|rfl|rfl|rfl|rfl|rfl|rfl|rfl|rfl|rfl|rfl|rfl|rfl|rfl|rfl|rfl|rfl|rfl|rfl|rfl|rfl|rfl|rfl|rfl|rfl|rfl|rfl|rfl|rfl|rfl|rfl|rfl|rfl|rfl|rfl|rfl|rfl|rfl|rfl|rfl|rfl|rfl|rfl|rfl|rfl|rfl|rfl|rfl|rfl|rfl|rfl|rfl|rfl|rfl|rfl<;>kernel_rfl
theorem qpv:∀e∈us,e∈tab:=by
 intro e he;cases he
theorem qsu:∀e∈us,qpU (qcJ oth) e.own e.fr e.st=some e.fn:=by
 intro e he;cases he
theorem nd:(tab.map (·.x)).Nodup:=by decide +kernel
section
variable{K:PySem.W.Frag}{h:Heap}{mg:Str→Option Value}{f0:Addr}(d0:WB.Dd K "is_whole" (top 7) f0){f1:Addr}(d1:WB.Dd K "is_between" (top 8) f1){f2:Addr}(d2:WB.Dd K "need_between" (top 9) f2){f3:Addr}(d3:WB.Dd K "is_pair" (top 10) f3){f4:Addr}(d4:WB.Dd K "rises" (top 11) f4){f5:Addr}(d5:WB.Dd K "need_row" (top 14) f5){f6:Addr}(d6:WB.Dd K "need_ring" (top 15) f6){f7:Addr}(d7:WB.Dd K "row_fewest" (top 16) f7){f8:Addr}(d8:WB.Dd K "ring_fewest" (top 17) f8){f9:Addr}(d9:WB.Dd K "ladder_fewest" (top 18) f9){f10:Addr}(d10:WB.Dd K "row_set" (top 19) f10){f11:Addr}(d11:WB.Dd K "ring_set" (top 20) f11){f12:Addr}(d12:WB.Dd K "ladder_set" (top 21) f12){f13:Addr}(d13:WB.Dd K "row_paper" (top 22) f13){f14:Addr}(d14:WB.Dd K "ring_paper" (top 23) f14){f15:Addr}(d15:WB.Dd K "ladder_paper" (top 24) f15){f16:Addr}(d16:WB.Dd K "row_many" (top 25) f16){f17:Addr}(d17:WB.Dd K "ring_many" (top 26) f17){f18:Addr}(d18:WB.Dd K "row_once" (top 27) f18){f19:Addr}(d19:WB.Dd K "ring_once" (top 28) f19){f20:Addr}(d20:WB.Dd K "row_holding" (top 29) f20){f21:Addr}(d21:WB.Dd K "ring_holding" (top 30) f21){f22:Addr}(d22:WB.Dd K "thirds" (top 31) f22){f23:Addr}(d23:WB.Dd K "thirds_from" (top 32) f23){f24:Addr}(d24:WB.Dd K "middles" (top 33) f24){f25:Addr}(d25:WB.Dd K "zigzag" (top 34) f25){f26:Addr}(d26:WB.Dd K "summed_on" (top 35) f26){f27:Addr}(d27:WB.Dd K "is_web" (top 38) f27){f28:Addr}(d28:WB.Dd K "is_tie" (top 39) f28){f29:Addr}(d29:WB.Dd K "need_web" (top 40) f29){f30:Addr}(d30:WB.Dd K "is_place" (top 41) f30){f31:Addr}(d31:WB.Dd K "hoods" (top 42) f31){f32:Addr}(d32:WB.Dd K "hood_of" (top 43) f32){f33:Addr}(d33:WB.Dd K "are_tied" (top 44) f33){f34:Addr}(d34:WB.Dd K "is_some" (top 46) f34){f35:Addr}(d35:WB.Dd K "need_some" (top 47) f35){f36:Addr}(d36:WB.Dd K "need_all" (top 48) f36){f37:Addr}(d37:WB.Dd K "unheld" (top 49) f37){f38:Addr}(d38:WB.Dd K "holds_all" (top 50) f38){f39:Addr}(d39:WB.Dd K "mark_of" (top 51) f39){f40:Addr}(d40:WB.Dd K "marks_of" (top 52) f40){f41:Addr}(d41:WB.Dd K "places_marked" (top 53) f41){f42:Addr}(d42:WB.Dd K "all_some" (top 54) f42){f43:Addr}(d43:WB.Dd K "all_holding" (top 55) f43){f44:Addr}(d44:WB.Dd K "row" (top 57) f44){f45:Addr}(d45:WB.Dd K "ring" (top 58) f45){f46:Addr}(d46:WB.Dd K "block" (top 59) f46){f47:Addr}(d47:WB.Dd K "row_ties" (top 60) f47){f48:Addr}(d48:WB.Dd K "web_of" (top 61) f48){f49:Addr}(d49:WB.Dd K "by_size" (top 63) f49){f50:Addr}(d50:WB.Dd K "many_holding" (top 64) f50){f51:Addr}(d51:WB.Dd K "fewest" (top 66) f51){f52:Addr}(d52:WB.Dd K "first_fewest" (top 67) f52){f53:Addr}(d53:WB.Dd K "all_fewest" (top 68) f53){f54:Addr}(d54:WB.Dd K "is_apart" (top 69) f54){f55:Addr}(d55:WB.Dd K "most_apart" (top 70) f55){f56:Addr}(d56:WB.Dd K "first_apart" (top 71) f56){f57:Addr}(d57:WB.Dd K "is_paper" (top 72) f57){f58:Addr}(d58:WB.Dd K "all_once" (top 73) f58){f59:Addr}(d59:WB.Dd K "is_apart_by" (top 74) f59){f60:Addr}(d60:WB.Dd K "is_once_by" (top 75) f60){f61:Addr}(d61:WB.Dd K "_law_cell_at" (top 77) f61){f62:Addr}(d62:WB.Dd K "_law_stir" (top 78) f62){f63:Addr}(d63:WB.Dd K "_law_alike" (top 79) f63){f64:Addr}(d64:WB.Dd K "_law_right" (top 80) f64){f65:Addr}(d65:WB.Dd K "law" (top 81) f65)
include d0 d1 d2 d3 d4 d5 d6 d7 d8 d9 d10 d11 d12 d13 d14 d15 d16 d17 d18 d19 d20 d21 d22 d23 d24 d25 d26 d27 d28 d29 d30 d31 d32 d33 d34 d35 d36 d37 d38 d39 d40 d41 d42 d43 d44 d45 d46 d47 d48 d49 d50 d51 d52 d53 d54 d55 d56 d57 d58 d59 d60 d61 d62 d63 d64 d65
theorem qqu:∀e∈tab,qeh K G e:=by
 intro e he;simp only [tab,List.mem_cons,List.not_mem_nil,or_false]at he;rcases he with rfl|rfl|rfl|rfl|rfl|rfl|rfl|rfl|rfl|rfl|rfl|rfl|rfl|rfl|rfl|rfl|rfl|rfl|rfl|rfl|rfl|rfl|rfl|rfl|rfl|rfl|rfl|rfl|rfl|rfl|rfl|rfl|rfl|rfl|rfl|rfl|rfl|rfl|rfl|rfl|rfl|rfl|rfl|rfl|rfl|rfl|rfl|rfl|rfl|rfl|rfl|rfl|rfl|rfl|rfl|rfl|rfl|rfl|rfl|rfl|rfl|rfl|rfl|rfl|rfl|rfl<;>refine⟨⟨_,by assumption⟩,fun _ _ _ _ _ _ us hl=>?_⟩<;>first|(obtain⟨_,rfl⟩:=WB.qoI hl;rfl)|(obtain⟨_,_,rfl⟩:=WB.qqK hl;rfl)|(obtain⟨_,_,_,rfl⟩:=WB.qpx hl;rfl)|(obtain⟨_,_,_,_,rfl⟩:=WB.qsY hl;rfl)
omit d0 d1 d2 d3 d4 d5 d6 d7 d8 d9 d10 d11 d12 d13 d14 d15 d16 d17 d18 d19 d20 d21 d22 d23 d24 d25 d26 d27 d28 d29 d30 d31 d32 d33 d34 d35 d36 d37 d38 d39 d40 d41 d42 d43 d44 d45 d46 d47 d48 d49 d50 d51 d52 d53 d54 d55 d56 d57 d58 d59 d60 d61 d62 d63 d64 d65
theorem qdJ{x:Str}{k:GK}(h:oth.lookup x=some k):∃y∈oth,x=y.1∧k=y.2:=by
 generalize oth=l at h ⊢
 induction l with
 |nil=>cases h
 |cons a r ih=>
  rw [List.lookup_cons]at h;split at h
  ·rename_i q;cases h;exact⟨a,List.mem_cons_self,eq_of_beq q,rfl⟩
  ·obtain⟨y,h1,h2⟩:=ih h;exact⟨y,List.mem_cons_of_mem _ h1,h2⟩
theorem qpA{K:PySem.W.Frag}{C0:Addr}(k0:PySem.W.nsIn K mainGlobals "NoWeb" = some (some (.ref C0)))(x0:PySem.W.excIn K C0 qcn "ValueError.__new__" = true){C1:Addr}(k1:PySem.W.nsIn K mainGlobals "NoPlaces" = some (some (.ref C1)))(x1:PySem.W.excIn K C1 qcn "ValueError.__new__" = true){C2:Addr}(k2:PySem.W.nsIn K mainGlobals "NoNumber" = some (some (.ref C2)))(x2:PySem.W.excIn K C2 qcn "ValueError.__new__" = true){C3:Addr}(k3:PySem.W.nsIn K mainGlobals "NotAll" = some (some (.ref C3))){tk0:Tok}(u0:PySem.W.nsIn K mainGlobals "LONGEST" = some (some (.int 300 tk0))){tk1:Tok}(u1:PySem.W.nsIn K mainGlobals "MOST" = some (some (.int 8 tk1)))(z0:PySem.W.nsIn K mainGlobals "len" = some none)(z1:PySem.W.nsIn K mainGlobals "tuple" = some none)(z2:PySem.W.nsIn K mainGlobals "int" = some none)(z3:PySem.W.nsIn K mainGlobals "bool" = some none)(z4:PySem.W.nsIn K mainGlobals "sorted" = some none)(z5:PySem.W.nsIn K mainGlobals "all" = some none)(z6:PySem.W.nsIn K mainGlobals "min" = some none)(z7:PySem.W.nsIn K mainGlobals "max" = some none)(z8:PySem.W.nsIn K mainGlobals "sum" = some none)(z9:PySem.W.nsIn K mainGlobals "range" = some none)(z10:PySem.W.nsIn K mainGlobals "enumerate" = some none)(z11:PySem.W.nsIn K mainGlobals "isinstance" = some none):∀x k,oth.lookup x=some k→qpj K vals x k:=by
 intro x k h;obtain⟨y,h1,rfl,rfl⟩:=qdJ h;simp only [oth,List.mem_cons,List.not_mem_nil,or_false]at h1;rcases h1 with rfl|rfl|rfl|rfl|rfl|rfl|rfl|rfl|rfl|rfl|rfl|rfl|rfl|rfl|rfl|rfl|rfl|rfl
 ·exact⟨_,k0,x0⟩
 ·exact⟨_,k1,x1⟩
 ·exact⟨_,k2,x2⟩
 ·exact⟨_,k3⟩
 ·exact⟨_,.int 300,.int 300,u0,⟨_,rfl⟩,rfl,fun g H _=>.int _⟩
 ·exact⟨_,.int 8,.int 8,u1,⟨_,rfl⟩,rfl,fun g H _=>.int _⟩
 ·exact⟨z0,rfl,_,rfl⟩
 ·exact⟨z1,by decide +kernel,by simp,by simp [b1N,b1V]⟩
 ·exact⟨z2,by decide +kernel,by simp,by simp [b1N,b1V]⟩
 ·exact⟨z3,by decide +kernel,by simp,by simp [b1N,b1V]⟩
 ·exact⟨z4,rfl,_,rfl⟩
 ·exact⟨z5,rfl,_,rfl⟩
 ·exact⟨z6,rfl,_,rfl⟩
 ·exact⟨z7,rfl,_,rfl⟩
 ·exact⟨z8,rfl,_,rfl⟩
 ·exact⟨z9,rfl⟩
 ·exact⟨z10,rfl⟩
 ·exact⟨z11,rfl⟩
theorem qpd:∀x fr,oth.lookup x≠some (.fn fr):=by
 intro x fr h;obtain⟨y,h1,rfl,h2⟩:=qdJ h;simp only [oth,List.mem_cons,List.not_mem_nil,or_false]at h1;rcases h1 with rfl|rfl|rfl|rfl|rfl|rfl|rfl|rfl|rfl|rfl|rfl|rfl|rfl|rfl|rfl|rfl|rfl|rfl<;>cases h2
theorem qnk:∀x,(oth.lookup x=some .exc∨oth.lookup x=some .exk)→([Str.ofString "NoWeb",Str.ofString "NoPlaces",Str.ofString "NoNumber",Str.ofString "NotAll"]:List Str).contains x=true:=by
 intro x h;rcases h with h|h<;>obtain⟨y,h1,rfl,h2⟩:=qdJ h<;>simp only [oth,List.mem_cons,List.not_mem_nil,or_false]at h1<;>rcases h1 with rfl|rfl|rfl|rfl|rfl|rfl|rfl|rfl|rfl|rfl|rfl|rfl|rfl|rfl|rfl|rfl|rfl|rfl<;>first|(cases h2;done)|decide +kernel
theorem qqI{K:PySem.W.Frag}{C0:Addr}(k0:PySem.W.nsIn K mainGlobals "NoWeb" = some (some (.ref C0))){C1:Addr}(k1:PySem.W.nsIn K mainGlobals "NoPlaces" = some (some (.ref C1))){C2:Addr}(k2:PySem.W.nsIn K mainGlobals "NoNumber" = some (some (.ref C2))){C3:Addr}(k3:PySem.W.nsIn K mainGlobals "NotAll" = some (some (.ref C3)))  : ∀y∈qbf,∃C D,PySem.W.nsIn K mainGlobals y.1=some (some (.ref C))∧PySem.W.nsIn K mainGlobals y.2=some (some (.ref D))∧PySem.W.exmOne K (.ref C) (.ref D)=some true:=by
 intro y h1;simp only [qbf,List.mem_cons,List.not_mem_nil,or_false]at h1
 skip
theorem qoC{K:PySem.W.Frag}{C0:Addr}(k0:PySem.W.nsIn K mainGlobals "NoWeb" = some (some (.ref C0))){C1:Addr}(k1:PySem.W.nsIn K mainGlobals "NoPlaces" = some (some (.ref C1))){C2:Addr}(k2:PySem.W.nsIn K mainGlobals "NoNumber" = some (some (.ref C2))){C3:Addr}(k3:PySem.W.nsIn K mainGlobals "NotAll" = some (some (.ref C3)))  : ∀y∈subs,qna K [Str.ofString "NoWeb",Str.ofString "NoPlaces",Str.ofString "NoNumber",Str.ofString "NotAll"] y:=by
 intro y h1;cases h1
include d0 d1 d2 d3 d4 d5 d6 d7 d8 d9 d10 d11 d12 d13 d14 d15 d16 d17 d18 d19 d20 d21 d22 d23 d24 d25 d26 d27 d28 d29 d30 d31 d32 d33 d34 d35 d36 d37 d38 d39 d40 d41 d42 d43 d44 d45 d46 d47 d48 d49 d50 d51 d52 d53 d54 d55 d56 d57 d58 d59 d60 d61 d62 d63 d64 d65
theorem all_mk(X:K.In h)(N:h.Ns mainGlobals mg){C0:Addr}(k0:PySem.W.nsIn K mainGlobals "NoWeb" = some (some (.ref C0)))(x0:PySem.W.excIn K C0 qcn "ValueError.__new__" = true){C1:Addr}(k1:PySem.W.nsIn K mainGlobals "NoPlaces" = some (some (.ref C1)))(x1:PySem.W.excIn K C1 qcn "ValueError.__new__" = true){C2:Addr}(k2:PySem.W.nsIn K mainGlobals "NoNumber" = some (some (.ref C2)))(x2:PySem.W.excIn K C2 qcn "ValueError.__new__" = true){C3:Addr}(k3:PySem.W.nsIn K mainGlobals "NotAll" = some (some (.ref C3))){tk0:Tok}(u0:PySem.W.nsIn K mainGlobals "LONGEST" = some (some (.int 300 tk0))){tk1:Tok}(u1:PySem.W.nsIn K mainGlobals "MOST" = some (some (.int 8 tk1)))(z0:PySem.W.nsIn K mainGlobals "len" = some none)(z1:PySem.W.nsIn K mainGlobals "tuple" = some none)(z2:PySem.W.nsIn K mainGlobals "int" = some none)(z3:PySem.W.nsIn K mainGlobals "bool" = some none)(z4:PySem.W.nsIn K mainGlobals "sorted" = some none)(z5:PySem.W.nsIn K mainGlobals "all" = some none)(z6:PySem.W.nsIn K mainGlobals "min" = some none)(z7:PySem.W.nsIn K mainGlobals "max" = some none)(z8:PySem.W.nsIn K mainGlobals "sum" = some none)(z9:PySem.W.nsIn K mainGlobals "range" = some none)(z10:PySem.W.nsIn K mainGlobals "enumerate" = some none)(z11:PySem.W.nsIn K mainGlobals "isinstance" = some none)   : Ground p (gOf K (tab.map (·.x)) [Str.ofString "NoWeb",Str.ofString "NoPlaces",Str.ofString "NoNumber",Str.ofString "NotAll"]) G (qdF us oth) (qcJ oth) mg∧qeh K G qdv:=
 have A:=qqu d0 d1 d2 d3 d4 d5 d6 d7 d8 d9 d10 d11 d12 d13 d14 d15 d16 d17 d18 d19 d20 d21 d22 d23 d24 d25 d26 d27 d28 d29 d30 d31 d32 d33 d34 d35 d36 d37 d38 d39 d40 d41 d42 d43 d44 d45 d46 d47 d48 d49 d50 d51 d52 d53 d54 d55 d56 d57 d58 d59 d60 d61 d62 d63 d64 d65
 ⟨qke X N rfl nd (qpA k0 x0 k1 x1 k2 x2 k3 u0 u1 z0 z1 z2 z3 z4 z5 z6 z7 z8 z9 z10 z11) qpd qpv qsu qmI A _ (qqI k0 k1 k2 k3) qnk (qoC k0 k1 k2 k3 ),A qdv (by simp [tab])⟩
end
theorem walk{l:PySem.W.OpenLaw}{q:Program}{loose:List Str}{XP:(Str→Option Value)→Heap→Prop}{YP:World→Heap→Prop}{d:DefRec}{K:Params→PySem.W.Frag}(hn:l.most=some 63)(hdf:d.params.defaults=[])(hd:d.name = "law")(hY:∀(w:World) (h:Heap),YP w h→(K w.params).In h)
  (hG:∀(w:World) (mg:Str→Option Value) (h:Heap),(K w.params).In h→h.Ns mainGlobals mg→Ground p (gOf (K w.params) (tab.map (·.x)) [Str.ofString "NoWeb",Str.ofString "NoPlaces",Str.ofString "NoNumber",Str.ofString "NotAll"]) G (qdF us oth) (qcJ oth) mg∧qeh (K w.params) G qdv):PySem.W.WalkO q loose XP YP l.row.toRowW d [] (fun f vs=>PySem.call f vs):=
 qrC (e:=qdv) (k:=depth) hn hdf hd ⟨rfl,by decide,by decide⟩ hY (by simp [tab]) nd rfl rfl (by kernel_rfl) hG (qmI qdv (by simp [tab])) qma
end K56
end
open PySem PySem.W PyProof.Rows
namespace PySem.W.Fast
def tw4054273005516277476:Nat:=0
theorem te4054273005516277476:tw4054273005516277476=0:=rfl
def tw2543644861271454488:Nat:=0
theorem te2543644861271454488:tw2543644861271454488=0:=rfl
def tw17906499949758276500:Nat:=0
theorem te17906499949758276500:tw17906499949758276500=0:=rfl
def tw2619518961397351472:Nat:=0
theorem te2619518961397351472:tw2619518961397351472=0:=rfl
def tw15984814414875261628:Nat:=0
theorem te15984814414875261628:tw15984814414875261628=0:=rfl
def tw10611100152046093127:Nat:=0
theorem te10611100152046093127:tw10611100152046093127=0:=rfl
def tw4584104144464496201:Nat:=0
theorem te4584104144464496201:tw4584104144464496201=0:=rfl
def tw17009987134762973946:Nat:=0
theorem te17009987134762973946:tw17009987134762973946=0:=rfl
def tw10704204136134197040:Nat:=0
theorem te10704204136134197040:tw10704204136134197040=0:=rfl
def tw15285727282696597640:Nat:=0
theorem te15285727282696597640:tw15285727282696597640=0:=rfl
def tw8626199306614503026:Nat:=0
theorem te8626199306614503026:tw8626199306614503026=0:=rfl
def tw9889931204259209121:Nat:=0
theorem te9889931204259209121:tw9889931204259209121=0:=rfl
def tw12659269889789046846:Nat:=0
theorem te12659269889789046846:tw12659269889789046846=0:=rfl
def tw5344139215849669158:Nat:=0
theorem te5344139215849669158:tw5344139215849669158=0:=rfl
def tw11357561070538572993:Nat:=0
theorem te11357561070538572993:tw11357561070538572993=0:=rfl
def tw15153206139523763696:Nat:=0
theorem te15153206139523763696:tw15153206139523763696=0:=rfl
def tw3206345481454876478:Nat:=0
theorem te3206345481454876478:tw3206345481454876478=0:=rfl
def tw8988588562980806179:Nat:=0
theorem te8988588562980806179:tw8988588562980806179=0:=rfl
def tw4219623331939153004:Nat:=0
theorem te4219623331939153004:tw4219623331939153004=0:=rfl
def tw9503394236582538150:Nat:=0
theorem te9503394236582538150:tw9503394236582538150=0:=rfl
def tw14637545838799370444:Nat:=0
theorem te14637545838799370444:tw14637545838799370444=0:=rfl
def tw14828890039731559831:Nat:=0
theorem te14828890039731559831:tw14828890039731559831=0:=rfl
def tw13606748578443504260:Nat:=0
theorem te13606748578443504260:tw13606748578443504260=0:=rfl
def tw11275778250770827184:Nat:=0
theorem te11275778250770827184:tw11275778250770827184=0:=rfl
def tw16022297124543267837:Nat:=0
theorem te16022297124543267837:tw16022297124543267837=0:=rfl
def tw6563486557475876473:Nat:=0
theorem te6563486557475876473:tw6563486557475876473=0:=rfl
def tw16710285856870512931:Nat:=0
theorem te16710285856870512931:tw16710285856870512931=0:=rfl
def tw7070029204439991768:Nat:=0
theorem te7070029204439991768:tw7070029204439991768=0:=rfl
def tw10014149825364421669:Nat:=0
theorem te10014149825364421669:tw10014149825364421669=0:=rfl
def tw11685870128459267988:Nat:=0
theorem te11685870128459267988:tw11685870128459267988=0:=rfl
def tw4888196874699942286:Nat:=0
theorem te4888196874699942286:tw4888196874699942286=0:=rfl
def tw6745239794712528562:Nat:=0
theorem te6745239794712528562:tw6745239794712528562=0:=rfl
def tw5200287122050258387:Nat:=0
theorem te5200287122050258387:tw5200287122050258387=0:=rfl
def tw1665200728703113615:Nat:=0
theorem te1665200728703113615:tw1665200728703113615=0:=rfl
def tw6354562024658321506:Nat:=0
theorem te6354562024658321506:tw6354562024658321506=0:=rfl
def tw11593168288822504933:Nat:=0
theorem te11593168288822504933:tw11593168288822504933=0:=rfl
def tw6020790086166662297:Nat:=0
theorem te6020790086166662297:tw6020790086166662297=0:=rfl
def tw10215303847867099477:Nat:=0
theorem te10215303847867099477:tw10215303847867099477=0:=rfl
def tw18013378508011095235:Nat:=0
theorem te18013378508011095235:tw18013378508011095235=0:=rfl
def tw12083871008691759814:Nat:=0
theorem te12083871008691759814:tw12083871008691759814=0:=rfl
def tw8784064065541442196:Nat:=0
theorem te8784064065541442196:tw8784064065541442196=0:=rfl
def tw11666303241941417695:Nat:=0
theorem te11666303241941417695:tw11666303241941417695=0:=rfl
def tw9114961165689716361:Nat:=0
theorem te9114961165689716361:tw9114961165689716361=0:=rfl
def tw1794968262918400387:Nat:=0
theorem te1794968262918400387:tw1794968262918400387=0:=rfl
def tw12482574562766689126:Nat:=0
theorem te12482574562766689126:tw12482574562766689126=0:=rfl
def tw10957574500521176702:Nat:=0
theorem te10957574500521176702:tw10957574500521176702=0:=rfl
def tw3786241773768283753:Nat:=0
theorem te3786241773768283753:tw3786241773768283753=0:=rfl
def tw11838544824559775379:Nat:=0
theorem te11838544824559775379:tw11838544824559775379=0:=rfl
def tw15523203922523253337:Nat:=0
theorem te15523203922523253337:tw15523203922523253337=0:=rfl
def tw5891575260156344259:Nat:=0
theorem te5891575260156344259:tw5891575260156344259=0:=rfl
def tw7574820641937561799:Nat:=0
theorem te7574820641937561799:tw7574820641937561799=0:=rfl
def tw3745914495106167204:Nat:=0
theorem te3745914495106167204:tw3745914495106167204=0:=rfl
def tw1902588973161675533:Nat:=0
theorem te1902588973161675533:tw1902588973161675533=0:=rfl
def tw16205694232498736238:Nat:=0
theorem te16205694232498736238:tw16205694232498736238=0:=rfl
def tw10709543702191451204:Nat:=0
theorem te10709543702191451204:tw10709543702191451204=0:=rfl
def tw9724430607084503448:Nat:=0
theorem te9724430607084503448:tw9724430607084503448=0:=rfl
def tw4317983511545837363:Nat:=0
theorem te4317983511545837363:tw4317983511545837363=0:=rfl
def tw12133822012158627790:Nat:=0
theorem te12133822012158627790:tw12133822012158627790=0:=rfl
def tw3790400058931152059:Nat:=0
theorem te3790400058931152059:tw3790400058931152059=0:=rfl
def tw9125631236907765234:Nat:=0
theorem te9125631236907765234:tw9125631236907765234=0:=rfl
def tw8810531078096608367:Nat:=0
theorem te8810531078096608367:tw8810531078096608367=0:=rfl
def tw2838813747749364389:Nat:=0
theorem te2838813747749364389:tw2838813747749364389=0:=rfl
def tw7122216600649536699:Nat:=0
theorem te7122216600649536699:tw7122216600649536699=0:=rfl
def tw8473970952068516901:Nat:=0
theorem te8473970952068516901:tw8473970952068516901=0:=rfl
def tw6806005589510770017:Nat:=0
theorem te6806005589510770017:tw6806005589510770017=0:=rfl
def tw4015252304968205786:Nat:=0
theorem te4015252304968205786:tw4015252304968205786=0:=rfl
def tw440850586464527459:Nat:=0
theorem te440850586464527459:tw440850586464527459=0:=rfl
def tw6290849855668008432:Nat:=0
theorem te6290849855668008432:tw6290849855668008432=0:=rfl
def tw14800210109241510571:Nat:=0
theorem te14800210109241510571:tw14800210109241510571=0:=rfl
def tw13479057392561239052:Nat:=0
theorem te13479057392561239052:tw13479057392561239052=0:=rfl
def tw5121537654224774896:Nat:=0
theorem te5121537654224774896:tw5121537654224774896=0:=rfl
def tw5712519897279647965:Nat:=0
theorem te5712519897279647965:tw5712519897279647965=0:=rfl
def tw3440003860758143897:Nat:=0
theorem te3440003860758143897:tw3440003860758143897=0:=rfl
def tw10611773147966740482:Nat:=0
theorem te10611773147966740482:tw10611773147966740482=0:=rfl
def tw738890205999131360:Nat:=0
theorem te738890205999131360:tw738890205999131360=0:=rfl
def tw7347630112535817530:Nat:=0
theorem te7347630112535817530:tw7347630112535817530=0:=rfl
def tw11600383336599249673:Nat:=0
theorem te11600383336599249673:tw11600383336599249673=0:=rfl
def tw14213795029726729182:Nat:=0
theorem te14213795029726729182:tw14213795029726729182=0:=rfl
def tw6612165909926493715:Nat:=0
theorem te6612165909926493715:tw6612165909926493715=0:=rfl
def tw15809361890749246871:Nat:=0
theorem te15809361890749246871:tw15809361890749246871=0:=rfl
def tw9802648854159195594:Nat:=0
theorem te9802648854159195594:tw9802648854159195594=0:=rfl
def tw4373123255347850672:Nat:=0
theorem te4373123255347850672:tw4373123255347850672=0:=rfl
def tw4121636542412701361:Nat:=0
theorem te4121636542412701361:tw4121636542412701361=0:=rfl
def tw497555898832792181:Nat:=0
theorem te497555898832792181:tw497555898832792181=0:=rfl
def tw12195083633939965301:Nat:=0
theorem te12195083633939965301:tw12195083633939965301=0:=rfl
def tw8317701310473572552:Nat:=0
theorem te8317701310473572552:tw8317701310473572552=0:=rfl
def tw7983734008730245774:Nat:=0
theorem te7983734008730245774:tw7983734008730245774=0:=rfl
def tw13670095859284656950:Nat:=0
theorem te13670095859284656950:tw13670095859284656950=0:=rfl
def tw6141369604118279676:Nat:=0
theorem te6141369604118279676:tw6141369604118279676=0:=rfl
def tw5389950199585637048:Nat:=0
theorem te5389950199585637048:tw5389950199585637048=0:=rfl
def tw9130176868321147235:Nat:=0
theorem te9130176868321147235:tw9130176868321147235=0:=rfl
def tw5801172760026483930:Nat:=0
theorem te5801172760026483930:tw5801172760026483930=0:=rfl
def tw9880861955806387990:Nat:=0
theorem te9880861955806387990:tw9880861955806387990=0:=rfl
def tw4241593071571444304:Nat:=0
theorem te4241593071571444304:tw4241593071571444304=0:=rfl
def tw12683965843667466839:Nat:=0
theorem te12683965843667466839:tw12683965843667466839=0:=rfl
def tw12376755253987355049:Nat:=0
theorem te12376755253987355049:tw12376755253987355049=0:=rfl
def tw3881133380460958180:Nat:=0
theorem te3881133380460958180:tw3881133380460958180=0:=rfl
def tw644083352086032206:Nat:=0
theorem te644083352086032206:tw644083352086032206=0:=rfl
def tw10568559560062885114:Nat:=0
theorem te10568559560062885114:tw10568559560062885114=0:=rfl
def tw4279065543358024935:Nat:=0
theorem te4279065543358024935:tw4279065543358024935=0:=rfl
def tw11688684971525332644:Nat:=0
theorem te11688684971525332644:tw11688684971525332644=0:=rfl
def tw3407811834150929752:Nat:=0
theorem te3407811834150929752:tw3407811834150929752=0:=rfl
def tw2953230753190519468:Nat:=0
theorem te2953230753190519468:tw2953230753190519468=0:=rfl
def tw14075750576236801539:Nat:=0
theorem te14075750576236801539:tw14075750576236801539=0:=rfl
def tw2055911732741443237:Nat:=0
theorem te2055911732741443237:tw2055911732741443237=0:=rfl
def tw10922561951667349142:Nat:=0
theorem te10922561951667349142:tw10922561951667349142=0:=rfl
def tw15623036482894701606:Nat:=0
theorem te15623036482894701606:tw15623036482894701606=0:=rfl
def tw12843235438853987393:Nat:=0
theorem te12843235438853987393:tw12843235438853987393=0:=rfl
def tw8336666224982332434:Nat:=0
theorem te8336666224982332434:tw8336666224982332434=0:=rfl
def tw16707755166923124309:Nat:=0
theorem te16707755166923124309:tw16707755166923124309=0:=rfl
def tw18195125673897470463:Nat:=0
theorem te18195125673897470463:tw18195125673897470463=0:=rfl
def tw7161051405585824587:Nat:=0
theorem te7161051405585824587:tw7161051405585824587=0:=rfl
def tw1655064663498047918:Nat:=0
theorem te1655064663498047918:tw1655064663498047918=0:=rfl
def tw15662734764199489949:Nat:=0
theorem te15662734764199489949:tw15662734764199489949=0:=rfl
def tw15338408839419622950:Nat:=0
theorem te15338408839419622950:tw15338408839419622950=0:=rfl
def tw9484766204973439400:Nat:=0
theorem te9484766204973439400:tw9484766204973439400=0:=rfl
def tw17783327564706059539:Nat:=0
theorem te17783327564706059539:tw17783327564706059539=0:=rfl
def tw2191852653615952104:Nat:=0
theorem te2191852653615952104:tw2191852653615952104=0:=rfl
def tw13883321854799495001:Nat:=0
theorem te13883321854799495001:tw13883321854799495001=0:=rfl
def tw16584827150962942244:Nat:=0
theorem te16584827150962942244:tw16584827150962942244=0:=rfl
def tw92652043866919591:Nat:=0
theorem te92652043866919591:tw92652043866919591=0:=rfl
def tw14901558021333583269:Nat:=0
theorem te14901558021333583269:tw14901558021333583269=0:=rfl
def tw2007272304414201441:Nat:=0
theorem te2007272304414201441:tw2007272304414201441=0:=rfl
def tw2596915577528186829:Nat:=0
theorem te2596915577528186829:tw2596915577528186829=0:=rfl
def tw10684767281351156363:Nat:=0
theorem te10684767281351156363:tw10684767281351156363=0:=rfl
def tw15423800677835284366:Nat:=0
theorem te15423800677835284366:tw15423800677835284366=0:=rfl
def tw14282183960441896257:Nat:=0
theorem te14282183960441896257:tw14282183960441896257=0:=rfl
def tw5437132218494767208:Nat:=0
theorem te5437132218494767208:tw5437132218494767208=0:=rfl
def tw5517183154587633641:Nat:=0
theorem te5517183154587633641:tw5517183154587633641=0:=rfl
def tw10423411997823965827:Nat:=0
theorem te10423411997823965827:tw10423411997823965827=0:=rfl
def tw5880645071751109706:Nat:=0
theorem te5880645071751109706:tw5880645071751109706=0:=rfl
def tw15782379028297593674:Nat:=0
theorem te15782379028297593674:tw15782379028297593674=0:=rfl
def tw18063053320415188840:Nat:=0
theorem te18063053320415188840:tw18063053320415188840=0:=rfl
def tw13691511457103395325:Nat:=0
theorem te13691511457103395325:tw13691511457103395325=0:=rfl
def tw4920134281272302025:Nat:=0
theorem te4920134281272302025:tw4920134281272302025=0:=rfl
def tw3633460991151826130:Nat:=0
theorem te3633460991151826130:tw3633460991151826130=0:=rfl
def tw4089638491941673440:Nat:=0
theorem te4089638491941673440:tw4089638491941673440=0:=rfl
def tw10508841324538195646:Nat:=0
theorem te10508841324538195646:tw10508841324538195646=0:=rfl
def tw9285727658866376461:Nat:=0
theorem te9285727658866376461:tw9285727658866376461=0:=rfl
def tw17411475394309061941:Nat:=0
theorem te17411475394309061941:tw17411475394309061941=0:=rfl
def tw9088417400820078736:Nat:=0
theorem te9088417400820078736:tw9088417400820078736=0:=rfl
def tw13127450849197621710:Nat:=0
theorem te13127450849197621710:tw13127450849197621710=0:=rfl
def tw9319039873469880640:Nat:=0
theorem te9319039873469880640:tw9319039873469880640=0:=rfl
def tw17616282828512387719:Nat:=0
theorem te17616282828512387719:tw17616282828512387719=0:=rfl
def tw6277876110805881170:Nat:=0
theorem te6277876110805881170:tw6277876110805881170=0:=rfl
def tw15727911011580245246:Nat:=0
theorem te15727911011580245246:tw15727911011580245246=0:=rfl
def tw2219904999271814481:Nat:=0
theorem te2219904999271814481:tw2219904999271814481=0:=rfl
def tw5901188905144296085:Nat:=0
theorem te5901188905144296085:tw5901188905144296085=0:=rfl
def tw3244395655168931172:Nat:=0
theorem te3244395655168931172:tw3244395655168931172=0:=rfl
def tw4282502084157316808:Nat:=0
theorem te4282502084157316808:tw4282502084157316808=0:=rfl
def tw13145438824032298720:Nat:=0
theorem te13145438824032298720:tw13145438824032298720=0:=rfl
def tw10843435341898540397:Nat:=0
theorem te10843435341898540397:tw10843435341898540397=0:=rfl
def tw17536251320638245387:Nat:=0
theorem te17536251320638245387:tw17536251320638245387=0:=rfl
def tw14622840144544528552:Nat:=0
theorem te14622840144544528552:tw14622840144544528552=0:=rfl
def tw16442376848233554680:Nat:=0
theorem te16442376848233554680:tw16442376848233554680=0:=rfl
def tw17918762599495770178:Nat:=0
theorem te17918762599495770178:tw17918762599495770178=0:=rfl
def tw8459867092216863347:Nat:=0
theorem te8459867092216863347:tw8459867092216863347=0:=rfl
def tw3877075534733423172:Nat:=0
theorem te3877075534733423172:tw3877075534733423172=0:=rfl
def tw4149275700305425618:Nat:=0
theorem te4149275700305425618:tw4149275700305425618=0:=rfl
def tw12625806982906089576:Nat:=0
theorem te12625806982906089576:tw12625806982906089576=0:=rfl
def tw2870695583892217698:Nat:=0
theorem te2870695583892217698:tw2870695583892217698=0:=rfl
def tw13103235976399580134:Nat:=0
theorem te13103235976399580134:tw13103235976399580134=0:=rfl
def tw15795431947949424633:Nat:=0
theorem te15795431947949424633:tw15795431947949424633=0:=rfl
def tw9609886350723287485:Nat:=0
theorem te9609886350723287485:tw9609886350723287485=0:=rfl
def tw17071929168139647343:Nat:=0
theorem te17071929168139647343:tw17071929168139647343=0:=rfl
def tw11316229380359173796:Nat:=0
theorem te11316229380359173796:tw11316229380359173796=0:=rfl
def tw7635143936673420449:Nat:=0
theorem te7635143936673420449:tw7635143936673420449=0:=rfl
def tw18102025511048711941:Nat:=0
theorem te18102025511048711941:tw18102025511048711941=0:=rfl
def tw3097630166957957772:Nat:=0
theorem te3097630166957957772:tw3097630166957957772=0:=rfl
def tw12729980421477038992:Nat:=0
theorem te12729980421477038992:tw12729980421477038992=0:=rfl
def tw17482722485406685391:Nat:=0
theorem te17482722485406685391:tw17482722485406685391=0:=rfl
def tw12848856373294304708:Nat:=0
theorem te12848856373294304708:tw12848856373294304708=0:=rfl
def tw17092192819658989188:Nat:=0
theorem te17092192819658989188:tw17092192819658989188=0:=rfl
def tw11672175026934098135:Nat:=0
theorem te11672175026934098135:tw11672175026934098135=0:=rfl
def tw387514388723306373:Nat:=0
theorem te387514388723306373:tw387514388723306373=0:=rfl
def tw14045984017118289445:Nat:=0
theorem te14045984017118289445:tw14045984017118289445=0:=rfl
def tw15615810317177174536:Nat:=0
theorem te15615810317177174536:tw15615810317177174536=0:=rfl
def tw2913172566903591495:Nat:=0
theorem te2913172566903591495:tw2913172566903591495=0:=rfl
def tw4925552291322446912:Nat:=0
theorem te4925552291322446912:tw4925552291322446912=0:=rfl
def tw17754531404967279274:Nat:=0
theorem te17754531404967279274:tw17754531404967279274=0:=rfl
def tw10805857190074393451:Nat:=0
theorem te10805857190074393451:tw10805857190074393451=0:=rfl
def tw16828694432903502378:Nat:=0
theorem te16828694432903502378:tw16828694432903502378=0:=rfl
def tw6382615974901672817:Nat:=0
theorem te6382615974901672817:tw6382615974901672817=0:=rfl
def tw17770781369032235122:Nat:=0
theorem te17770781369032235122:tw17770781369032235122=0:=rfl
def tw10892984345130824928:Nat:=0
theorem te10892984345130824928:tw10892984345130824928=0:=rfl
def tw4049506349136454133:Nat:=0
theorem te4049506349136454133:tw4049506349136454133=0:=rfl
def tw11319121548446293950:Nat:=0
theorem te11319121548446293950:tw11319121548446293950=0:=rfl
def tw261213257280514673:Nat:=0
theorem te261213257280514673:tw261213257280514673=0:=rfl
def tw17940697157016392519:Nat:=0
theorem te17940697157016392519:tw17940697157016392519=0:=rfl
def tw18342746852149464146:Nat:=0
theorem te18342746852149464146:tw18342746852149464146=0:=rfl
def tw10400637244141505828:Nat:=0
theorem te10400637244141505828:tw10400637244141505828=0:=rfl
def tw8323222461628635270:Nat:=0
theorem te8323222461628635270:tw8323222461628635270=0:=rfl
def tw16420468563962190524:Nat:=0
theorem te16420468563962190524:tw16420468563962190524=0:=rfl
def tw8096347771938422252:Nat:=0
theorem te8096347771938422252:tw8096347771938422252=0:=rfl
def tw5320788536876482133:Nat:=0
theorem te5320788536876482133:tw5320788536876482133=0:=rfl
def tw12803899337006366295:Nat:=0
theorem te12803899337006366295:tw12803899337006366295=0:=rfl
def tw584901160361288739:Nat:=0
theorem te584901160361288739:tw584901160361288739=0:=rfl
def tw4932756302697134238:Nat:=0
theorem te4932756302697134238:tw4932756302697134238=0:=rfl
def tw1186194774709000362:Nat:=0
theorem te1186194774709000362:tw1186194774709000362=0:=rfl
def tw15845749992039984336:Nat:=0
theorem te15845749992039984336:tw15845749992039984336=0:=rfl
def tw3454718084446174062:Nat:=0
theorem te3454718084446174062:tw3454718084446174062=0:=rfl
def tw5753418143485169534:Nat:=0
theorem te5753418143485169534:tw5753418143485169534=0:=rfl
def tw12451371145265719679:Nat:=0
theorem te12451371145265719679:tw12451371145265719679=0:=rfl
def tw6529032113542685983:Nat:=0
theorem te6529032113542685983:tw6529032113542685983=0:=rfl
def tw16457093555556706283:Nat:=0
theorem te16457093555556706283:tw16457093555556706283=0:=rfl
def tw12937639038304228350:Nat:=0
theorem te12937639038304228350:tw12937639038304228350=0:=rfl
def tw16058349230588936265:Nat:=0
theorem te16058349230588936265:tw16058349230588936265=0:=rfl
def tw11486073361302182434:Nat:=0
theorem te11486073361302182434:tw11486073361302182434=0:=rfl
def tw10543963322060851846:Nat:=0
theorem te10543963322060851846:tw10543963322060851846=0:=rfl
def tw9255110355988974052:Nat:=0
theorem te9255110355988974052:tw9255110355988974052=0:=rfl
def tw12795077049536575720:Nat:=0
theorem te12795077049536575720:tw12795077049536575720=0:=rfl
def tw10007194427904084777:Nat:=0
theorem te10007194427904084777:tw10007194427904084777=0:=rfl
def tw9094168392416732179:Nat:=0
theorem te9094168392416732179:tw9094168392416732179=0:=rfl
def tw16129451015629460444:Nat:=0
theorem te16129451015629460444:tw16129451015629460444=0:=rfl
def tw15639229130951370616:Nat:=0
theorem te15639229130951370616:tw15639229130951370616=0:=rfl
def tw15537786607032618862:Nat:=0
theorem te15537786607032618862:tw15537786607032618862=0:=rfl
def tw763705551821785353:Nat:=0
theorem te763705551821785353:tw763705551821785353=0:=rfl
def tw6790717935804067733:Nat:=0
theorem te6790717935804067733:tw6790717935804067733=0:=rfl
def tw7886952857711524141:Nat:=0
theorem te7886952857711524141:tw7886952857711524141=0:=rfl
def tw4672301774805786707:Nat:=0
theorem te4672301774805786707:tw4672301774805786707=0:=rfl
def tw18275818867183339307:Nat:=0
theorem te18275818867183339307:tw18275818867183339307=0:=rfl
def tw17060150016418126198:Nat:=0
theorem te17060150016418126198:tw17060150016418126198=0:=rfl
def tw16498008258809507295:Nat:=0
theorem te16498008258809507295:tw16498008258809507295=0:=rfl
def tw6321045625946885518:Nat:=0
theorem te6321045625946885518:tw6321045625946885518=0:=rfl
def tw7080899361722148463:Nat:=0
theorem te7080899361722148463:tw7080899361722148463=0:=rfl
def tw5013556775626735124:Nat:=0
theorem te5013556775626735124:tw5013556775626735124=0:=rfl
def tw2769922787874400603:Nat:=0
theorem te2769922787874400603:tw2769922787874400603=0:=rfl
def tw14756694766119995986:Nat:=0
theorem te14756694766119995986:tw14756694766119995986=0:=rfl
def tw15255024537925002717:Nat:=0
theorem te15255024537925002717:tw15255024537925002717=0:=rfl
def tw728274679049755263:Nat:=0
theorem te728274679049755263:tw728274679049755263=0:=rfl
def tw8497147502461226527:Nat:=0
theorem te8497147502461226527:tw8497147502461226527=0:=rfl
def tw16411084172720968836:Nat:=0
theorem te16411084172720968836:tw16411084172720968836=0:=rfl
def tw10217041640252907910:Nat:=0
theorem te10217041640252907910:tw10217041640252907910=0:=rfl
def tw7967234238069924069:Nat:=0
theorem te7967234238069924069:tw7967234238069924069=0:=rfl
def tw17519818361668965590:Nat:=0
theorem te17519818361668965590:tw17519818361668965590=0:=rfl
def tw6348959474201317733:Nat:=0
theorem te6348959474201317733:tw6348959474201317733=0:=rfl
def tw12695505204862322693:Nat:=0
theorem te12695505204862322693:tw12695505204862322693=0:=rfl
def tw10291348687233817138:Nat:=0
theorem te10291348687233817138:tw10291348687233817138=0:=rfl
def tw18260759153270446948:Nat:=0
theorem te18260759153270446948:tw18260759153270446948=0:=rfl
def tw2662495275707045633:Nat:=0
theorem te2662495275707045633:tw2662495275707045633=0:=rfl
def tw4907796035908747848:Nat:=0
theorem te4907796035908747848:tw4907796035908747848=0:=rfl
def tw374080700637367025:Nat:=0
theorem te374080700637367025:tw374080700637367025=0:=rfl
def tw13504070190092269447:Nat:=0
theorem te13504070190092269447:tw13504070190092269447=0:=rfl
def tw8206621029496746465:Nat:=0
theorem te8206621029496746465:tw8206621029496746465=0:=rfl
def tw17806910134469588137:Nat:=0
theorem te17806910134469588137:tw17806910134469588137=0:=rfl
def tw11997179263978092957:Nat:=0
theorem te11997179263978092957:tw11997179263978092957=0:=rfl
def tw7350146646458147715:Nat:=0
theorem te7350146646458147715:tw7350146646458147715=0:=rfl
def tw14148969154993866035:Nat:=0
theorem te14148969154993866035:tw14148969154993866035=0:=rfl
def tw8963739730683422531:Nat:=0
theorem te8963739730683422531:tw8963739730683422531=0:=rfl
def tw321763259871008915:Nat:=0
theorem te321763259871008915:tw321763259871008915=0:=rfl
def tw16731500608519572096:Nat:=0
theorem te16731500608519572096:tw16731500608519572096=0:=rfl
def tw506036987311013374:Nat:=0
theorem te506036987311013374:tw506036987311013374=0:=rfl
def tw14837114816317714621:Nat:=0
theorem te14837114816317714621:tw14837114816317714621=0:=rfl
def tw552987757284112611:Nat:=0
theorem te552987757284112611:tw552987757284112611=0:=rfl
def tw4162182656149125328:Nat:=0
theorem te4162182656149125328:tw4162182656149125328=0:=rfl
def tw4768721943580224912:Nat:=0
theorem te4768721943580224912:tw4768721943580224912=0:=rfl
def tw15589781412951178785:Nat:=0
theorem te15589781412951178785:tw15589781412951178785=0:=rfl
def tw2521502746754996056:Nat:=0
theorem te2521502746754996056:tw2521502746754996056=0:=rfl
def tw7536231848571826913:Nat:=0
theorem te7536231848571826913:tw7536231848571826913=0:=rfl
def tw4499498044328724018:Nat:=0
theorem te4499498044328724018:tw4499498044328724018=0:=rfl
def tw13377320038171737671:Nat:=0
theorem te13377320038171737671:tw13377320038171737671=0:=rfl
def tw278874538988025814:Nat:=0
theorem te278874538988025814:tw278874538988025814=0:=rfl
def tw16951166305601066075:Nat:=0
theorem te16951166305601066075:tw16951166305601066075=0:=rfl
def tw16074369943671103380:Nat:=0
theorem te16074369943671103380:tw16074369943671103380=0:=rfl
def tw4824918958534427522:Nat:=0
theorem te4824918958534427522:tw4824918958534427522=0:=rfl
def tw12777729666871581112:Nat:=0
theorem te12777729666871581112:tw12777729666871581112=0:=rfl
def tw2675801622706693286:Nat:=0
theorem te2675801622706693286:tw2675801622706693286=0:=rfl
def tw13551128408801621999:Nat:=0
theorem te13551128408801621999:tw13551128408801621999=0:=rfl
end PySem.W.Fast
set_option maxRecDepth 100000 in
set_option maxHeartbeats 0 in
theorem PySem.Challenge.cw_holdplaces_k56_whole_lines_and_webs_alik_holds : PySem.Challenge.rw_holdplaces_k56_whole_lines_and_webs_alik.Holds := by
 w_on;o_law;k_head;(case hw=>w_witness2)
 k_fill
 refine K56.walk (l:=PySem.Challenge.rw_holdplaces_k56_whole_lines_and_webs_alik) rfl rfl rfl (fun w h Y=>PySem.W.kIn_of Y) ?F
 case F=>
  intro w mg h KX N
  refine' K56.all_mk (WB.qd ?_ ?_ ?_ ?_) (WB.qd ?_ ?_ ?_ ?_) (WB.qd ?_ ?_ ?_ ?_) (WB.qd ?_ ?_ ?_ ?_) (WB.qd ?_ ?_ ?_ ?_) (WB.qd ?_ ?_ ?_ ?_) (WB.qd ?_ ?_ ?_ ?_) (WB.qd ?_ ?_ ?_ ?_) (WB.qd ?_ ?_ ?_ ?_) (WB.qd ?_ ?_ ?_ ?_) (WB.qd ?_ ?_ ?_ ?_) (WB.qd ?_ ?_ ?_ ?_) (WB.qd ?_ ?_ ?_ ?_) (WB.qd ?_ ?_ ?_ ?_) (WB.qd ?_ ?_ ?_ ?_) (WB.qd ?_ ?_ ?_ ?_) (WB.qd ?_ ?_ ?_ ?_) (WB.qd ?_ ?_ ?_ ?_) (WB.qd ?_ ?_ ?_ ?_) (WB.qd ?_ ?_ ?_ ?_) (WB.qd ?_ ?_ ?_ ?_) (WB.qd ?_ ?_ ?_ ?_) (WB.qd ?_ ?_ ?_ ?_) (WB.qd ?_ ?_ ?_ ?_) (WB.qd ?_ ?_ ?_ ?_) (WB.qd ?_ ?_ ?_ ?_) (WB.qd ?_ ?_ ?_ ?_) (WB.qd ?_ ?_ ?_ ?_) (WB.qd ?_ ?_ ?_ ?_) (WB.qd ?_ ?_ ?_ ?_) (WB.qd ?_ ?_ ?_ ?_) (WB.qd ?_ ?_ ?_ ?_) (WB.qd ?_ ?_ ?_ ?_) (WB.qd ?_ ?_ ?_ ?_) (WB.qd ?_ ?_ ?_ ?_) (WB.qd ?_ ?_ ?_ ?_) (WB.qd ?_ ?_ ?_ ?_) (WB.qd ?_ ?_ ?_ ?_) (WB.qd ?_ ?_ ?_ ?_) (WB.qd ?_ ?_ ?_ ?_) (WB.qd ?_ ?_ ?_ ?_) (WB.qd ?_ ?_ ?_ ?_) (WB.qd ?_ ?_ ?_ ?_) (WB.qd ?_ ?_ ?_ ?_) (WB.qd ?_ ?_ ?_ ?_) (WB.qd ?_ ?_ ?_ ?_) (WB.qd ?_ ?_ ?_ ?_) (WB.qd ?_ ?_ ?_ ?_) (WB.qd ?_ ?_ ?_ ?_) (WB.qd ?_ ?_ ?_ ?_) (WB.qd ?_ ?_ ?_ ?_) (WB.qd ?_ ?_ ?_ ?_) (WB.qd ?_ ?_ ?_ ?_) (WB.qd ?_ ?_ ?_ ?_) (WB.qd ?_ ?_ ?_ ?_) (WB.qd ?_ ?_ ?_ ?_) (WB.qd ?_ ?_ ?_ ?_) (WB.qd ?_ ?_ ?_ ?_) (WB.qd ?_ ?_ ?_ ?_) (WB.qd ?_ ?_ ?_ ?_) (WB.qd ?_ ?_ ?_ ?_) (WB.qd ?_ ?_ ?_ ?_) (WB.qd ?_ ?_ ?_ ?_) (WB.qd ?_ ?_ ?_ ?_) (WB.qd ?_ ?_ ?_ ?_) (WB.qd ?_ ?_ ?_ ?_) KX N ?_ ?_ ?_ ?_ ?_ ?_ ?_ ?_ ?_ ?_ ?_ ?_ ?_ ?_ ?_ ?_ ?_ ?_ ?_ ?_ ?_
  any_goals k_is
  any_goals k_exc
#print axioms PySem.Challenge.cw_holdplaces_k56_whole_lines_and_webs_alik_holds
