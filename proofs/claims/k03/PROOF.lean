import PyProof.Rows.All
import Wide.All
import OpenK.AllK
import Wide.FinOn
import Lean
import PyProof.EqAt
import PyProof.EqKinds
import PyProof.TupleCall
import PySem.Challenge.RW_slowshift_k03_whole_points_are_parted
set_option Elab.async false
set_option linter.all false
set_option maxRecDepth 100000
set_option genSizeOf false
set_option genSizeOfSpec false
set_option genInjectivity false
set_option maxHeartbeats 4000000
namespace L2
open PySem PySem.Spec PyProof.Rows
noncomputable abbrev Key:=Sum Int Str
noncomputable def keyIs:Key->Value->Bool
 | .inl k,v=>Value.isInt k v
 | .inr x,v=>Value.isStrOf x v
noncomputable def keyH(w:World):Key->Int
 | .inl k=>hashInt k
 | .inr x=>hashStr w x
theorem keyIs_shape:∀{k:Key}{v:Value},keyIs k v=true->(∃ i t,k=Sum.inl i/\v=Value.int i t)∨(∃ x t,k=Sum.inr x/\v=Value.str x t)
 | .inl i,v,h=>by
   obtain⟨t,e⟩:=Value.isInt_shape (k:=i) (v:=v) h;exact .inl ⟨i,t,rfl,e⟩
 | .inr x,v,h=>by
   obtain⟨t,e⟩:=Value.isStrOf_shape (x:=x) (v:=v) h;exact .inr ⟨x,t,rfl,e⟩
theorem key_ll(a b:Int):decide ((Sum.inl a:Key)=Sum.inl b)=(a == b):=by
 by_cases e:a=b
 · subst e;simp
 have h:¬ (Sum.inl a:Key)=Sum.inl b:=fun q=>e (Sum.inl.inj q);rw[decide_eq_false h];exact(beq_eq_false_iff_ne.mpr e).symm
theorem key_rr(a b:Str):decide ((Sum.inr a:Key)=Sum.inr b)=decide (a=b):=by
 by_cases e:a=b
 · subst e;simp
 have h:¬ (Sum.inr a:Key)=Sum.inr b:=fun q=>e (Sum.inr.inj q);rw[decide_eq_false h,decide_eq_false e]
theorem key_lr(a:Int)(b:Str):decide ((Sum.inl a:Key)=Sum.inr b)=false:=decide_eq_false (fun q=>nomatch q)
theorem key_rl(a:Str)(b:Int):decide ((Sum.inr a:Key)=Sum.inl b)=false:=decide_eq_false (fun q=>nomatch q)
noncomputable def mixKind(prog:Program)(w:World):PySem.KeyKind prog w Key where
 is:=keyIs
 hash:=keyH w
 inj:=fun v a b ha hb=>by
  rcases keyIs_shape ha with ⟨i,t,rfl,rfl⟩ | ⟨x,t,rfl,rfl⟩
  · rcases keyIs_shape hb with ⟨j,u,rfl,e⟩ | ⟨y,u,rfl,e⟩
    · injection e with e1 _;rw[e1]
    exact nomatch e
  rcases keyIs_shape hb with ⟨j,u,rfl,e⟩ | ⟨y,u,rfl,e⟩
  · exact nomatch e
  injection e with e1 _;rw[e1]
 byValue:=fun k v h=>by
  rcases keyIs_shape h with ⟨i,t,rfl,rfl⟩ | ⟨x,t,rfl,rfl⟩ <;> rfl
 pyHash:=fun hv h=>by
  rcases keyIs_shape hv with ⟨i,t,rfl,rfl⟩ | ⟨x,t,rfl,rfl⟩
  · exact wpAny_pyHash_int h
  exact wpAny_pyHash_str h
 eqBool:=fun hu hv h=>by
  rcases keyIs_shape hu with ⟨i,t,rfl,rfl⟩ | ⟨x,t,rfl,rfl⟩
  · rcases keyIs_shape hv with ⟨j,u,rfl,rfl⟩ | ⟨y,u,rfl,rfl⟩
    · rw[key_ll]at h;exact wpAny_eqBool_int h
    rw[key_lr]at h;exact SeqAt.EqAt.int_str i t y u _ _ _ _ h
  rcases keyIs_shape hv with ⟨j,u,rfl,rfl⟩ | ⟨y,u,rfl,rfl⟩
  · rw[key_rl]at h;exact SeqAt.EqAt.str_int x t j u _ _ _ _ h
  rw[key_rr]at h;exact wpAny_eqBool_str h
 «strs»:=fun k x t v h=>by
  rcases keyIs_shape h with ⟨i,u,rfl,e⟩ | ⟨y,u,rfl,e⟩
  · exact nomatch e
  injection e with e1 _;subst e1;cases v <;> rfl
end L2
namespace L2
open PySem PySem.Spec PyProof.Rows
set_option genInjectivity true in
inductive V where
 | non | bl (b:Bool) | int (i:Int) | str (x:Str) | byt (b:Array UInt8) | flt (b:UInt64) | ref (a:Addr) | ty (n:String)
 deriving DecidableEq
noncomputable def RelV:V->Value->Prop
 | .non,u=>u=Value.none
 | .bl b,u=>u=Value.bool b
 | .int i,u=>∃ t,u=Value.int i t
 | .str x,u=>∃ t,u=Value.str x t
 | .byt b,u=>∃ t,u=Value.bytes b t
 | .flt b,u=>∃ t,u=Value.float b t
 | .ref a,u=>u=Value.ref a
 | .ty n,u=>u=Value.type n
noncomputable abbrev Vals:List V->List Value->Prop:=Paired RelV
theorem Vals.length{xs:List V}{us:List Value}(r:Vals xs us):xs.length=us.length:=Paired.length r
theorem Vals.get:∀{xs:List V}{us:List Value}{i:Nat}{x:V},Vals xs us->xs[i]?=some x -> ∃ u,us[i]?=some u/\RelV x u
 | _,_,_,_,.nil,e=>by simp at e
 | _,_,0,_,.cons r _,e=>by simp at e;subst e;exact⟨_,rfl,r⟩
 | _,_,i+1,x,.cons _ t,e=>by
   obtain⟨u,h1,h2⟩:=Vals.get (i:=i) (x:=x) t (by simpa using e)
   exact⟨u,by simpa using h1,h2⟩
theorem Vals.set{x:V}{u:Value}(r:RelV x u):∀{xs:List V}{us:List Value} (i:Nat),Vals xs us->Vals (xs.set i x) (us.set i u)
 | _,_,_,.nil=>.nil
 | _,_,0,.cons _ t=>.cons r t
 | _,_,i+1,.cons q t=>.cons q (Vals.set r i t)
theorem Vals.append:∀{xs ys:List V}{us ws:List Value},Vals xs us->Vals ys ws->Vals (xs++ys) (us++ws)
 | _,_,_,_,.nil,s=>s
 | _,_,_,_,.cons r t,s=>.cons r (Vals.append t s)
theorem Vals.take:∀{xs:List V}{us:List Value} (n:Nat),Vals xs us->Vals (xs.take n) (us.take n)
 | _,_,0,_=>.nil
 | _,_,_+1,.nil=>.nil
 | _,_,n+1,.cons r t=>.cons r (Vals.take n t)
theorem Vals.drop:∀{xs:List V}{us:List Value} (n:Nat),Vals xs us->Vals (xs.drop n) (us.drop n)
 | _,_,0,r=>r
 | _,_,_+1,.nil=>.nil
 | _,_,n+1,.cons _ t=>Vals.drop n t
noncomputable def RelO:Option V->Option Value->Prop
 | some v,some u=>RelV v u
 | none,none=>True
 | _,_=>False
noncomputable def KV{κ:Type}:List (κ × V)->List (κ × Value)->Prop:=Paired fun(p:κ × V) (q:κ × Value)=>p.1=q.1/\RelV p.2 q.2
noncomputable def kV:Key->V
 | .inl i=>.int i
 | .inr x=>.str x
inductive HO where
 | lst (xs:List V)
 | tup (xs:List V)
 | dK (kvs:List (Key×V)) | dT (kvs:List (List Key×V))
 | set (S:Int->Bool) (n:Nat)
 | ins (C dx:Addr) (fs:List (Str×V))
 | own (x:Addr)
 | xd (fs:List (Str×V))
 | met (f x:Addr)
 | rng (lo hi:Int)
 | frz (o:Obj) (u:HO)
 | tbl (ps:Array Value)
 | ext (φ:Heap->Prop)
noncomputable abbrev Hp:=Addr->Option HO
noncomputable def upd(H:Hp)(a:Addr)(o:HO):Hp:=fun b=>if b=a then some o else H b
theorem upd_same{H:Hp}{a:Addr}{o:HO}:upd H a o a=some o:=by unfold upd;rw[if_pos rfl]
theorem upd_ne{H:Hp}{a b:Addr}{o:HO}(h:b≠a):upd H a o b=H b:=by unfold upd;rw[if_neg h]
theorem ne_of{H:Hp}{a b:Addr}{o u:HO}(h:H a=some o)(h':H b=some u)(d:o≠u):a≠b:=by
 intro e;subst e;rw[h]at h';exact d (Option.some.inj h')
theorem ne_of_none{H:Hp}{a b:Addr}{o:HO}(h:H a=some o)(h':H b=none):a≠b:=by
 intro e;subst e;rw[h]at h';cases h'
section
variable(P:Program)(w:World)
noncomputable def ObjOk(H:Hp)(h:Heap)(a:Addr):HO->Prop
 | .lst xs=>xs.length<=sizeLine /\ ∃(its:List Value) (n:Nat),Vals xs its/\h.get? a=some { cls:=.type "list",data:=.seq its.toArray n }
 | .tup xs=>xs.length<=sizeLine /\ ∃ its:List Value,Vals xs its/\IsTup h a its.toArray
 | .dK kvs=>kvs.length<=sizeLine/\(a == sysModules)=false /\ ∃ vs,KV kvs vs/\h.DictOf (mixKind P w) a vs
 | .dT kvs=>kvs.length<=sizeLine/\(a == sysModules)=false /\ ∃ xs:List (List Key×Addr×Value),
  Paired (fun(p:List Key×V) (q:List Key×Addr×Value)=>p.1=q.1/\H q.2.1=some (.tup (p.1.map kV))/\RelV p.2 q.2.2) kvs xs /\
  ∃ o es ep,h.get? a=some o/\o.ExactDict/\o.data=.dict es ep/\es.toList=xs.map (entryOfKey (tupleKind (mixKind P w)))/\(xs.map (·.1)).Nodup
 | .set S n=>h.SetOf (intKind P w) a S n
 | .ins C dx fs=>H dx=some (.own a)/\fs.length<=1000/\dx≠a/\h.get? a=some (W.instObj C dx) /\
  ∃ mA,h.Ns1 dx mA/\(∀ f,RelO (fs.lookup f) (mA f))/\PySem.Within mA (fs.map (·.1))
 | .own _=>∃ o,h.get? a=some o
 | .xd fs=>∃ mA,h.Ns1 a mA /\ ∀ f,RelO (fs.lookup f) (mA f)
 | .rng lo hi=>∃ t u v,h.get? a=some { cls:=.type "range",data:=.fields #[.int lo t,.int hi u,.int 1 v] }
 | .frz o u=>h.get? a=some o/\ObjOk H h a u
 | .tbl ps=>h.get? a=some { cls:=.none,data:=.fields ps }
 | .met f x=>h.get? a=some (W.methodObj (.ref f) (.ref x))
 | .ext φ=>φ h/\(∃ o,h.get? a=some o) /\ ∀ h1 h2:Heap,φ h1->(∀ o,h1.get? a=some o->h2.get? a=some o) -> φ h2
noncomputable def HOk(H:Hp)(h:Heap):Prop:=∀ a o,H a=some o->ObjOk P w H h a o
end
section
variable{P:Program}{w:World}{H H':Hp}{h h':Heap}{a:Addr}{o:HO}
theorem ObjOk.lt(x:ObjOk P w H h a o):a < h.objs.size:=by
 cases o with
 | lst xs=>obtain⟨_,_,_,_,e⟩:=x;exact Heap.lt_size e
 | tup xs=>obtain⟨_,_,_,p⟩:=x;exact p.lt
 | dK kvs=>obtain⟨_,_,_,_,o,_,_,e,_⟩:=x;exact Heap.lt_size e
 | dT kvs=>obtain⟨_,_,_,_,o,_,_,e,_⟩:=x;exact Heap.lt_size e
 | set S n=>obtain⟨o,_,_,_,e,_⟩:=x;exact Heap.lt_size e
 | ins C dx fs=>obtain⟨_,_,_,e,_⟩:=x;exact Heap.lt_size e
 | own y=>obtain⟨_,e⟩:=x;exact Heap.lt_size e
 | xd fs=>obtain⟨_,⟨_,_,_,e,_⟩,_⟩:=x;exact Heap.lt_size e
 | rng lo hi=>obtain⟨_,_,_,e⟩:=x;exact Heap.lt_size e
 | frz ob u=>obtain⟨e,_⟩:=x;exact Heap.lt_size e
 | tbl ps=>exact Heap.lt_size (show h.get? a=some _ from x)
 | met f y=>exact Heap.lt_size (show h.get? a=some _ from x)
 | ext φ=>obtain⟨_,⟨_,e⟩,_⟩:=x;exact Heap.lt_size e
theorem Paired.mapP{α β:Type}{F G:α -> β -> Prop}:∀{l₁:List α}{l₂:List β},Paired F l₁ l₂ -> (∀ a b,F a b->G a b)->Paired G l₁ l₂
 | _,_,.nil,_=>.nil
 | _,_,.cons r t,f=>.cons (f _ _ r) (Paired.mapP t f)
theorem ObjOk.stay(x:ObjOk P w H h a o)(k:∀ b u,(b=a∨H b=some (.own a))->h.get? b=some u->h'.get? b=some u)
 (ho:∀ b,H b=some (.own a)->H' b=some (.own a)) (ht:∀ b xs,H b=some (.tup xs)->H' b=some (.tup xs)):ObjOk P w H' h' a o:=by
 induction o with
 | lst xs=>obtain⟨z,its,n,r,e⟩:=x;exact⟨z,its,n,r,k _ _ (.inl rfl) e⟩
 | tup xs=>obtain⟨z,its,r,ob,e,c⟩:=x;exact⟨z,its,r,ob,k _ _ (.inl rfl) e,c⟩
 | dK kvs=>obtain⟨z,y,vs,r,ob,es,ep,e,c⟩:=x;exact⟨z,y,vs,r,ob,es,ep,k _ _ (.inl rfl) e,c⟩
 | dT kvs=>
   obtain⟨z,y,xs,r,ob,es,ep,e,c⟩:=x;exact⟨z,y,xs,Paired.mapP r fun p q z=>⟨z.1,ht _ _ z.2.1,z.2.2⟩,ob,es,ep,k _ _ (.inl rfl) e,c⟩
 | set S n=>obtain⟨ob,es,ep,t,e,c⟩:=x;exact⟨ob,es,ep,t,k _ _ (.inl rfl) e,c⟩
 | ins C dx fs=>
   obtain⟨d,z,ne,e,mA,⟨od,es,ep,e2,c⟩,r⟩:=x;exact⟨ho _ d,z,ne,k _ _ (.inl rfl) e,mA,⟨od,es,ep,k _ _ (.inr d) e2,c⟩,r⟩
 | own y=>obtain⟨ob,e⟩:=x;exact⟨ob,k _ _ (.inl rfl) e⟩
 | xd fs=>obtain⟨mA,⟨od,es,ep,e,c⟩,r⟩:=x;exact⟨mA,⟨od,es,ep,k _ _ (.inl rfl) e,c⟩,r⟩
 | rng lo hi=>obtain⟨t,u,v,e⟩:=x;exact⟨t,u,v,k _ _ (.inl rfl) e⟩
 | frz ob u ih=>obtain⟨e,q⟩:=x;exact⟨k _ _ (.inl rfl) e,ih q⟩
 | tbl ps=>
   have e:h.get? a=some { cls:=.none,data:=.fields ps }:=x;show h'.get? a=some { cls:=.none,data:=.fields ps };exact k a _ (.inl rfl) e
 | met f y=>
   have e:h.get? a=some (W.methodObj (.ref f) (.ref y)):=x;show h'.get? a=some (W.methodObj (.ref f) (.ref y));exact k a _ (.inl rfl) e
 | ext φ=>obtain⟨p,⟨o,e⟩,st⟩:=x;exact⟨st _ _ p fun o q=>k _ _ (.inl rfl) q,⟨o,k _ _ (.inl rfl) e⟩,st⟩
theorem HOk.lt(x:HOk P w H h)(e:H a=some o):a < h.objs.size:=(x a o e).lt
theorem HOk.fresh(x:HOk P w H h)(e:h.objs.size<=a):H a=none:=by
 cases q:H a with
 | none=>rfl
 | some u=>exact absurd (Nat.lt_of_lt_of_le (x.lt q) e) (Nat.lt_irrefl _)
theorem HOk.kept(x:HOk P w H h)(k:∀ b u,h.get? b=some u->h'.get? b=some u):HOk P w H h':=fun a o e=>
 (x a o e).stay (fun b u _ q=>k b u q) (fun _ q=>q) fun _ _ q=>q
theorem HOk.laid(x:HOk P w H h)(k:∀ b u,h.get? b=some u->h'.get? b=some u)(hp:h.objs.size<=a)(new:ObjOk P w (upd H a o) h' a o):HOk P w (upd H a o) h':=fun b u e=>by
 have hn:=x.fresh hp;by_cases hb:b=a
 · subst hb;rw[upd_same]at e;cases e;exact new
 rw[upd_ne hb]at e;exact(x b u e).stay (fun c v _ q=>k c v q) (fun c q=>by rw[upd_ne (ne_of_none q hn)];exact q) fun c xs q=>by rw[upd_ne (ne_of_none q hn)];exact q
end
noncomputable def Rd(H:Hp)(a:Addr)(u:HO):Prop:=H a=some u ∨ ∃ o,H a=some (.frz o u)
theorem Rd.ok{P:Program}{w:World}{H:Hp}{h:Heap}{a:Addr}{u:HO}(r:Rd H a u)(x:HOk P w H h):ObjOk P w H h a u:=by
 rcases r with r | ⟨o,r⟩
 · exact x a u r
 obtain⟨_,q⟩:=x a _ r;exact q
noncomputable def Mut:Option HO->Prop
 | some (.lst _)=>True
 | some (.dK _)=>True
 | some (.dT _)=>True
 | some (.set _ _)=>True
 | some (.ins _ _ _)=>True
 | some (.ext _)=>True
 | _=>False
section
variable{P:Program}{w:World}{H:Hp}{h h':Heap}{x e:Addr}{o':HO}
theorem HOk.write(ok:HOk P w H h)(mu:Mut (H x))(he:e=x∨H e=some (.own x))(k:∀ b u,b≠e->h.get? b=some u->h'.get? b=some u)(heo:∃ u,h'.get? e=some u)
 (new:ObjOk P w (upd H x o') h' x o'):HOk P w (upd H x o') h':=fun b u q=>by
 have nown:∀ c y,H c=some (.own y)->c≠x:=fun c y r z=>by subst z;rw[r]at mu;exact mu
 have ntup:∀ c xs,H c=some (.tup xs)->c≠x:=fun c xs r z=>by subst z;rw[r]at mu;exact mu
 by_cases hb:b=x
 · subst hb;rw[upd_same]at q;cases q;exact new
 rw[upd_ne hb]at q;by_cases hbe:b=e
 · have q':H b=some (.own x):=by
    rcases he with z | z
    · exact absurd (hbe.trans z) hb
    rw[hbe];exact z
   rw[q]at q';cases q';obtain⟨v,hv⟩:=heo;exact⟨v,by rw[hbe];exact hv⟩
 refine(ok b u q).stay (fun c v hc r=>k c v ?_ r) (fun c r=>by rw[upd_ne (nown c b r)];exact r) fun c xs r=>by rw[upd_ne (ntup c xs r)];exact r
 rcases hc with rfl | hc
 · exact hbe
 rintro rfl;rcases he with z | z
 · exact nown c b hc z
 rw[hc]at z;cases z;exact hb rfl
end
structure Un(fs ex:List Addr)(H H':Hp)(h h':Heap):Prop where
 keep:∀ b o,h.get? b=some o->H b=none->b∉fs->b∉ex->h'.get? b=some o
 slot:∀ b o,h.get? b=some o->H b=none->b∈fs->b∉ex -> ∃ sl,h'.get? b=some { o with slots:=sl }
 free:∀ b o,h.get? b=some o->H b=none->b∉ex->H' b=none
 there:∀ b o,h.get? b=some o->b∉ex -> ∃ o',h'.get? b=some o'
 tups:∀ b xs,H b=some (.tup xs)->H' b=some (.tup xs)
 frzs:∀ b o u,H b=some (.frz o u)->H' b=some (.frz o u)
 tbls:∀ b ps,H b=some (.tbl ps) -> ∃ more,H' b=some (.tbl (ps++more))
section
variable{fs fs' ex ex':List Addr}{H H1 H2:Hp}{h h1 h2 h':Heap}{a x e:Addr}{o:HO}
theorem Un.any(u:Un fs ex H H1 h h1){b:Addr}{ob:Obj}(q:h.get? b=some ob)(n:H b=none)(hx:b∉ex):∃ sl,h1.get? b=some { ob with slots:=sl }:=by
 by_cases hb:b∈fs
 · exact u.slot b ob q n hb hx
 exact⟨ob.slots,u.keep b ob q n hb hx⟩
theorem Un.kept(k:∀ b u,h.get? b=some u->h'.get? b=some u):Un fs ex H H h h':=
 ⟨fun b ob q _ _ _=>k b ob q,fun b ob q _ _ _=>⟨ob.slots,k b ob q⟩,fun _ _ _ n _=>n,fun b ob q _=>⟨ob,k b ob q⟩,fun _ _ q=>q,fun _ _ _ q=>q,fun _ ps q=>⟨#[],by rw[q];simp⟩⟩
theorem Un.refl:Un fs ex H H h h:=Un.kept fun _ _ q=>q
theorem Un.laid(k:∀ b u,h.get? b=some u->h'.get? b=some u)(hp:h.objs.size<=a)(hn:H a=none):Un fs ex H (upd H a o) h h' where
 keep:=fun b u q _ _ _=>k b u q
 slot:=fun b u q _ _ _=>⟨u.slots,k b u q⟩
 free:=fun b u q n _=>by rw[upd_ne (Nat.ne_of_lt (Nat.lt_of_lt_of_le (Heap.lt_size q) hp))];exact n
 there:=fun b u q _=>⟨u,k b u q⟩
 tups:=fun b xs q=>by rw[upd_ne (ne_of_none q hn)];exact q
 frzs:=fun b u xs q=>by rw[upd_ne (ne_of_none q hn)];exact q
 tbls:=fun b ps q=>⟨#[],by rw[upd_ne (ne_of_none q hn),q];simp⟩
theorem Un.write(mu:Mut (H x))(he:e=x∨H e=some (.own x))(k:∀ b u,b≠e->h.get? b=some u->h'.get? b=some u)(heo:∃ u,h'.get? e=some u):Un fs ex H (upd H x o) h h':=by
 have hx:∀ b,H b=none->b≠x:=fun b n z=>by subst z;rw[n]at mu;exact mu
 have hb:∀ b,H b=none->b≠e:=fun b n z=>by
  subst z;rcases he with r | r
  · exact hx b n r
  rw[n]at r;cases r
 have hm:∀ b u,H b=some u -> ¬ Mut (some u)->b≠x:=fun b u q nm z=>by subst z;rw[q]at mu;exact nm mu
 refine⟨fun b u q n _ _=>k b u (hb b n) q,fun b u q n _ _=>⟨u.slots,k b u (hb b n) q⟩,fun b u q n _=>by rw[upd_ne (hx b n)];exact n,fun b u q _=>?_,
  fun b xs q=>by rw[upd_ne (hm b _ q fun z=>z)];exact q,fun b u xs q=>by rw[upd_ne (hm b _ q fun z=>z)];exact q,fun b ps q=>⟨#[],by rw[upd_ne (hm b _ q fun z=>z),q];simp⟩⟩
 by_cases hbe:b=e
 · subst hbe;exact heo
 exact⟨u,k b u hbe q⟩
end
noncomputable def trk(h:Heap)(H:Hp):List Addr:=(List.range h.objs.size).filter fun a=>(H a).isSome
noncomputable def hidT(h:Heap)(H:Hp):Heap:=W.hideAll h (trk h H)
theorem hidT_size(h:Heap)(H:Hp):(hidT h H).objs.size=h.objs.size:=W.hideAll_size _ _
theorem hidT_get{h:Heap}{H:Hp}{b:Addr}{o:Obj}(e:h.get? b=some o)(n:H b=none):(hidT h H).get? b=some o:=
 W.hideAll_get _ e fun hm=>by
  have q:(H b).isSome=true:=(List.mem_filter.mp hm).2;rw[n]at q;simp at q
theorem of_hidT{h:Heap}{H:Hp}{b:Addr}{o:Obj}(e:(hidT h H).get? b=some o):h.get? b=some o/\H b=none:=by
 have e':h.get? b=some o:=W.of_hideAll (trk h H) e;refine⟨e',?_⟩;cases q:H b with
 | none=>rfl
 | some x=>
   have hm:b∈trk h H:=List.mem_filter.mpr ⟨List.mem_range.mpr (Heap.lt_size e'),by simp[q]⟩
   have z:(hidT h H).get? b=none:=W.hideAll_none (trk h H) hm;rw[z]at e;cases e
end L2
namespace L2
open PySem PySem.Spec PyProof.Rows
structure Mod(K:W.Frag)(mg:Str->Option Value)(base:Heap):Prop where
 kin:K.In base
 glob:base.Ns mainGlobals mg
 blt:∃ mb,base.Ns builtinsNs mb /\ ∀ x:Str,x ≠ "__name__" -> mb x=bootBuiltins x
 nolimit:base.NoLimit
structure Cx where
 prog:Program
 w:World
 K:W.Frag
 mg:Str->Option Value
 base:Heap
 A:Around
 N:List Str
 s₀:Shared
 H₀:Hp
 env:Env
 outer:List Env
 stack:List Env
 ex:List Addr
 fn:Str->Bool
 calm:Bool
 pn:List (Addr×Obj)
 xe:Value->Shared->Prop
noncomputable def frs(l:List Env):List Addr:=l.filterMap (·.frame)
noncomputable abbrev Cx.fs(X:Cx):List Addr:=frs X.outer
noncomputable def Vis(sc:Scope)(x:Str):Prop:=sc.names.lookup x=some .local∨sc.names.lookup x=some .cell∨sc.names.lookup x=some .free
noncomputable def Loc(sc:Scope)(x:Str):Prop:=sc.names.lookup x=some .local∨sc.names.lookup x=some .cell
noncomputable def Look(env:Env)(h:Heap)(m:Str->Option Value)(x:Str)(u:Value):Prop:=
 (env.kindOf x=some .local/\m x=some u)∨((env.kindOf x=some .cell∨env.kindOf x=some .free) /\ ∃ c,env.cells.lookup x=some c/\h.IsCell c (some u))
structure Cx.Ok(X:Cx):Prop where
 mod:Mod X.K X.mg X.base
 kind:X.env.scope.kind=.function
 glob:X.env.globals=mainGlobals
 blt:X.env.builtins=builtinsNs
 above:X.s₀.heap.objs.size<=X.env.locals
 inj:∀ x y c,X.env.cells.lookup x=some c->X.env.cells.lookup y=some c->x=y
 has:∀ x,(X.env.kindOf x=some .cell∨X.env.kindOf x=some .free) -> ∃ c,X.env.cells.lookup x=some c
 cab:∀ x c,X.fn x=true->X.env.cells.lookup x=some c->X.s₀.heap.objs.size<=c
 hd:X.calm=true->X.A.handled=none
 frames:X.A.frames=some X.stack
 stk:X.stack=X.outer∨(X.stack=X.env::X.outer/\X.env.frame=some X.env.locals)
 exf:∀ b∈X.ex,b≠X.env.locals /\ ∀ x c,X.env.cells.lookup x=some c->c≠b
 bs:∀ b o,X.base.get? b=some o->X.s₀.heap.get? b=some o/\X.H₀ b=none
 bsz:X.base.objs.size<=X.s₀.heap.objs.size
 noex:∀ b o,X.base.get? b=some o->b∉X.ex
 exfs:∀ b∈X.ex,b∉X.fs
 funs:X.s₀.heap.FunFrames X.base X.outer
 frf:∀ b∈X.fs,X.H₀ b=none
structure Inv(X:Cx)(pins:List (Addr×Obj))(σ:List (Option V))(H:Hp)(s:Shared):Prop where
 ok:X.Ok
 os:s.os=X.s₀.os
 bare:AllBare s.gens
 base:Un X.fs X.ex X.H₀ H X.s₀.heap s.heap
 loc:∃ m,s.heap.Ns X.env.locals m /\ ∀(i:Nat) (x:Str) (v:V),X.N[i]?=some x -> σ[i]?=some (some v)->Vis X.env.scope x -> ∃ u,RelV v u/\Look X.env s.heap m x u
 cell:∀ x c,X.env.cells.lookup x=some c -> ∃ v,s.heap.IsCell c v
 free:H X.env.locals=none
 freeC:∀ x c,X.env.cells.lookup x=some c->H c=none
 pin:∀ p∈X.pn++pins,s.heap.get? p.1=some p.2/\H p.1=none/\p.1≠X.env.locals/\p.1∉X.fs /\ ∀ v,p.2.data ≠ .cell v
 hok:HOk X.prog X.w H s.heap
 len:σ.length=X.N.length
section
variable{X:Cx}{pins:List (Addr×Obj)}{σ:List (Option V)}{H H':Hp}{s:Shared}{h':Heap}
theorem Cx.Ok.nofr(ok:X.Ok){b:Addr}{o:Obj}(e:X.base.get? b=some o):b∉X.fs:=fun hb=>by
 have:=(ok.funs.mem hb).1;rw[e]at this;cases this
theorem Inv.bs(I:Inv X pins σ H s):∀ b o,X.base.get? b=some o->s.heap.get? b=some o/\H b=none:=fun b o e=>
 ⟨I.base.keep b o (I.ok.bs b o e).1 (I.ok.bs b o e).2 (I.ok.nofr e) (I.ok.noex b o e),I.base.free b o (I.ok.bs b o e).1 (I.ok.bs b o e).2 (I.ok.noex b o e)⟩
theorem Inv.bk(I:Inv X pins σ H s):∀ b o,X.base.get? b=some o->s.heap.get? b=some o:=fun b o e=>(I.bs b o e).1
theorem Inv.mod(I:Inv X pins σ H s):Mod X.K X.mg X.base:=I.ok.mod
theorem Inv.kIn(I:Inv X pins σ H s):X.K.In s.heap:=I.ok.mod.kin.keeps I.bk
theorem Inv.lt(I:Inv X pins σ H s):X.env.locals < s.heap.objs.size:=let⟨_,hn,_⟩:=I.loc;hn.lt
theorem Inv.sz(I:Inv X pins σ H s):X.s₀.heap.objs.size<=s.heap.objs.size:=Nat.le_trans I.ok.above (Nat.le_of_lt I.lt)
theorem Inv.nofs(I:Inv X pins σ H s){a:Addr}(h:s.heap.objs.size<=a):a∉X.fs:=fun hb=>by
 obtain⟨_,o,ho,_⟩:=I.ok.funs.mem hb;exact absurd (Nat.lt_of_lt_of_le (Heap.lt_size ho) (Nat.le_trans I.sz h)) (Nat.lt_irrefl _)
theorem Inv.cne(I:Inv X pins σ H s):∀ x c,X.env.cells.lookup x=some c->c≠X.env.locals:=fun x c e z=>by
 obtain⟨v,o,ho,hd⟩:=I.cell x c e;obtain⟨m,⟨o',es,ep,ho',hd',_⟩,_⟩:=I.loc;rw[z,ho']at ho;cases ho;rw[hd']at hd;cases hd
theorem Inv.funs(I:Inv X pins σ H s):s.heap.FunFrames X.base X.outer:=by
 have all:∀(l:List Env),(∀ b∈frs l,b∈X.fs)->X.s₀.heap.FunFrames X.base l->s.heap.FunFrames X.base l:=by
  intro l
  induction l with
  | nil=>intro _ _;trivial
  | cons env r ih=>
    intro hs hl;obtain⟨hk,⟨L,o,hf,hn,ho,hd⟩,hr⟩:=hl;have hL:L∈X.fs:=hs L (by unfold frs;rw[List.filterMap_cons,hf];exact List.mem_cons_self)
    obtain⟨sl,e⟩:=I.base.slot L o ho (I.ok.frf L hL) hL fun z=>I.ok.exfs L z hL;exact⟨hk,⟨L,_,hf,hn,e,hd⟩,ih (fun b hb=>hs b (by unfold frs;rw[List.filterMap_cons,hf];exact List.mem_cons_of_mem _ hb)) hr⟩
 exact all X.outer (fun _ hb=>hb) I.ok.funs
theorem Inv.stack(I:Inv X pins σ H s):s.heap.FunFrames X.base X.stack:=by
 rcases I.ok.stk with e | ⟨e,hf⟩
 · rw[e];exact I.funs
 rw[e];obtain⟨m,hn,_⟩:=I.loc;refine .cons (by rw[I.ok.kind];decide) hf hn ?_ I.funs
 exact Heap.get?_none_of_le (Nat.le_trans I.ok.bsz I.ok.above)
theorem Inv.stkSub(I:Inv X pins σ H s):∀ b∈frs X.stack,b∈X.env.locals::X.fs:=fun b hb=>by
 rcases I.ok.stk with e | ⟨e,hf⟩
 · rw[e]at hb;exact List.mem_cons_of_mem _ hb
 rw[e]at hb;unfold frs at hb;rw[List.filterMap_cons,hf]at hb;exact hb
theorem Inv.stkFree(I:Inv X pins σ H s):∀ b∈frs X.stack,H b=none:=fun b hb=>by
 rcases List.mem_cons.mp (I.stkSub b hb)with e | hb
 · rw[e];exact I.free
 obtain⟨_,o,ho,_⟩:=I.ok.funs.mem hb;exact I.base.free b o ho (I.ok.frf b hb) fun z=>I.ok.exfs b z hb
theorem Inv.step{g':Array GenState}{t':Nat}{d':Drawn}{ch:List Addr}(I:Inv X pins σ H s)
 (hch:∀ b∈ch,(b∈X.ex∨X.s₀.heap.objs.size<=b)/\b≠X.env.locals/\(∀ x c,X.env.cells.lookup x=some c->c≠b) /\ ∀ p∈X.pn++pins,p.1≠b)
 (keep:∀ b o,b≠X.env.locals->b∉X.fs->b∉ch->s.heap.get? b=some o->H b=none->h'.get? b=some o)
 (slot:∀ b o,b≠X.env.locals->b∈X.fs->b∉ch->s.heap.get? b=some o->H b=none -> ∃ sl,h'.get? b=some { o with slots:=sl }) (free:∀ b o,b∉ch->s.heap.get? b=some o->H b=none->H' b=none)
 (there:∀ b o,b∉ch->s.heap.get? b=some o -> ∃ o',h'.get? b=some o')
 (tups:∀ b xs,H b=some (.tup xs)->H' b=some (.tup xs)) (frzs:∀ b o u,H b=some (.frz o u)->H' b=some (.frz o u)) (tbls:∀ b ps,H b=some (.tbl ps) -> ∃ more,H' b=some (.tbl (ps++more)))
 (ns:∀ m,s.heap.Ns X.env.locals m->h'.Ns X.env.locals m) (hok:HOk X.prog X.w H' h') (hg:AllBare g') :
 Inv X pins σ H' { s with heap:=h',gens:=g',drawn:=d',toks:=t' }:=by
 have neL:∀ b o,X.s₀.heap.get? b=some o->b≠X.env.locals:=fun b o e=>Nat.ne_of_lt (Nat.lt_of_lt_of_le (Heap.lt_size e) I.ok.above);have neC:∀ b o,X.s₀.heap.get? b=some o->b∉X.ex->b∉ch:=fun b o e hx hb=>by
  rcases(hch b hb).1 with z | z
  · exact hx z
  exact absurd (Nat.lt_of_lt_of_le (Heap.lt_size e) z) (Nat.lt_irrefl _)
 have cellK:∀ x c,X.env.cells.lookup x=some c -> ∀ v,s.heap.IsCell c v->h'.IsCell c v:=fun x c e v ⟨o,ho,hd⟩=>by
  have nch:c∉ch:=fun z=>(hch c z).2.2.1 x c e rfl;by_cases hc:c∈X.fs
  · obtain⟨sl,q⟩:=slot c o (I.cne x c e) hc nch ho (I.freeC x c e)
    exact⟨_,q,hd⟩
  exact⟨o,keep c o (I.cne x c e) hc nch ho (I.freeC x c e),hd⟩
 refine⟨I.ok,I.os,hg,⟨fun b o e n hb hx=>?_,fun b o e n hb hx=>?_,fun b o e n hx=>?_,fun b o e hx=>?_,fun b xs e=>tups b xs (I.base.tups b xs e),fun b o xs e=>frzs b o xs (I.base.frzs b o xs e),fun b ps e=>?_⟩,?_,fun x c e=>?_,?_,fun x c e=>?_,fun p hp=>?_,hok,I.len⟩
 · exact keep b o (neL b o e) hb (neC b o e hx) (I.base.keep b o e n hb hx) (I.base.free b o e n hx)
 · obtain⟨sl,e1⟩:=I.base.slot b o e n hb hx
   obtain⟨sl',e2⟩:=slot b _ (neL b o e) hb (neC b o e hx) e1 (I.base.free b o e n hx);exact⟨sl',e2⟩
 · obtain⟨o',e1⟩:=I.base.there b o e hx
   exact free b o' (neC b o e hx) e1 (I.base.free b o e n hx)
 · obtain⟨o',e1⟩:=I.base.there b o e hx
   exact there b o' (neC b o e hx) e1
 · obtain⟨m1,e1⟩:=I.base.tbls b ps e
   obtain⟨m2,e2⟩:=tbls b _ e1;exact⟨m1++m2,by rw[e2,Array.append_assoc]⟩
 · obtain⟨m,hn,hl⟩:=I.loc
   refine⟨m,ns m hn,fun i x v e1 e2 e3=>?_⟩;obtain⟨u,r,l⟩:=hl i x v e1 e2 e3;refine⟨u,r,?_⟩;rcases l with l | ⟨k,c,e,z⟩
   · exact .inl l
   exact .inr ⟨k,c,e,cellK x c e _ z⟩
 · obtain⟨v,z⟩:=I.cell x c e
   exact⟨v,cellK x c e v z⟩
 · obtain⟨m,⟨o,_,_,ho,_⟩,_⟩:=I.loc
   exact free _ o (fun z=>(hch _ z).2.1 rfl) ho I.free
 · obtain⟨v,o,ho,hd⟩:=I.cell x c e
   exact free c o (fun z=>(hch c z).2.2.1 x c e rfl) ho (I.freeC x c e)
 obtain⟨e,n,ne,nf,d⟩:=I.pin p hp;have nch:p.1∉ch:=fun z=>(hch p.1 z).2.2.2 p hp rfl;exact⟨keep p.1 p.2 ne nf nch e n,free p.1 p.2 nch e n,ne,nf,d⟩
theorem Inv.un{t':Nat}(I:Inv X pins σ H s)(u:Un X.fs [] H H' s.heap h')(hok:HOk X.prog X.w H' h'):Inv X pins σ H' { s with heap:=h',toks:=t' }:=by
 obtain⟨m,⟨o,es,ep,ho,r⟩,_⟩:=id I.loc;obtain⟨sl,hL⟩:=u.any ho I.free (by simp)
 exact I.step (g':=s.gens) (d':=s.drawn) (ch:=[]) (fun _ z=>nomatch z) (fun b o _ hb _ e n=>u.keep b o e n hb (by simp)) (fun b o _ hb _ e n=>u.slot b o e n hb (by simp)) (fun b o _ e n=>u.free b o e n (by simp)) (fun b o _ e=>u.there b o e (by simp)) u.tups u.frzs u.tbls (fun m' hm=>by
  obtain⟨o',es',ep',ho',r'⟩:=hm;rw[ho]at ho';cases ho';exact⟨_,es',ep',hL,r'⟩) hok I.bare
theorem Inv.call{g':Array GenState}{t':Nat}{d':Drawn}{ch:List Addr}(I:Inv X pins σ H s)(u:Un (frs X.stack) ch H H' s.heap h')(hok:HOk X.prog X.w H' h')(hg:AllBare g')
 (hch:∀ b∈ch,(b∈X.ex∨X.s₀.heap.objs.size<=b)/\b≠X.env.locals/\(∀ x c,X.env.cells.lookup x=some c->c≠b) /\ ∀ p∈X.pn++pins,p.1≠b) :
 Inv X pins σ H' { s with heap:=h',gens:=g',drawn:=d',toks:=t' }:=by
 obtain⟨m,⟨o,es,ep,ho,r⟩,_⟩:=id I.loc;obtain⟨sl,hL⟩:=u.any ho I.free fun z=>(hch _ z).2.1 rfl;exact I.step (ch:=ch) hch (fun b o hL hb hc e n=>u.keep b o e n (fun z=>(List.mem_cons.mp (I.stkSub b z)).elim hL hb) hc) (fun b o _ _ hc e n=>u.any e n hc) (fun b o hc e n=>u.free b o e n hc) (fun b o hc e=>u.there b o e hc) u.tups u.frzs u.tbls (fun m' hm=>by
  obtain⟨o',es',ep',ho',r'⟩:=hm;rw[ho]at ho';cases ho';exact⟨_,es',ep',hL,r'⟩) hok hg
theorem Inv.turned{t':Nat}{it:Addr}(I:Inv X pins σ H s)(k:∀ b o,b≠it->s.heap.get? b=some o->h'.get? b=some o)(hn:H it=none)(hL:it≠X.env.locals)
 (h1:it∈X.ex∨X.s₀.heap.objs.size<=it) (h2:∀ x c,X.env.cells.lookup x=some c->c≠it) (h3:∀ p∈X.pn++pins,p.1≠it):Inv X pins σ H { s with heap:=h',toks:=t' }:=by
 have nit:∀ b u,H b=some u->b≠it:=fun b u e z=>by rw[z,hn]at e;cases e
 refine I.step (g':=s.gens) (d':=s.drawn) (ch:=[it]) (fun b hb=>?_) (fun b o _ _ hc e _=>k b o (fun z=>hc (by simp[z])) e) (fun b o _ _ hc e _=>⟨o.slots,k b o (fun z=>hc (by simp[z])) e⟩) (fun _ _ _ _ n=>n)
  (fun b o hc e=>⟨o,k b o (fun z=>hc (by simp[z])) e⟩) (fun _ _ e=>e) (fun _ _ _ e=>e) (fun b ps e=>⟨#[],by rw[e];simp⟩) (fun m hm=>?_) (fun b u e=>?_) I.bare
 · have e:b=it:=by simpa using hb
   subst e;exact⟨h1,hL,h2,h3⟩
 · obtain⟨o,es,ep,ho,r⟩:=hm
   exact⟨o,es,ep,k _ o (Ne.symm hL) ho,r⟩
 refine(I.hok b u e).stay (fun c v hc q=>k c v ?_ q) (fun _ q=>q) fun _ _ q=>q;rcases hc with z | z
 · rw[z];exact nit b u e
 exact nit c _ z
theorem Inv.tok(I:Inv X pins σ H s)(t:Nat):Inv X pins σ H { s with toks:=t }:=I.un (h':=s.heap) (t':=t) Un.refl I.hok
theorem Inv.kept{t':Nat}(I:Inv X pins σ H s)(k:∀ b u,s.heap.get? b=some u->h'.get? b=some u):Inv X pins σ H { s with heap:=h',toks:=t' }:=I.un (Un.kept k) (I.hok.kept k)
theorem Inv.laid{a:Addr}{o:HO}{t':Nat}(I:Inv X pins σ H s)(k:∀ b u,s.heap.get? b=some u->h'.get? b=some u)(hp:s.heap.objs.size<=a)(new:ObjOk X.prog X.w (upd H a o) h' a o) :
 Inv X pins σ (upd H a o) { s with heap:=h',toks:=t' }:=I.un (Un.laid k hp (I.hok.fresh hp)) (I.hok.laid k hp new)
theorem Inv.write{x e:Addr}{o:HO}{t':Nat}(I:Inv X pins σ H s)(mu:Mut (H x))(he:e=x∨H e=some (.own x))(k:∀ b u,b≠e->s.heap.get? b=some u->h'.get? b=some u)(heo:∃ u,h'.get? e=some u)
 (new:ObjOk X.prog X.w (upd H x o) h' x o):Inv X pins σ (upd H x o) { s with heap:=h',toks:=t' }:=I.un (Un.write mu he k heo) (I.hok.write mu he k heo new)
theorem Inv.pins_of{pins':List (Addr×Obj)}(I:Inv X pins σ H s)(h:∀ p∈pins',s.heap.get? p.1=some p.2/\H p.1=none/\p.1≠X.env.locals/\p.1∉X.fs /\ ∀ v,p.2.data ≠ .cell v):Inv X pins' σ H s:=
 ⟨I.ok,I.os,I.bare,I.base,I.loc,I.cell,I.free,I.freeC,fun p hp=>(List.mem_append.mp hp).elim (fun z=>I.pin p (List.mem_append_left _ z)) (h p),I.hok,I.len⟩
theorem nodup_ix{N:List Str}(hN:N.Nodup){i j:Nat}{x:Str}(a:N[i]?=some x)(b:N[j]?=some x):i=j:=by
 obtain⟨h1,e1⟩:=List.getElem?_eq_some_iff.mp a;obtain⟨h2,e2⟩:=List.getElem?_eq_some_iff.mp b;exact(List.getElem_inj hN).mp (e1.trans e2.symm)
theorem store_ok2{M:Model}{A:Around}{E:Value->Shared->Prop}{i:Nat}{x:Str}{v:V}{u:Value}{Q:Unit->Shared->Prop}(I:Inv X pins σ H s)(hN:X.N.Nodup)(hi:X.N[i]?=some x)(hx:Loc X.env.scope x)(r:RelV v u)
 (h:∀ s',Inv X pins (σ.set i (some v)) H s'->(∃ a,Heap.SameBut a s.heap s'.heap/\(a=X.env.locals∨X.env.cells.lookup x=some a))->Q () s') (hf:X.fn x=true∨X.env.scope.names.lookup x=some .local:=by first | exact .inl rfl | exact .inr rfl | assumption):wpAny M A (storeName X.env x u) Q E s:=by
 obtain⟨m,hn,hl⟩:=id I.loc;have hcls:(X.env.scope.kind == .class || (X.env.scope.kind == .module && X.env.locals != X.env.globals))=false:=by rw[I.ok.kind];rfl
 have hiσ:i < σ.length:=by rw[I.len];exact(List.getElem?_eq_some_iff.mp hi).1
 have cne:=I.cne;have tracked:∀{a:Addr}{h':Heap},(∃ o,s.heap.get? a=some o/\H a=none)->Heap.SameBut a s.heap h'->HOk X.prog X.w H h':=fun {a h'} ha hs b ob e=>by
  obtain⟨_,_,hfree⟩:=ha;refine(I.hok b ob e).stay (fun c w' hc q=>(hs.2 c ?_).trans q) (fun _ q=>q) fun _ _ q=>q;rintro rfl;rcases hc with rfl | hc
  · rw[hfree]at e;cases e
  rw[hfree]at hc;cases hc
 rcases hx with hk | hk
 · refine wpAny_storeName_local hk hn (fun h' hn' hs=>?_) hcls
   obtain⟨oL,_,_,hoL,_⟩:=id hn;refine h _ ⟨I.ok,I.os,I.bare,⟨fun b o e n hb hx=>?_,fun b o e n hb hx=>?_,I.base.free,fun b o e hx=>?_,I.base.tups,I.base.frzs,I.base.tbls⟩,⟨_,hn',fun j y v' e1 e2 e3=>?_⟩,fun y c e=>?_,I.free,I.freeC,fun p hp=>?_,tracked ⟨oL,hoL,I.free⟩ hs,by simpa using I.len⟩ ⟨_,hs,.inl rfl⟩
   · exact(hs.2 b (Nat.ne_of_lt (Nat.lt_of_lt_of_le (Heap.lt_size e) I.ok.above))).trans (I.base.keep b o e n hb hx)
   · obtain⟨sl,e1⟩:=I.base.slot b o e n hb hx
     exact⟨sl,(hs.2 b (Nat.ne_of_lt (Nat.lt_of_lt_of_le (Heap.lt_size e) I.ok.above))).trans e1⟩
   · obtain⟨o',e1⟩:=I.base.there b o e hx
     exact⟨o',(hs.2 b (Nat.ne_of_lt (Nat.lt_of_lt_of_le (Heap.lt_size e) I.ok.above))).trans e1⟩
   · by_cases hj:j=i
     · subst hj
       rw[hi]at e1;cases e1;rw[List.getElem?_set_self hiσ]at e2;cases e2;exact⟨u,r,.inl ⟨hk,by simp⟩⟩
     rw[List.getElem?_set_ne (Ne.symm hj)]at e2;obtain⟨u',r',q⟩:=hl j y v' e1 e2 e3;refine⟨u',r',?_⟩;rcases q with ⟨k,e⟩ | ⟨k,c,e,z⟩
     · refine .inl ⟨k,?_⟩
       have:y≠x:=fun e=>hj (nodup_ix hN e1 (e ▸ hi));simp[this,e]
     exact .inr ⟨k,c,e,z.sameBut hs (cne y c e)⟩
   · obtain⟨w',z⟩:=I.cell y c e
     exact⟨w',z.sameBut hs (cne y c e)⟩
   obtain⟨e,n,ne,nf,d⟩:=I.pin p hp;exact⟨(hs.2 p.1 ne).trans e,n,ne,nf,d⟩
 have hfn:X.fn x=true:=by
  rcases hf with z | z
  · exact z
  rw[z]at hk;cases hk
 obtain⟨c,hc⟩:=I.ok.has x (.inl hk);obtain⟨w',z⟩:=I.cell x c hc;refine wpAny_storeName_cell I.ok.kind hk hc z (fun h' hc' hs=>?_);obtain⟨oc,hoc,hocd⟩:=id z;refine h { s with heap:=h' } ⟨I.ok,I.os,I.bare,⟨fun b o e n hb hx=>?_,fun b o e n hb hx=>?_,I.base.free,fun b o e hx=>?_,I.base.tups,I.base.frzs,I.base.tbls⟩,⟨m,hn.sameBut hs (Ne.symm (cne x c hc)),fun j y v' e1 e2 e3=>?_⟩,fun y c' e=>?_,I.free,I.freeC,fun p hp=>?_,tracked ⟨oc,hoc,I.freeC x c hc⟩ hs,by simpa using I.len⟩ ⟨c,hs,.inr hc⟩
 · exact(hs.2 b (Nat.ne_of_lt (Nat.lt_of_lt_of_le (Heap.lt_size e) (I.ok.cab x c hfn hc)))).trans (I.base.keep b o e n hb hx)
 · obtain⟨sl,e1⟩:=I.base.slot b o e n hb hx
   exact⟨sl,(hs.2 b (Nat.ne_of_lt (Nat.lt_of_lt_of_le (Heap.lt_size e) (I.ok.cab x c hfn hc)))).trans e1⟩
 · obtain⟨o',e1⟩:=I.base.there b o e hx
   exact⟨o',(hs.2 b (Nat.ne_of_lt (Nat.lt_of_lt_of_le (Heap.lt_size e) (I.ok.cab x c hfn hc)))).trans e1⟩
 · by_cases hj:j=i
   · subst hj
     rw[hi]at e1;cases e1;rw[List.getElem?_set_self hiσ]at e2;cases e2;exact⟨u,r,.inr ⟨.inl hk,c,hc,hc'⟩⟩
   rw[List.getElem?_set_ne (Ne.symm hj)]at e2;obtain⟨u',r',q⟩:=hl j y v' e1 e2 e3;refine⟨u',r',?_⟩;rcases q with q | ⟨k,c',e,z'⟩
   · exact .inl q
   refine .inr ⟨k,c',e,z'.sameBut hs ?_⟩;rintro rfl;exact hj (nodup_ix hN e1 (I.ok.inj _ _ _ e hc ▸ hi))
 · by_cases hcc:c'=c
   · subst hcc;exact⟨_,hc'⟩
   obtain⟨w2,z2⟩:=I.cell y c' e;exact⟨w2,z2.sameBut hs hcc⟩
 obtain⟨e,n,ne,nf,d⟩:=I.pin p hp;refine⟨(hs.2 p.1 ?_).trans e,n,ne,nf,d⟩;intro q;rw[q,hoc]at e;have q':oc=p.2:=Option.some.inj e;exact d w' (by rw[← q'];exact hocd)
theorem store_ok{M:Model}{A:Around}{E:Value->Shared->Prop}{i:Nat}{x:Str}{v:V}{u:Value}{Q:Unit->Shared->Prop}(I:Inv X pins σ H s)(hN:X.N.Nodup)(hi:X.N[i]?=some x)(hx:Loc X.env.scope x)(r:RelV v u)
 (h:∀ s',Inv X pins (σ.set i (some v)) H s'->Q () s') (hf:X.fn x=true∨X.env.scope.names.lookup x=some .local:=by first | exact .inl rfl | exact .inr rfl | assumption):wpAny M A (storeName X.env x u) Q E s:=
 store_ok2 I hN hi hx r (fun s' I' _=>h s' I') hf
theorem Inv.call'{s':Shared}{ch:List Addr}(I:Inv X pins σ H s)(ho:s'.os=s.os)(u:Un (frs X.stack) ch H H' s.heap s'.heap)(hok:HOk X.prog X.w H' s'.heap)(hg:AllBare s'.gens)
 (hch:∀ b∈ch,(b∈X.ex∨X.s₀.heap.objs.size<=b)/\b≠X.env.locals/\(∀ x c,X.env.cells.lookup x=some c->c≠b) /\ ∀ p∈X.pn++pins,p.1≠b):Inv X pins σ H' s':=by
 obtain⟨h',g',d',t',o'⟩:=s';have e:o'=s.os:=ho;subst e;exact I.call (g':=g') (t':=t') (d':=d') u hok hg hch
end
noncomputable abbrev XK:=Value->Option Addr->Hp->Prop
noncomputable abbrev St:=List (Option V)
noncomputable abbrev VK:=V->Hp->Prop
noncomputable abbrev TE:=St->Hp->VK->Prop
noncomputable abbrev TT:=St->Hp->(Bool->Hp->Prop)->Prop
noncomputable abbrev TA:=St->Hp->(List V->Hp->Prop)->Prop
structure Ends where
 nx:St->Hp->Prop
 rt:VK
 bk:St->Hp->Prop:=fun _ _=>False
 ct:St->Hp->Prop:=fun _ _=>False
noncomputable abbrev TS:=Ends->St->Hp->Prop
noncomputable def EP(X:Cx)(pins:List (Addr×Obj))(σ:St)(Q:VK)(u:Value)(s':Shared):Prop:=∃ v H',Inv X pins σ H' s'/\RelV v u/\Q v H'
noncomputable def TP(X:Cx)(pins:List (Addr×Obj))(σ:St)(Q:Bool->Hp->Prop)(b:Bool)(s':Shared):Prop:=∃ H',Inv X pins σ H' s'/\Q b H'
noncomputable def AP(X:Cx)(pins:List (Addr×Obj))(σ:St)(Q:List V->Hp->Prop)(us:List Value)(s':Shared):Prop:=∃ vs H',Inv X pins σ H' s'/\Vals vs us/\Q vs H'
noncomputable def SP(X:Cx)(pins:List (Addr×Obj))(D:Ends)(f:Flow)(s':Shared):Prop:=
 match f with
 | .next=>∃ σ' H',Inv X pins σ' H' s'/\D.nx σ' H'
 | .brk=>∃ σ' H',Inv X pins σ' H' s'/\D.bk σ' H'
 | .cont=>∃ σ' H',Inv X pins σ' H' s'/\D.ct σ' H'
 | .ret u=>∃ v σ' H',Inv X pins σ' H' s'/\RelV v u/\D.rt v H'
noncomputable def PE(X:Cx)(e:Expr)(t:TE):Prop:=
 ∀(pins:List (Addr×Obj)) (s:Shared) (σ:St) (H:Hp) (Q:VK),Inv X pins σ H s->t σ H Q->wpAny (model X.prog X.w) X.A (eval e X.env) (EP X pins σ Q) X.xe s
noncomputable def PT(X:Cx)(e:Expr)(t:TT):Prop:=
 ∀(pins:List (Addr×Obj)) (s:Shared) (σ:St) (H:Hp) (Q:Bool->Hp->Prop),Inv X pins σ H s->t σ H Q->wpAny (model X.prog X.w) X.A (isTrue e X.env (eval e X.env)) (TP X pins σ Q) X.xe s
noncomputable def PW(X:Cx)(e:Expr)(t:TT):Prop:=
 ∀(whole:Sem Value) (pins:List (Addr×Obj)) (s:Shared) (σ:St) (H:Hp) (Q:Bool->Hp->Prop),Inv X pins σ H s->t σ H Q->wpAny (model X.prog X.w) X.A (isTrue e X.env whole) (TP X pins σ Q) X.xe s
theorem PW.pt{X:Cx}{e:Expr}{t:TT}(h:PW X e t):PT X e t:=h _
noncomputable def PA(X:Cx)(es:List Expr)(t:TA):Prop:=
 ∀(pos:Pos) (pins:List (Addr×Obj)) (s:Shared) (σ:St) (H:Hp) (Q:List V->Hp->Prop),Inv X pins σ H s->t σ H Q->wpAny (model X.prog X.w) X.A (spliced (backTo pos (starEach es X.env))) (AP X pins σ Q) X.xe s
noncomputable def PS(X:Cx)(st:Stmt)(t:TS):Prop:=
 ∀(pins:List (Addr×Obj)) (s:Shared) (σ:St) (H:Hp) (D:Ends),Inv X pins σ H s->t D σ H->wpAny (model X.prog X.w) X.A (exec st X.env) (SP X pins D) X.xe s
noncomputable def PSs(X:Cx)(st:List Stmt)(t:TS):Prop:=
 ∀(pins:List (Addr×Obj)) (s:Shared) (σ:St) (H:Hp) (D:Ends),Inv X pins σ H s->t D σ H->wpAny (model X.prog X.w) X.A (execs st X.env) (SP X pins D) X.xe s
theorem thn{α:Type}{t:Sem α}{Q Q':α -> Shared->Prop}{M:Model}{A:Around}{E:Value->Shared->Prop}{s:Shared}(h:wpAny M A t Q E s)(hQ:∀ a s,Q a s->Q' a s):wpAny M A t Q' E s:=wpAny_mono h hQ fun _ _ x=>x
end L2
namespace L2
open PySem PySem.Spec PyProof.Rows
section
variable{X:Cx}
noncomputable def tVar(i:Nat):TE:=fun σ H Q=>∃ v,σ[i]?=some (some v)/\Q v H
noncomputable def tC(v:V):TE:=fun _ H Q=>Q v H
theorem pe_var{i:Nat}{x:Str}{pos:Pos}(hN:X.N[i]?=some x)(hv:Vis X.env.scope x)(hd:(x == ("__debug__":Str))=false:=by decide)(hcd:(x == ("__classdict__":Str))=false:=by decide):PE X (.Name x pos) (tVar i):=by
 intro pins s σ H Q I h;obtain⟨v,e,h⟩:=h;obtain⟨m,hn,hl⟩:=I.loc;obtain⟨u,r,l⟩:=hl i x v hN e hv;have fin:EP X pins σ Q u s:=⟨v,H,I,r,h⟩;rcases l with ⟨hk,hm⟩ | ⟨hk,c,hc,hcell⟩
 · exact wpAny_Name (wpAny_loadName_local I.ok.kind hk hn hm fin) hd
 rcases hk with hk | hk
 · exact wpAny_Name (wpAny_loadName_cell I.ok.kind hk hc hcell fin) hd
 exact wpAny_Name (wpAny_loadName_free I.ok.kind hk hc hcell fin hcd) hd
theorem pe_int{i j pos}:PE X (.Constant (.int i) j pos) (tC (.int i)):=fun _ _ _ H _ I h=>wpAny_Constant_int ⟨.int i,H,I.tok _,⟨_,rfl⟩,h⟩
theorem pe_bl{b j pos}:PE X (.Constant (.bool b) j pos) (tC (.bl b)):=fun _ _ _ H _ I h=>Constant_bool ⟨.bl b,H,I,rfl,h⟩
noncomputable def Gl(X:Cx)(x:Str):Prop:=X.env.kindOf x=some .globalImplicit
theorem ld_glob{E:Value->Shared->Prop}{pins:List (Addr×Obj)}{s:Shared}{σ:St}{H:Hp}{x:Str}{u:Value}{pos:Pos}{Q:Value->Shared->Prop}(I:Inv X pins σ H s)(hg:Gl X x)(hm:X.mg x=some u)(h:Q u s)
 (hd:(x == ("__debug__":Str))=false:=by decide):wpAny (model X.prog X.w) X.A (eval (.Name x pos) X.env) Q E s:=
 Calls.Name_function_global I.ok.kind hg (Calls.loadGlobal_global (by rw[I.ok.glob];exact I.mod.glob.keeps I.bk) hm h) hd
theorem ld_blt{E:Value->Shared->Prop}{pins:List (Addr×Obj)}{s:Shared}{σ:St}{H:Hp}{x:Str}{u:Value}{pos:Pos}{Q:Value->Shared->Prop}(I:Inv X pins σ H s)(hg:Gl X x)(hm:X.mg x=none)(hv:bootBuiltins x=some u)(h:Q u s)
 (hn:x ≠ "__name__":=by decide) (hd:(x == ("__debug__":Str))=false:=by decide):wpAny (model X.prog X.w) X.A (eval (.Name x pos) X.env) Q E s:=by
 obtain⟨mb,h1,h2⟩:=I.mod.blt;exact Calls.Name_function_global I.ok.kind hg (Calls.loadGlobal_builtin (by rw[I.ok.glob];exact I.mod.glob.keeps I.bk) hm (by rw[I.ok.blt];exact h1.keeps I.bk) ((h2 x hn).trans hv) h) hd
theorem pe_glob{x:Str}{v:V}{u:Value}{pos:Pos}(hg:Gl X x)(hm:X.mg x=some u)(r:RelV v u)(hd:(x == ("__debug__":Str))=false:=by decide):PE X (.Name x pos) (tC v):=
 fun _ _ _ H _ I h=>ld_glob I hg hm ⟨v,H,I,r,h⟩ hd
variable{a b:Expr}{ta tb:TE}{pos:Pos}
noncomputable def tB(t:TE):TT:=fun σ H Q=>t σ H fun x H1=>∃ c,x=.bl c/\Q c H1
theorem pt_val{e:Expr}{t:TE}(h:PE X e t)(he:∀ whole,isTrue e X.env whole=(do let v ← whole;standAt e.pos;holding [v] (truthy v)):=by intro _;rfl):PT X e (tB t):=by
 intro pins s σ H Q I hw;refine isTrue_plain (thn (h pins s σ H _ I hw) fun v s1 ⟨x,H1,I1,r1,q1⟩=>?_) (he _);obtain⟨d,rfl,q⟩:=q1;cases r1;exact wpAny_truthy_bool ⟨H1,I1,q⟩
variable{tA tB':TT}{rest:List Expr}
noncomputable def tOr(t u:TT):TT:=fun σ H Q=>t σ H fun c H1=>if c=true then Q true H1 else u σ H1 Q
noncomputable def tNot(t:TT):TT:=fun σ H Q=>t σ H fun c H1=>Q (!c) H1
theorem pw_or1(ha:PT X a tA):PW X (.BoolOp .Or [a] pos) tA:=by
 intro wh pins s σ H Q I h;refine isTrue_or (thn (ha pins s σ H Q I h) fun c s1 e=>?_);cases c with
 | false=>exact isTrue_or_nil e
 | true=>exact e
theorem pw_or(ha:PT X a tA)(hb:PW X (.BoolOp .Or (b::rest) pos) tB'):PW X (.BoolOp .Or (a::b::rest) pos) (tOr tA tB'):=by
 intro wh pins s σ H Q I h;refine isTrue_or (thn (ha pins s σ H _ I h) fun c s1 zz=>?_);obtain⟨H1,I1,q1⟩:=zz;cases c with
 | true=>exact⟨H1,I1,q1⟩
 | false=>exact hb wh pins s1 σ H1 Q I1 q1
theorem pt_not(ha:PT X a tA):PT X (.UnaryOp .Not a pos) (tNot tA):=by
 intro pins s σ H Q I h;exact isTrue_not (ha pins s σ H (fun c H1=>Q (!c) H1) I h)
noncomputable def tNotV(ta:TE):TE:=fun σ H Q=>ta σ H fun x H1=>∃ c,x=.bl c/\Q (.bl (!c)) H1
theorem pe_not(ha:PE X a ta):PE X (.UnaryOp .Not a pos) (tNotV ta):=by
 intro pins s σ H Q I h;refine UnaryOp_ (thn (ha pins s σ H _ I h) fun v s1 zz=>?_);obtain⟨x,H1,I1,r1,q1⟩:=zz;obtain⟨c,rfl,q1⟩:=q1;cases r1;exact not_of (wpAny_truthy_bool ⟨.bl (!c),H1,I1,rfl,q1⟩)
end
end L2
namespace L2
open PySem PySem.Spec PyProof.Rows
noncomputable def SqL(K:W.Frag)(H:Hp)(a:Addr)(xs:List V):Prop:=
 Rd H a (.lst xs) ∨
  ∃(o:Obj) (its:Array Value) (n:Nat),K.lookup a=some o/\o.cls=.type "list" /\ o.dict=none/\o.data=.seq its n/\its.size<=sizeLine/\Vals xs its.toList
noncomputable def SqT(K:W.Frag)(H:Hp)(a:Addr)(xs:List V):Prop:=
 Rd H a (.tup xs) ∨
  ∃(o:Obj) (its:Array Value) (n:Nat),K.lookup a=some o/\o.cls=.type "tuple" /\ o.data=.seq its n/\its.size<=sizeLine/\Vals xs its.toList
noncomputable def absV:Value->Option V
 | .none=>some .non
 | .bool b=>some (.bl b)
 | .int i _=>some (.int i)
 | .str x _=>some (.str x)
 | .bytes b _=>some (.byt b)
 | .float b _=>some (.flt b)
 | .ref a=>some (.ref a)
 | .type n=>some (.ty n)
 | _=>none
theorem RelV.abs{x:V}{u:Value}(r:RelV x u):absV u=some x:=by
 cases x with
 | non=>cases r;rfl
 | bl _=>cases r;rfl
 | int _=>obtain⟨t,rfl⟩:=r;rfl
 | str _=>obtain⟨t,rfl⟩:=r;rfl
 | byt _=>obtain⟨t,rfl⟩:=r;rfl
 | flt _=>obtain⟨t,rfl⟩:=r;rfl
 | ref _=>cases r;rfl
 | ty _=>cases r;rfl
theorem RelV.inj{x y:V}{u:Value}(r:RelV x u)(q:RelV y u):x=y:=Option.some.inj (r.abs.symm.trans q.abs)
theorem Vals.inj:∀{xs ys:List V}{us:List Value},Vals xs us->Vals ys us->xs=ys
 | _,_,_,.nil,.nil=>rfl
 | _,_,_,.cons r t,.cons r' t'=>by rw[r.inj r',Vals.inj t t']
section
variable{X:Cx}{pins:List (Addr×Obj)}{σ:St}{H:Hp}{s:Shared}{a:Addr}{xs ys:List V}
theorem SqL.of{K:W.Frag}(h:H a=some (.lst xs)):SqL K H a xs:=.inl (.inl h)
theorem SqT.of{K:W.Frag}(h:H a=some (.tup xs)):SqT K H a xs:=.inl (.inl h)
theorem Inv.list(I:Inv X pins σ H s)(h:SqL X.K H a xs):∃ its:List Value,Vals xs its/\PlainL s.heap a its.toArray/\xs.length<=sizeLine:=by
 rcases h with h | ⟨o,its,n,hk,hc,hd,hs,hz,r⟩
 · obtain⟨z,its,n,r,e⟩:=h.ok I.hok
   exact⟨its,r,⟨_,n,e,rfl,rfl,rfl⟩,z⟩
 refine⟨its.toList,r,⟨o,n,I.kIn a o hk,hc,hd,by simpa using hs⟩,?_⟩
 have e:=r.length;simp only[Array.length_toList]at e;omega
theorem Inv.tuple(I:Inv X pins σ H s)(h:SqT X.K H a xs):∃ its:List Value,Vals xs its/\IsTup s.heap a its.toArray/\xs.length<=sizeLine:=by
 rcases h with h | ⟨o,its,n,hk,hc,hs,hz,r⟩
 · obtain⟨z,its,r,p⟩:=h.ok I.hok
   exact⟨its,r,p,z⟩
 refine⟨its.toList,r,⟨o,I.kIn a o hk,hc,n,by simpa using hs⟩,?_⟩
 have e:=r.length;simp only[Array.length_toList]at e;omega
theorem Inv.list_inj(I:Inv X pins σ H s)(h:SqL X.K H a xs)(h':SqL X.K H a ys):xs=ys:=by
 obtain⟨its,r,⟨o,n,e,_,_,d⟩,_⟩:=I.list h;obtain⟨its',r',⟨o',n',e',_,_,d'⟩,_⟩:=I.list h';rw[e]at e';cases e';rw[d]at d';injection d' with d1 _;have:its=its':=by simpa using congrArg Array.toList d1
 subst this;exact r.inj r'
end
noncomputable abbrev Cx.wish(X:Cx)(E:Value->Shared->Prop):Cx:={ X with xe:=E }
noncomputable abbrev Cx.nox(X:Cx):Cx:=X.wish fun _ _=>False
theorem Cx.Ok.wish{X:Cx}(ok:X.Ok)(E:Value->Shared->Prop):(X.wish E).Ok:=
 ⟨ok.mod,ok.kind,ok.glob,ok.blt,ok.above,ok.inj,ok.has,ok.cab,ok.hd,ok.frames,ok.stk,ok.exf,ok.bs,ok.bsz,ok.noex,ok.exfs,ok.funs,ok.frf⟩
theorem Cx.Ok.unwish{X:Cx}{E:Value->Shared->Prop}(ok:(X.wish E).Ok):X.Ok:=
 ⟨ok.mod,ok.kind,ok.glob,ok.blt,ok.above,ok.inj,ok.has,ok.cab,ok.hd,ok.frames,ok.stk,ok.exf,ok.bs,ok.bsz,ok.noex,ok.exfs,ok.funs,ok.frf⟩
section
variable{X:Cx}{pins:List (Addr×Obj)}{σ:St}{H:Hp}{s:Shared}{E:Value->Shared->Prop}
theorem Inv.wish(I:Inv X pins σ H s)(E:Value->Shared->Prop):Inv (X.wish E) pins σ H s:=⟨I.ok.wish E,I.os,I.bare,I.base,I.loc,I.cell,I.free,I.freeC,I.pin,I.hok,I.len⟩
theorem Inv.unwish(I:Inv (X.wish E) pins σ H s):Inv X pins σ H s:=⟨I.ok.unwish,I.os,I.bare,I.base,I.loc,I.cell,I.free,I.freeC,I.pin,I.hok,I.len⟩
theorem SP.unwish{D:Ends}{f:Flow}{s':Shared}(h:SP (X.wish E) pins D f s'):SP X pins D f s':=by
 cases f with
 | next=>obtain⟨σ',H',I,q⟩:=h;exact⟨σ',H',I.unwish,q⟩
 | brk=>obtain⟨σ',H',I,q⟩:=h;exact⟨σ',H',I.unwish,q⟩
 | cont=>obtain⟨σ',H',I,q⟩:=h;exact⟨σ',H',I.unwish,q⟩
 | ret u=>obtain⟨v,σ',H',I,r,q⟩:=h;exact⟨v,σ',H',I.unwish,r,q⟩
theorem PSs.nox{st:List Stmt}{t:TS}(h:PSs X.nox st t):PSs X st t:=fun pins s σ H D I hw=>
 wpAny_mono (h pins s σ H D (I.wish _) hw) (fun _ _ q=>q.unwish) fun _ _ z=>False.elim z
end
section
variable{X:Cx}{st:Stmt}{rest:List Stmt}{t u:TS}{e:Expr}{te:TE}{pos:Pos}
noncomputable def tNext:TS:=fun D σ H=>D.nx σ H
noncomputable def tSeq(t u:TS):TS:=fun D σ H=>t { D with nx:=u D } σ H
theorem pss_nil:PSs X [] tNext:=fun _ _ σ H _ I h=>wpAny_execs_nil ⟨σ,H,I,h⟩
theorem pss_cons(h1:PS X st t)(h2:PSs X rest u):PSs X (st::rest) (tSeq t u):=by
 intro pins s σ H D I h;refine wpAny_execs_cons (thn (h1 pins s σ H { D with nx:=u D } I h) fun f s1 q=>?_);cases f with
 | next=>
   obtain⟨σ',H',I',q⟩:=q;exact h2 pins s1 σ' H' D I' q
 | ret v=>exact q
 | brk=>exact q
 | cont=>exact q
theorem pss_one(h1:PS X st t):PSs X [st] t:=by
 intro pins s σ H D I h;refine wpAny_execs_cons (thn (h1 pins s σ H D I h) fun f s1 q=>?_);cases f with
 | next=>exact wpAny_execs_nil q
 | ret v=>exact q
 | brk=>exact q
 | cont=>exact q
theorem Inv.quiet{pins:List (Addr×Obj)}{σ:St}{H:Hp}{s:Shared}(I:Inv X pins σ H s):interactive X.env=false:=by simp[interactive,I.ok.kind]
noncomputable def tDrop(te:TE):TS:=fun D σ H=>te σ H fun _ H1=>D.nx σ H1
theorem ps_expr(he:PE X e te)(hs:swapsWith e none pos.line X.env=pure false:=by rfl):PS X (.Expr e pos) (tDrop te):=by
 intro pins s σ H D I h;exact wpAny_Expr_any (thn (he pins s σ H _ I h) fun v s1 ⟨x,H1,I1,r1,q1⟩=>⟨σ,H1,I1,q1⟩) I.quiet hs
noncomputable def tRet(te:TE):TS:=fun D σ H=>te σ H D.rt
theorem ps_ret(he:PE X e te):PS X (.Return (some e) pos) (tRet te):=by
 intro pins s σ H D I h;exact wpAny_Return_some (thn (he pins s σ H _ I h) fun v s1 ⟨x,H1,I1,r1,q1⟩=>⟨x,σ,H1,I1,r1,q1⟩)
noncomputable def tIfS(c:TT)(t u:TS):TS:=fun D σ H=>c σ H fun b H1=>if b=true then t D σ H1 else u D σ H1
theorem ps_if{c:Expr}{a b:List Stmt}{tc:TT}(hc:PT X c tc)(ha:PSs X a t)(hb:PSs X b u):PS X (.If c a b pos) (tIfS tc t u):=by
 intro pins s σ H D I h;refine wpAny_If (thn (hc pins s σ H _ I h) fun d s1 zz=>?_);obtain⟨H1,I1,q1⟩:=zz;cases d with
 | true=>exact ha pins s1 σ H1 D I1 q1
 | false=>exact hb pins s1 σ H1 D I1 q1
end
noncomputable abbrev TG:=V->St->Hp->(St->Hp->Prop)->Prop
noncomputable abbrev TGs:=List V->St->Hp->(St->Hp->Prop)->Prop
noncomputable def PG(X:Cx)(target:Expr)(t:TG):Prop:=
 ∀(pins:List (Addr×Obj)) (s:Shared) (σ:St) (H:Hp) (v:V) (u:Value) (Q:St->Hp->Prop),Inv X pins σ H s->RelV v u->t v σ H Q ->
   wpAny (model X.prog X.w) X.A (assign target X.env u) (fun _ s'=>∃ σ' H',Inv X pins σ' H' s'/\Q σ' H') X.xe s
noncomputable def PGs(X:Cx)(ts:List Expr)(t:TGs):Prop:=
 ∀(pins:List (Addr×Obj)) (s:Shared) (σ:St) (H:Hp) (vs:List V) (us:List Value) (Q:St->Hp->Prop),Inv X pins σ H s->Vals vs us->t vs σ H Q ->
   wpAny (model X.prog X.w) X.A (assignInOrder ((assignEach ts X.env).map (·.2)) us) (fun _ s'=>∃ σ' H',Inv X pins σ' H' s'/\Q σ' H') X.xe s
noncomputable abbrev TSet:=V->V->V->Hp->(Hp->Prop)->Prop
noncomputable def PSet(X:Cx)(t:TSet):Prop:=
 ∀(pins:List (Addr×Obj)) (s:Shared) (σ:St) (H:Hp) (o i v:V) (ov iv u:Value) (Q:Hp->Prop),Inv X pins σ H s->RelV o ov->RelV i iv->RelV v u->t o i v H Q ->
   wpAny (model X.prog X.w) X.A (setItem ov iv u) (fun _ s'=>∃ H',Inv X pins σ H' s'/\Q H') X.xe s
section
variable{X:Cx}{pos:Pos}
noncomputable def gName(i:Nat):TG:=fun v σ H Q=>Q (σ.set i (some v)) H
theorem pg_name{i:Nat}{x:Str}(hN:X.N.Nodup)(hi:X.N[i]?=some x)(hx:Loc X.env.scope x)(hf:X.fn x=true∨X.env.scope.names.lookup x=some .local:=by first | exact .inl rfl | exact .inr rfl | assumption):PG X (.Name x pos) (gName i):=by
 intro pins s σ H v u Q I r h;exact wpAny_assign_Name (store_ok I hN hi hx r (fun s' I'=>⟨_,H,I',h⟩) hf)
noncomputable def gNil:TGs:=fun vs σ H Q=>vs=[]/\Q σ H
noncomputable def gCons(t:TG)(u:TGs):TGs:=fun vs σ H Q=>∃ v r,vs=v::r/\t v σ H fun σ' H'=>u r σ' H' Q
theorem pgs_nil:PGs X [] gNil:=by
 intro pins s σ H vs us Q I r h;obtain⟨e,h⟩:=h;subst e;cases r;exact assignInOrder_nil ⟨σ,H,I,h⟩
theorem pgs_cons{e:Expr}{es:List Expr}{t:TG}{u:TGs}(h1:PG X e t)(h2:PGs X es u)
 (hs:(assignEach (e::es) X.env).map (·.2)=assign e X.env::(assignEach es X.env).map (·.2):=by rfl):PGs X (e::es) (gCons t u):=by
 intro pins s σ H vs us Q I r h;obtain⟨v,vr,e1,h⟩:=h;subst e1;cases r with
 | cons r rr=>
   rw[hs];refine assignInOrder_cons (thn (h1 pins s σ H _ _ _ I r h) fun _ s1 zz=>?_);obtain⟨σ1,H1,I1,q1⟩:=zz;exact h2 pins s1 σ1 H1 _ _ Q I1 rr q1
noncomputable def gTup(K:W.Frag)(n:Nat)(t:TGs):TG:=fun v σ H Q=>∃ a xs,v=.ref a/\SqT K H a xs/\xs.length=n/\t xs σ H Q
theorem pg_tup{es:List Expr}{k:Nat}{t:TGs}{n:Nat}(hc:X.calm=true)(h:PGs X es t)
 (hn:(assignEach es X.env).length=n:=by rfl) (hst:(assignEach es X.env).findIdx? (·.1)=none:=by rfl):PG X (.Tuple es k pos) (gTup X.K n t):=by
 intro pins s σ H v u Q I r hw;obtain⟨a,xs,e1,hq,hl,hw⟩:=hw;subst e1;cases r;obtain⟨its,rv,ht,hz⟩:=I.tuple hq;refine assign_Tuple_tuple (I.ok.hd hc) ht (by simp[hn,← hl,rv.length]) hst fun h' hx=>?_
 have I1:Inv X pins σ H { s with heap:=h' }:=I.kept (t':=s.toks) fun b o e=>hx b o (Nat.ne_of_lt (Heap.lt_size e)) e;exact h pins _ σ H xs _ Q I1 (by simpa using rv) hw
noncomputable def gSub(to ti:TE)(t:TSet):TG:=fun v σ H Q=>to σ H fun o H1=>ti σ H1 fun i H2=>t o i v H2 fun H3=>Q σ H3
theorem pg_sub{o i:Expr}{to ti:TE}{t:TSet}(ho:PE X o to)(hi:PE X i ti)(hs:PSet X t)
 (ha:∀ v,assign (.Subscript o i pos) X.env v=(do
  let ov ← holding [v] (eval o X.env)
  let iv ← holding [v,ov] (eval i X.env)
  standAt pos
  holding [v,ov,iv] (setItem ov iv v)
  release [v,ov,iv] []):=by intro _;rfl):PG X (.Subscript o i pos) (gSub to ti t):=by
 intro pins s σ H v u Q I r h;rw[ha];refine wpAny_bind (wpAny_holding (thn (ho pins s σ H _ I h) fun ov s1 zz=>?_));obtain⟨x,H1,I1,r1,q1⟩:=zz;refine wpAny_bind (wpAny_holding (thn (hi pins s1 σ H1 _ I1 q1) fun iv s2 zz=>?_));obtain⟨y,H2,I2,r2,q2⟩:=zz;refine wpAny_bind (wpAny_standAt (wpAny_bind (wpAny_holding (thn (hs pins s2 σ H2 x y v ov iv u _ I2 r1 r2 r q2) fun _ s3 zz=>?_))));obtain⟨H3,I3,q3⟩:=zz;exact wpAny_release ⟨σ,H3,I3,q3⟩
noncomputable def tAsg(te:TE)(g:TG):TS:=fun D σ H=>te σ H fun x H1=>g x σ H1 D.nx
theorem ps_asg{tg e:Expr}{te:TE}{g:TG}(he:PE X e te)(hg:PG X tg g)(hs:swapsWithSole [tg] e pos.line X.env=pure false:=by rfl)(hw:swappedStores [tg] e X.env=pure none:=by rfl)
 (h1:(assignEach [tg] X.env).map (·.2)=[assign tg X.env]:=by rfl):PS X (.Assign [tg] e pos) (tAsg te g):=by
 intro pins s σ H D I h;refine wpAny_Assign_stores (thn (he pins s σ H _ I h) fun v s1 ⟨x,H1,I1,r1,q1⟩=>?_) hs hw;rw[h1];exact thn (hg pins s1 σ H1 x v _ I1 r1 q1) fun _ s2 q=>q
theorem ps_set{i:Nat}{x:Str}{e:Expr}{te:TE}{pos':Pos}(hN:X.N.Nodup)(hi:X.N[i]?=some x)(hx:Loc X.env.scope x)(he:PE X e te)(hs:swapsWith e (some (.Name x pos')) pos.line X.env=pure false:=by rfl)(hf:X.fn x=true∨X.env.scope.names.lookup x=some .local:=by first | exact .inl rfl | exact .inr rfl | assumption) :
 PS X (.Assign [.Name x pos'] e pos) (tAsg te (gName i)):=by
 intro pins s σ H D I h;refine wpAny_Assign_Name (thn (he pins s σ H _ I h) fun v s1 ⟨y,H1,I1,r1,q1⟩=>?_) hs;exact store_ok I1 hN hi hx r1 (fun s2 I2=>⟨_,H1,I2,q1⟩) hf
end
section
variable{X:Cx}{pos:Pos}
end
structure It where
 go:Nat->Hp->Prop
 yld:Nat->Hp->V->Hp->Prop
 stop:Nat->Hp->Prop
noncomputable def FpOk(X:Cx)(pins:List (Addr×Obj))(H:Hp)(b:Addr):Prop:=
 H b=none/\b≠X.env.locals/\b∉X.fs/\(b∈X.ex∨X.s₀.heap.objs.size<=b)/\(∀ x c,X.env.cells.lookup x=some c->c≠b) /\ ∀ p∈X.pn++pins,p.1≠b
theorem Inv.fpOk{X:Cx}{pins:List (Addr×Obj)}{σ:St}{H H':Hp}{s:Shared}{b:Addr}(I:Inv X pins σ H s)(hb:s.heap.objs.size<=b)(hn:H' b=none):FpOk X pins H' b:=by
 refine⟨hn,Nat.ne_of_gt (Nat.lt_of_lt_of_le I.lt hb),I.nofs hb,.inr (Nat.le_trans I.sz hb),fun x c e z=>?_,fun p hp z=>?_⟩
 · obtain⟨v,q⟩:=I.cell x c e
   exact absurd (Nat.lt_of_lt_of_le q.lt (by rw[z];exact hb)) (Nat.lt_irrefl _)
 exact absurd (Nat.lt_of_lt_of_le (Heap.lt_size (I.pin p hp).1) (by rw[z];exact hb)) (Nat.lt_irrefl _)
structure Turn(P:Program)(w:World)(K:W.Frag)(tg:Expr)(J:It)(fp:List Addr)(it:Addr)(tn:Nat->Heap->Prop):Prop where
 mem:it∈fp
 obj:∀ i h,tn i h -> ∀ b∈fp,∃ o,h.get? b=some o /\ ∀ v,o.data ≠ .cell v
 keep:∀ i h h',tn i h->(∀ b∈fp,∀ o,h.get? b=some o->h'.get? b=some o)->tn i h'
 item:∀(X:Cx),X.prog=P->X.w=w->X.K=K->X.calm=true -> ∀(i:Nat) (pins:List (Addr×Obj)) (s:Shared) (σ:St) (H:Hp) (E:Value->Shared->Prop),Inv X pins σ H s->(∀ b∈fp,FpOk X pins H b)->tn i s.heap->J.go i H ->
  wpAny (model P w) X.A (pyNext (.ref it)) (fun r s1=>∃ u,r=some u /\
   wpAny (model P w) X.A (letOwnedTupleGo tg (.ref it) u) (fun _ s2=>∃ x H',Inv X pins σ H' s2/\RelV x u/\J.yld i H x H'/\tn (i+1) s2.heap /\ ∀ b∈fp,H' b=none) E s1) E s
 done:∀(X:Cx),X.prog=P->X.w=w->X.K=K->X.calm=true -> ∀(i:Nat) (pins:List (Addr×Obj)) (s:Shared) (σ:St) (H:Hp) (E:Value->Shared->Prop),Inv X pins σ H s->(∀ b∈fp,FpOk X pins H b)->tn i s.heap->J.stop i H ->
  wpAny (model P w) X.A (pyNext (.ref it)) (fun r s1=>r=none/\Inv X pins σ H s1) E s
 self:∀(A:Around) (i:Nat) (s:Shared) (Q:Value->Shared->Prop) (E:Value->Shared->Prop),tn i s.heap->Q (.ref it) s->wpAny (model P w) A (pyIter (.ref it)) Q E s
noncomputable abbrev TI:=St->Hp->(It->Hp->Prop)->Prop
noncomputable def PIE(X:Cx)(pins:List (Addr×Obj))(σ:St)(tg:Expr)(R:It->Hp->Prop)(itv:Value)(s2:Shared):Prop:=
 ∃(it:Addr) (fp:List Addr) (tn:Nat->Heap->Prop) (J:It) (H':Hp),itv=.ref it/\Inv X pins σ H' s2/\Turn X.prog X.w X.K tg J fp it tn/\tn 0 s2.heap/\(∀ b∈fp,FpOk X pins H' b)/\R J H'
noncomputable def PI(X:Cx)(tg iter:Expr)(wi:TI):Prop:=
 ∀(pins:List (Addr×Obj)) (s:Shared) (σ:St) (H:Hp) (R:It->Hp->Prop),Inv X pins σ H s->wi σ H R ->
   wpAny (model X.prog X.w) X.A (eval iter X.env) (fun v s1=>wpAny (model X.prog X.w) X.A (pyIter v) (PIE X pins σ tg R) X.xe s1) X.xe s
theorem go_of{M:Model}{A:Around}{E:Value->Shared->Prop}{s:Shared}{tg:Expr}{it:Addr}{u:Value}{o:Obj}{n:String}{vs:Array Value}{Q:Unit->Shared->Prop}(ho:s.heap.get? it=some o)(hc:o.cls=.type n)(hd:o.data=.fields vs)
 (hn:["enumerate","zip","dict_itemiterator","dict_reverseitemiterator","odict_iterator","itertools.zip_longest","itertools.pairwise"].contains n=false) (hQ:Q () s):wpAny M A (letOwnedTupleGo tg (.ref it) u) Q E s:=by
 unfold letOwnedTupleGo;cases tg <;> first
  | exact wpAny_pure hQ
  | (cases u <;> first
   | exact wpAny_pure hQ
   | (refine wpAny_bind (wpAny_load ho ?_)
      rw[hc,hd];show wpAny M A (if(["enumerate","zip","dict_itemiterator","dict_reverseitemiterator","odict_iterator","itertools.zip_longest","itertools.pairwise"].contains n && vs[0]? == some (rawInt _))=true then _ else _) Q E s;rw[if_neg (by intro h;rw[hn,Bool.false_and]at h;cases h)]
      exact wpAny_pure hQ))
noncomputable def Itl(K:W.Frag)(a:Addr):It:=
 ⟨fun i H=>∃ xs x,SqL K H a xs/\xs[i]?=some x,fun i H x H'=>H'=H /\ ∀ xs,SqL K H a xs->xs[i]?=some x,fun i H=>∃ xs,SqL K H a xs/\xs.length<=i⟩
noncomputable def Itr(lo:Int)(n:Nat):It:=⟨fun i _=>i < n,fun i H x H'=>H'=H/\x=.int (lo+i),fun i _=>n<=i⟩
theorem turn_list{P:Program}{w:World}{K:W.Frag}{tg:Expr}(a it:Addr):Turn P w K tg (Itl K a) [it] it (fun i h=>h.IsListIter it a i) where
 mem:=by simp
 obj:=fun i h st b hb=>by
  have e:b=it:=by simpa using hb
  subst e;obtain⟨o,e,c,d⟩:=st;exact⟨o,e,fun v z=>by rw[d]at z;cases z⟩
 keep:=fun i h h' st k=>st.at fun o e=>k it (by simp) o e
 item:=by
  intro X hP hw hK hc i pins s σ H E I hf st hg;subst hP hw hK;obtain⟨xs,x,hq,hx⟩:=hg;obtain⟨its,rv,p,hz⟩:=I.list hq;obtain⟨u,hu,ru⟩:=rv.get hx;obtain⟨f0,f1,f2,f3,f4,f5⟩:=hf it (by simp)
  refine wpAny_pyNext_list_item st p.isList (x:=u) (by simpa using hu) fun h' st' sb=>?_
  have I1:Inv X pins σ H { s with heap:=h' }:=I.turned (t':=s.toks) (fun b o hb e=>(sb.2 b hb).trans e) f0 f1 f3 f4 f5;obtain⟨o,e,c,d⟩:=id st';exact⟨u,rfl,go_of (s:={ s with heap:=h' }) e c d (by decide) ⟨x,H,I1,ru,⟨rfl,fun ys hy=>by rw[I.list_inj hy hq];exact hx⟩,st',fun b hb=>(hf b hb).1⟩⟩
 done:=by
  intro X hP hw hK hc i pins s σ H E I hf st hg;subst hP hw hK;obtain⟨xs,hq,hx⟩:=hg;obtain⟨its,rv,p,hz⟩:=I.list hq;obtain⟨f0,f1,f2,f3,f4,f5⟩:=hf it (by simp)
  have hl:=rv.length;exact wpAny_pyNext_list_end (I.ok.hd hc) st p.isList (by simp;omega) fun h' eb=>⟨rfl,I.turned (t':=s.toks) (fun b o hb e=>eb b o hb e) f0 f1 f3 f4 f5⟩
 self:=fun _ _ _ _ _ st h=>wpAny_pyIter_listiter st h
theorem turn_range{P:Program}{w:World}{K:PySem.W.Frag}{tg:Expr}(it:Addr)(lo:Int)(n:Nat):Turn P w K tg (Itr lo n) [it] it (fun i h=>IsRangeIter h it (lo+(i:Nat)*1) ((n:Int) - (i:Nat)) 1) where
 mem:=by simp
 obj:=fun i h st b hb=>by
  have e:b=it:=by simpa using hb
  subst e;exact⟨_,st,fun v z=>by
   have z':Data.fields _=Data.cell v:=z;cases z'⟩
 keep:=fun i h h' st k=>k it (by simp) _ st
 item:=by
  intro X hP hw hK hc i pins s σ H E I hf st hg;subst hP hw hK;obtain⟨f0,f1,f2,f3,f4,f5⟩:=hf it (by simp)
  have W:=Walks.range (prog:=X.prog) (w:=X.w) (I.ok.hd hc) it lo 1 n;refine W.item i s _ _ hg st fun v h' tk hv st' kk=>?_;obtain⟨t,rfl⟩:=hv;have I1:Inv X pins σ H { s with heap:=h',toks:=tk }:=I.turned (fun b o hb e=>kk b o (by simpa using hb) e) f0 f1 f3 f4 f5
  refine⟨_,rfl,go_of (s:={ s with heap:=h',toks:=tk }) (n:="range_iterator") st' rfl rfl (by decide) ⟨.int (lo+i),H,I1,⟨t,?_⟩,⟨rfl,rfl⟩,st',fun b hb=>(hf b hb).1⟩⟩
  rw[Int.mul_one]
 done:=by
  intro X hP hw hK hc i pins s σ H E I hf st hg;subst hP hw hK;obtain⟨f0,f1,f2,f3,f4,f5⟩:=hf it (by simp)
  exact wpAny_pyNext_range_end (I.ok.hd hc) st (by have:n<=i:=hg;omega) fun h' eb=>⟨rfl,I.turned (t':=s.toks) (fun b o hb e=>eb b o hb e) f0 f1 f3 f4 f5⟩
 self:=fun _ _ _ _ _ st h=>wpAny_pyIter_rangeiter st h
end L2
namespace L2
open PySem PySem.Spec PyProof.Rows
section
variable{X:Cx}{tg:Expr}
noncomputable def iList(K:W.Frag)(tl:TE):TI:=fun σ H R=>tl σ H fun x H1=>∃ a,x=.ref a/\(∃ xs,SqL K H1 a xs)/\R (Itl K a) H1
theorem pi_list{l:Expr}{tl:TE}(hl:PE X l tl):PI X tg l (iList X.K tl):=by
 intro pins s σ H R I h;refine thn (hl pins s σ H _ I h) fun v s1 zz=>?_;obtain⟨x,H1,I1,r1,q1⟩:=zz;obtain⟨a,e,⟨xs,hq⟩,q⟩:=q1;subst e;cases r1;obtain⟨its,rv,p,hz⟩:=I1.list hq;refine wpAny_pyIter_list p.isList ?_;refine⟨s1.heap.objs.size,[s1.heap.objs.size],_,_,H1,rfl,I1.kept (t':=s1.toks) fun b o e=>Heap.get?_push_of_some _ e,turn_list a _,⟨_,Heap.get?_push_size _ rfl,rfl,rfl⟩,fun b hb=>?_,q⟩;have e:b=s1.heap.objs.size:=by simpa using hb
 subst e;exact I1.fpOk (Nat.le_refl _) (I1.hok.fresh (Nat.le_refl _))
theorem range_it{pins:List (Addr×Obj)}{σ:St}{H:Hp}{s:Shared}{R:It->Hp->Prop}{E:Value->Shared->Prop}{lo hi:Int}{t u v:Tok}{tk:Nat}(I:Inv X pins σ H s)(h1:-(2 ^ 62)<=lo)(h2:lo < 2 ^ 62)(h3:-(2 ^ 62)<=hi)(h4:hi < 2 ^ 62)
 (q:R (Itr lo (hi - lo).toNat) H):wpAny (model X.prog X.w) X.A (pyIter (.ref s.heap.objs.size)) (PIE X pins σ tg R) E { s with heap:=s.heap.push { cls:=.type "range",data:=.fields #[.int lo t,.int hi u,.int 1 v] },toks:=tk }:=by
 refine wpAny_pyIter_range (IsRange.new ..) (small_one h1 h2 h3 h4) ?_;have I1:Inv X pins σ H { s with heap:=s.heap.push { cls:=.type "range",data:=.fields #[.int lo t,.int hi u,.int 1 v] },toks:=tk }:=I.kept fun b o e=>Heap.get?_push_of_some _ e;refine⟨(s.heap.push { cls:=.type "range",data:=.fields #[.int lo t,.int hi u,.int 1 v] }).objs.size,[(s.heap.push { cls:=.type "range",data:=.fields #[.int lo t,.int hi u,.int 1 v] }).objs.size],_,_,H,rfl,
  I1.kept (t':=tk) fun b o e=>Heap.get?_push_of_some _ e,turn_range _ lo (hi - lo).toNat,?_,fun b hb=>?_,q⟩
 · have e1:lo+((0:Nat):Int)*1=lo:=by simp
   have e2:(((hi - lo).toNat:Nat):Int) - ((0:Nat):Int)=Builtin.Range.rangeSize lo hi 1:=by rw[rangeSize_one];split <;> omega
   show IsRangeIter _ _ (lo+((0:Nat):Int)*1) ((((hi - lo).toNat:Nat):Int) - ((0:Nat):Int)) 1;rw[e1,e2];exact Heap.get?_push_size _ rfl
 have e:b=(s.heap.push { cls:=.type "range",data:=.fields #[.int lo t,.int hi u,.int 1 v] }).objs.size:=by simpa using hb
 subst e;exact I1.fpOk (Nat.le_refl _) (I1.hok.fresh (Nat.le_refl _))
noncomputable def iRng1(ta:TA):TI:=fun σ H R=>ta σ H fun vs H1=>∃ j:Int,vs=[.int j] /\ -(2 ^ 62)<=j/\j < 2 ^ 62/\R (Itr 0 j.toNat) H1
theorem pi_range1{a:Expr}{ta:TA}{p pos:Pos}(hg:Gl X "range")(hm:X.mg "range"=none)(ha:PA X [a] ta)(hs:starEach [a] X.env=[(false,eval a X.env)]:=by rfl):PI X tg (.Call (.Name "range" p) [a] [] pos) (iRng1 ta):=by
 intro pins s σ H R I h;refine Call_ (ld_blt I hg hm boot_range (PyProof.Rows.callWith_type1 (thn (ha pos pins s σ H _ I h) fun us s1 ⟨vs,H1,I1,r1,q1⟩=>?_) hs rfl));obtain⟨j,e,q1,q2,q⟩:=q1;subst e;cases r1 with
 | cons r rr=>
   cases rr;obtain⟨t,rfl⟩:=r;exact call_range_1 (range_it I1 (by omega) (by omega) q1 q2 (by simpa using q))
noncomputable def tFor(wi:TI)(g:TG)(tb:TS):TS:=fun D σ H=>wi σ H fun J H1=>∃ W:Nat->Nat->St->Hp->Prop,(∃ m,W 0 m σ H1) /\ ∀ i m σ H,W i m σ H ->
 (J.stop i H/\D.nx σ H)∨(J.go i H /\ ∃ N:St->Hp->Prop,(∀ σ' H',N σ' H' -> ∃ m',m' < m/\W (i+1) m' σ' H') /\ ∀ x H',J.yld i H x H'->g x σ H' fun σ2 H2=>tb { D with nx:=N,ct:=N,bk:=D.nx } σ2 H2)
noncomputable def pinsAt(fp:List Addr)(h:Heap):List (Addr×Obj):=fp.filterMap fun b=>(h.get? b).map fun o=>(b,o)
theorem mem_pinsAt{fp:List Addr}{h:Heap}{b:Addr}{o:Obj}(hb:b∈fp)(e:h.get? b=some o):(b,o)∈pinsAt fp h:=List.mem_filterMap.mpr ⟨b,hb,by rw[e];rfl⟩
theorem of_pinsAt{fp:List Addr}{h:Heap}{p:Addr×Obj}(hp:p∈pinsAt fp h):p.1∈fp/\h.get? p.1=some p.2:=by
 obtain⟨b,hb,e⟩:=List.mem_filterMap.mp hp;cases q:h.get? b with
 | none=>rw[q]at e;cases e
 | some o=>
   rw[q]at e;have e':(b,o)=p:=Option.some.inj e;subst e';exact⟨hb,q⟩
theorem Inv.pinned{pins:List (Addr×Obj)}{σ:St}{H:Hp}{s:Shared}{fp:List Addr}(I:Inv X pins σ H s)(hf:∀ b∈fp,FpOk X pins H b)(ho:∀ b∈fp,∃ o,s.heap.get? b=some o /\ ∀ v,o.data ≠ .cell v):Inv X (pins++pinsAt fp s.heap) σ H s:=
 I.pins_of fun p hp=>(List.mem_append.mp hp).elim (fun z=>I.pin p (List.mem_append_right _ z)) fun z=>by
  obtain⟨hb,e⟩:=of_pinsAt z;obtain⟨f0,f1,f2,_⟩:=hf p.1 hb;obtain⟨o,e',d⟩:=ho p.1 hb;rw[e]at e';cases e';exact⟨e,f0,f1,f2,d⟩
theorem Inv.unpinned{pins pl:List (Addr×Obj)}{σ:St}{H:Hp}{s:Shared}(I:Inv X (pins++pl) σ H s):Inv X pins σ H s:=I.pins_of fun p hp=>I.pin p (List.mem_append_right _ (List.mem_append_left _ hp))
theorem ps_for{iter:Expr}{body:List Stmt}{wi:TI}{g:TG}{tb:TS}{pos:Pos}(hp:PassesOwn (model X.prog X.w) X.A X.env X.xe)(hc:X.calm=true)(hi:PI X tg iter wi)(hg:PG X tg g)(hb:PSs X body tb)
 (hs:∀ x,foldedSetIterable iter X.env x=pure x:=by intro _;rfl):PS X (.For tg iter body [] pos) (tFor wi g tb):=by
 intro pins s σ H D I h;refine wpAny_For (thn (hi pins s σ H _ I h) fun v s1 h1=>thn h1 fun itv s2 h2=>?_) hs;obtain⟨it,fp,tn,J,H2,e,I2,T,st2,f2,W,⟨m0,w0⟩,turn⟩:=h2;subst e
 -- what stays true of the iterator's objects through the loop
 have stat:∀{H':Hp},(∀ b∈fp,H' b=none) -> ∀ b∈fp,FpOk X pins H' b:=fun hn b hb=>⟨hn b hb,(f2 b hb).2⟩;refine codeAny_forLoop_any (fun n s'=>∃ i σ' H',Inv X pins σ' H' s'/\tn i s'.heap/\(∀ b∈fp,H' b=none)/\W i n σ' H') ?_ m0 ⟨0,σ,H2,I2,st2,fun b hb=>(f2 b hb).1,w0⟩;rintro n s3 ⟨i,σ3,H3,I3,st3,fr3,w3⟩;rcases turn i n σ3 H3 w3 with ⟨stop,qn⟩ | ⟨go,N,hN,step⟩
 · refine wpAny_passesOwn hp (thn (T.done X rfl rfl rfl hc i pins s3 σ3 H3 X.xe I3 (stat fr3) st3 stop) fun r s4 zz=>?_)
   obtain⟨hr,I4⟩:=zz;subst hr;exact wpAny_execs_nil ⟨σ3,H3,I4,qn⟩
 refine wpAny_passesOwn hp (thn (T.item X rfl rfl rfl hc i pins s3 σ3 H3 X.xe I3 (stat fr3) st3 go) fun r s4 zz=>?_);obtain⟨u,hr,h4⟩:=zz;subst hr;refine wpAny_passesOwn hp (thn h4 fun _ s5 zz=>?_);obtain⟨x,H5,I5,r5,y5,st5,fr5⟩:=zz;have I5':=I5.pinned (stat fr5) (T.obj _ _ st5);refine wpAny_passesOwn hp (thn (hg _ s5 σ3 H5 x u _ I5' r5 (step x H5 y5)) fun _ s6 zz=>?_);obtain⟨σ6,H6,I6,q6⟩:=zz;refine wpAny_passesOwn hp (thn (hb _ s6 σ6 H6 _ I6 q6) fun f s7 q7=>?_);have again:∀{σ7:St}{H7:Hp},Inv X (pins++pinsAt fp s5.heap) σ7 H7 s7->N σ7 H7 -> ∃ m,m < n /\ ∃ i σ' H',Inv X pins σ' H' s7/\tn i s7.heap/\(∀ b∈fp,H' b=none)/\W i m σ' H':=fun {σ7 H7} I7 n7=>by
  obtain⟨m',hm,w7⟩:=hN σ7 H7 n7;refine⟨m',hm,i+1,σ7,H7,I7.unpinned,T.keep _ _ _ st5 fun b hb o e=>(I7.pin (b,o) (List.mem_append_right _ (List.mem_append_right _ (mem_pinsAt hb e)))).1,fun b hb=>?_,w7⟩;obtain⟨o,e,d⟩:=T.obj _ _ st5 b hb;exact(I7.pin (b,o) (List.mem_append_right _ (List.mem_append_right _ (mem_pinsAt hb e)))).2.1
 cases f with
 | next=>obtain⟨σ7,H7,I7,n7⟩:=q7;exact again I7 n7
 | cont=>obtain⟨σ7,H7,I7,n7⟩:=q7;exact again I7 n7
 | brk=>obtain⟨σ7,H7,I7,q7⟩:=q7;exact⟨σ7,H7,I7.unpinned,q7⟩
 | ret v=>obtain⟨x7,σ7,H7,I7,r7,q7⟩:=q7;exact⟨x7,σ7,H7,I7.unpinned,r7,q7⟩
end
theorem for_list{K:PySem.W.Frag}{a:Addr}{xs:List V}{g:TG}{tb:TS}{D:Ends}{σ:St}{H:Hp}(Pv:Nat->St->Hp->Prop)(h0:Pv 0 σ H)(hl:∀ i σ H,i<=xs.length->Pv i σ H->SqL K H a xs)
 (hs:∀ i x σ H,xs[i]?=some x->Pv i σ H->g x σ H fun σ2 H2=>tb { D with nx:=Pv (i+1),ct:=Pv (i+1),bk:=D.nx } σ2 H2) (hd:∀ σ H,Pv xs.length σ H->D.nx σ H) :
 ∃ W:Nat->Nat->St->Hp->Prop,(∃ m,W 0 m σ H) /\ ∀ i m σ H,W i m σ H ->
   ((Itl K a).stop i H/\D.nx σ H)∨((Itl K a).go i H /\ ∃ N:St->Hp->Prop,(∀ σ' H',N σ' H' -> ∃ m',m' < m/\W (i+1) m' σ' H') /\ ∀ x H',(Itl K a).yld i H x H'->g x σ H' fun σ2 H2=>tb { D with nx:=N,ct:=N,bk:=D.nx } σ2 H2):=by
 refine⟨fun i m σ H=>m=xs.length - i/\i<=xs.length/\Pv i σ H,⟨xs.length,by simp,Nat.zero_le _,h0⟩,?_⟩
 rintro i m σ H ⟨rfl,hi,p⟩;have q:=hl i σ H hi p;by_cases hlt:i < xs.length
 · refine .inr ⟨⟨xs,xs[i],q,by simp[hlt]⟩,Pv (i+1),fun σ' H' p'=>⟨xs.length - (i+1),by omega,rfl,hlt,p'⟩,fun x H' y=>?_⟩
   obtain⟨e,y⟩:=y;subst e;exact hs i x σ _ (y xs q) p
 have e:i=xs.length:=by omega
 subst e;exact .inl ⟨⟨xs,q,Nat.le_refl _⟩,hd σ H p⟩
theorem for_range{lo:Int}{n:Nat}{g:TG}{tb:TS}{D:Ends}{σ:St}{H:Hp}(Pv:Nat->St->Hp->Prop)(h0:Pv 0 σ H)
 (hs:∀ i σ H,i < n->Pv i σ H->g (.int (lo+i)) σ H fun σ2 H2=>tb { D with nx:=Pv (i+1),ct:=Pv (i+1),bk:=D.nx } σ2 H2) (hd:∀ σ H,Pv n σ H->D.nx σ H) :
 ∃ W:Nat->Nat->St->Hp->Prop,(∃ m,W 0 m σ H) /\ ∀ i m σ H,W i m σ H ->
   ((Itr lo n).stop i H/\D.nx σ H)∨((Itr lo n).go i H /\ ∃ N:St->Hp->Prop,(∀ σ' H',N σ' H' -> ∃ m',m' < m/\W (i+1) m' σ' H') /\ ∀ x H',(Itr lo n).yld i H x H'->g x σ H' fun σ2 H2=>tb { D with nx:=N,ct:=N,bk:=D.nx } σ2 H2):=by
 refine⟨fun i m σ H=>m=n - i/\i<=n/\Pv i σ H,⟨n,by simp,Nat.zero_le _,h0⟩,?_⟩
 rintro i m σ H ⟨rfl,hi,p⟩;by_cases hlt:i < n
 · refine .inr ⟨hlt,Pv (i+1),fun σ' H' p'=>⟨n - (i+1),by omega,rfl,hlt,p'⟩,fun x H' y=>?_⟩
   obtain⟨e,y⟩:=y;subst e y;exact hs i σ _ hlt p
 have e:i=n:=by omega
 subst e;exact .inl ⟨Nat.le_refl _,hd σ H p⟩
end L2
namespace L2
open PySem PySem.Spec PyProof.Rows
noncomputable abbrev R2:=V->V->Hp->VK->Prop
noncomputable def OpR(X:Cx)(f:Value->Value->Sem Value)(r:R2):Prop:=
 ∀(pins:List (Addr×Obj)) (s:Shared) (σ:St) (H:Hp) (x y:V) (v u:Value) (Q:VK),Inv X pins σ H s->RelV x v->RelV y u->r x y H Q ->
   wpAny (model X.prog X.w) X.A (f v u) (EP X pins σ Q) X.xe s
noncomputable def CallR(X:Cx)(f:Value)(r:List V->Hp->VK->Prop):Prop:=
 ∀(pins:List (Addr×Obj)) (s:Shared) (σ:St) (H:Hp) (xs:List V) (us:List Value) (Q:VK),Inv X pins σ H s->Vals xs us->r xs H Q ->
   wpAny (model X.prog X.w) X.A (call f us) (EP X pins σ Q) X.xe s
noncomputable def tOp(r:R2)(ta tb:TE):TE:=fun σ H Q=>ta σ H fun x H1=>tb σ H1 fun y H2=>r x y H2 Q
noncomputable def rI(C:Int->Int->Prop)(g:Int->Int->V):R2:=fun x y H Q=>∃ i j,x=.int i/\y=.int j/\C i j/\Q (g i j) H
noncomputable def rI0(g:Int->Int->V):R2:=fun x y H Q=>∃ i j,x=.int i/\y=.int j/\Q (g i j) H
section
variable{X:Cx}{a b c:Expr}{ta tb tc:TE}{pos:Pos}
theorem binT(ha:PE X a ta)(hb:PE X b tb){pins:List (Addr×Obj)}{s:Shared}{σ:St}{H:Hp}{R:V->V->Hp->Prop}(I:Inv X pins σ H s)
 (h:ta σ H fun x H1=>tb σ H1 fun y H2=>R x y H2) {Q:Value->Shared->Prop}{f:Value->Value->Sem Value}
 (hf:∀ v u s2 x y H2,Inv X pins σ H2 s2->RelV x v->RelV y u->R x y H2->wpAny (model X.prog X.w) X.A (f v u) Q X.xe s2) :
 wpAny (model X.prog X.w) X.A (eval a X.env) (fun v s₁=>wpAny (model X.prog X.w) X.A (eval b X.env) (fun u s₂=>wpAny (model X.prog X.w) X.A (f v u) Q X.xe s₂) X.xe s₁) X.xe s:=by
 refine thn (ha pins s σ H _ I h) fun v s1 zz=>?_;obtain⟨x,H1,I1,r1,q1⟩:=zz;refine thn (hb pins s1 σ H1 _ I1 q1) fun u s2 zz=>?_;obtain⟨y,H2,I2,r2,q2⟩:=zz;exact hf v u s2 x y H2 I2 r1 r2 q2
theorem pe_op{op:Operator}{r:R2}(ho:OpR X (binaryOp op) r)(ha:PE X a ta)(hb:PE X b tb):PE X (.BinOp a op b pos) (tOp r ta tb):=by
 intro pins s σ H Q I h;exact wpAny_BinOp (binT ha hb I h fun v u s2 x y H2 I2 rx ry q=>ho pins s2 σ H2 x y v u Q I2 rx ry q)
theorem opI{f:Value->Value->Sem Value}{C:Int->Int->Prop}{g:Int->Int->Int}
 (rule:∀(i j:Int) (t u:Tok) (s:Shared) (Q:Value->Shared->Prop) (E:Value->Shared->Prop),C i j->Q (.int (g i j) s.toks) { s with toks:=s.toks+1 } -> wpAny (model X.prog X.w) X.A (f (.int i t) (.int j u)) Q E s) :
 OpR X f (rI C fun i j=>.int (g i j)):=by
 intro pins s σ H x y v u Q I rx ry h;obtain⟨i,j,rfl,rfl,hc,q⟩:=h;obtain⟨t,rfl⟩:=rx;obtain⟨t',rfl⟩:=ry;exact rule i j t t' s _ _ hc ⟨.int (g i j),H,I.tok _,⟨_,rfl⟩,q⟩
theorem opI0{f:Value->Value->Sem Value}{g:Int->Int->Int}
 (rule:∀(i j:Int) (t u:Tok) (s:Shared) (Q:Value->Shared->Prop) (E:Value->Shared->Prop),Q (.int (g i j) s.toks) { s with toks:=s.toks+1 } -> wpAny (model X.prog X.w) X.A (f (.int i t) (.int j u)) Q E s) :
 OpR X f (rI0 fun i j=>.int (g i j)):=by
 intro pins s σ H x y v u Q I rx ry h;obtain⟨i,j,rfl,rfl,q⟩:=h;obtain⟨t,rfl⟩:=rx;obtain⟨t',rfl⟩:=ry;exact rule i j t t' s _ _ ⟨.int (g i j),H,I.tok _,⟨_,rfl⟩,q⟩
theorem opB0{f:Value->Value->Sem Value}{g:Int->Int->Bool}
 (rule:∀(i j:Int) (t u:Tok) (s:Shared) (Q:Value->Shared->Prop) (E:Value->Shared->Prop),Q (.bool (g i j)) s->wpAny (model X.prog X.w) X.A (f (.int i t) (.int j u)) Q E s) :
 OpR X f (rI0 fun i j=>.bl (g i j)):=by
 intro pins s σ H x y v u Q I rx ry h;obtain⟨i,j,rfl,rfl,q⟩:=h;obtain⟨t,rfl⟩:=rx;obtain⟨t',rfl⟩:=ry;exact rule i j t t' s _ _ ⟨.bl (g i j),H,I,rfl,q⟩
noncomputable def CPow(i j:Int):Prop:=0<=j/\j<=1000000/\i.natAbs < 2 ^ 64
noncomputable def CMul(i j:Int):Prop:=(-(2 ^ 64) < i/\i < 2 ^ 64)∨(-(2 ^ 64) < j/\j < 2 ^ 64)
theorem CMul.ok{i j:Int}(h:CMul i j):IntMulOk i j:=by
 rcases h with ⟨h1,h2⟩ | ⟨h1,h2⟩
 · exact .of_left (intBits_le_64 h1 h2)
 exact .of_right (intBits_le_64 h1 h2)
theorem two_pow_nn(k:Nat):(0:Int)<=2 ^ k:=by
 rw[two_pow_cast];exact Int.natCast_nonneg _
theorem op_add:OpR X (binaryOp .Add) (rI0 fun i j=>.int (i+j)):=opI0 fun _ _ _ _ _ _ _ q=>add_int q
theorem op_sub:OpR X (binaryOp .Sub) (rI0 fun i j=>.int (i - j)):=opI0 fun _ _ _ _ _ _ _ q=>sub_int q
theorem op_mul:OpR X (binaryOp .Mult) (rI CMul fun i j=>.int (i*j)):=opI fun _ _ _ _ _ _ _ hc q=>mul_int q hc.ok
theorem op_mod:OpR X (binaryOp .Mod) (rI (fun _ j=>0 < j) fun i j=>.int (i % j)):=opI fun i j _ _ _ _ _ hc q=>by
 have h1:(0:Int) < j:=hc;exact mod_int' (by omega) (by rw[Int.fmod_eq_emod_of_nonneg i (by omega)];exact q)
theorem op_pow:OpR X (binaryOp .Pow) (rI CPow fun i j=>.int (i ^ j.toNat)):=opI fun _ _ _ _ _ _ _ hc q=>pow_int_small hc.1 hc.2.1 hc.2.2 q
theorem op_shr:OpR X (binaryOp .RShift) (rI (fun _ j=>0<=j) fun i j=>.int (i / 2 ^ j.toNat)):=opI fun i j _ _ _ _ _ hc q=>
 rshift_int hc (by rw[Int.fdiv_eq_ediv_of_nonneg i (two_pow_nn _)];exact q)
end
noncomputable def scal:V->V->Bool
 | .non,.non=>true | .non,.int _=>true | .int _,.non=>true | .non,.bl _=>true | .bl _,.non=>true | .non,.str _=>true | .str _,.non=>true
 | .int _,.int _=>true | .bl _,.bl _=>true | .str _,.str _=>true | .byt _,.byt _=>true
 | .int _,.str _=>true | .str _,.int _=>true | .bl _,.str _=>true | .str _,.bl _=>true
 | _,_=>false
noncomputable def rEq:R2:=fun x y H Q=>scal x y=true/\Q (.bl (decide (x=y))) H
noncomputable def rNe:R2:=fun x y H Q=>scal x y=true/\Q (.bl (!decide (x=y))) H
theorem dec_int{i j:Int}:decide (V.int i=V.int j)=(i == j):=by
 rw[Bool.eq_iff_iff];simp
theorem dec_bl{i j:Bool}:decide (V.bl i=V.bl j)=(i == j):=by
 rw[Bool.eq_iff_iff];simp
theorem dec_str{i j:Str}:decide (V.str i=V.str j)=(i == j):=by
 rw[Bool.eq_iff_iff];simp
theorem dec_byt{i j:Array UInt8}:decide (V.byt i=V.byt j)=(i.toList == j.toList):=by
 rw[Bool.eq_iff_iff];cases i;cases j;simp
section
variable{X:Cx}{a b c:Expr}{ta tb tc:TE}{pos:Pos}
theorem fin_bl{pins:List (Addr×Obj)}{σ:St}{H:Hp}{s:Shared}{Q:VK}{k k':Bool}(I:Inv X pins σ H s)(q:Q (.bl k) H)(e:k=k'):EP X pins σ Q (.bool k') s:=by
 subst e;exact⟨.bl k,H,I,rfl,q⟩
theorem op_eq:OpR X (compareOp .Eq) rEq:=by
 intro pins s σ H x y v u Q I rx ry h;obtain⟨hs,q⟩:=h;cases x with
 | non=>
   cases rx;cases y with
   | non=>cases ry;exact PySem.EqNone.eq_none_none (fin_bl I q (by simp))
   | bl j=>cases ry;exact PySem.EqNone.eq_none_bool (fin_bl I q (by simp))
   | int j=>obtain⟨t',rfl⟩:=ry;exact PySem.EqNone.eq_none_int (fin_bl I q (by simp))
   | str j=>obtain⟨t',rfl⟩:=ry;exact PySem.EqNone.eq_none_str (fin_bl I q (by simp))
   | _=>exact absurd (show false=true from hs) Bool.false_ne_true
 | bl i=>
   cases rx;cases y with
   | non=>cases ry;exact PySem.EqNone.eq_bool_none (fin_bl I q (by simp))
   | bl j=>cases ry;exact eq_bool (fin_bl I q dec_bl)
   | str j=>obtain⟨t',rfl⟩:=ry;exact PySem.EqMixed.eq_bool_str (fin_bl I q (by simp))
   | _=>exact absurd (show false=true from hs) Bool.false_ne_true
 | int i=>
   obtain⟨t,rfl⟩:=rx;cases y with
   | non=>cases ry;exact PySem.EqNone.eq_int_none (fin_bl I q (by simp))
   | int j=>obtain⟨t',rfl⟩:=ry;exact eq_int (fin_bl I q dec_int)
   | str j=>obtain⟨t',rfl⟩:=ry;exact PySem.EqMixed.eq_int_str (fin_bl I q (by simp))
   | _=>exact absurd (show false=true from hs) Bool.false_ne_true
 | str i=>
   obtain⟨t,rfl⟩:=rx;cases y with
   | non=>cases ry;exact PySem.EqNone.eq_str_none (fin_bl I q (by simp))
   | bl j=>cases ry;exact PySem.EqMixed.eq_str_bool (fin_bl I q (by simp))
   | int j=>obtain⟨t',rfl⟩:=ry;exact PySem.EqMixed.eq_str_int (fin_bl I q (by simp))
   | str j=>obtain⟨t',rfl⟩:=ry;exact eq_str (fin_bl I q dec_str)
   | _=>exact absurd (show false=true from hs) Bool.false_ne_true
 | byt i=>
   obtain⟨t,rfl⟩:=rx;cases y with
   | byt j=>obtain⟨t',rfl⟩:=ry;exact W.eq_bytes (fin_bl I q dec_byt)
   | _=>exact absurd (show false=true from hs) Bool.false_ne_true
 | _=>cases y <;> exact absurd (show false=true from hs) Bool.false_ne_true
theorem op_ne:OpR X (compareOp .NotEq) rNe:=by
 intro pins s σ H x y v u Q I rx ry h;obtain⟨hs,q⟩:=h;cases x with
 | non=>
   cases rx;cases y with
   | non=>cases ry;exact PySem.EqNone.ne_none_none (fin_bl I q (by simp))
   | bl j=>cases ry;exact PySem.EqNone.ne_none_bool (fin_bl I q (by simp))
   | int j=>obtain⟨t',rfl⟩:=ry;exact PySem.EqNone.ne_none_int (fin_bl I q (by simp))
   | str j=>obtain⟨t',rfl⟩:=ry;exact PySem.EqNone.ne_none_str (fin_bl I q (by simp))
   | _=>exact absurd (show false=true from hs) Bool.false_ne_true
 | bl i=>
   cases rx;cases y with
   | non=>cases ry;exact PySem.EqNone.ne_bool_none (fin_bl I q (by simp))
   | bl j=>cases ry;exact ne_bool (fin_bl I q (congrArg not dec_bl))
   | str j=>obtain⟨t',rfl⟩:=ry;exact PySem.EqMixed.ne_bool_str (fin_bl I q (by simp))
   | _=>exact absurd (show false=true from hs) Bool.false_ne_true
 | int i=>
   obtain⟨t,rfl⟩:=rx;cases y with
   | non=>cases ry;exact PySem.EqNone.ne_int_none (fin_bl I q (by simp))
   | int j=>obtain⟨t',rfl⟩:=ry;exact ne_int (fin_bl I q (congrArg not dec_int))
   | str j=>obtain⟨t',rfl⟩:=ry;exact PySem.EqMixed.ne_int_str (fin_bl I q (by simp))
   | _=>exact absurd (show false=true from hs) Bool.false_ne_true
 | str i=>
   obtain⟨t,rfl⟩:=rx;cases y with
   | non=>cases ry;exact PySem.EqNone.ne_str_none (fin_bl I q (by simp))
   | bl j=>cases ry;exact PySem.EqMixed.ne_str_bool (fin_bl I q (by simp))
   | int j=>obtain⟨t',rfl⟩:=ry;exact PySem.EqMixed.ne_str_int (fin_bl I q (by simp))
   | str j=>obtain⟨t',rfl⟩:=ry;exact ne_str (fin_bl I q (congrArg not dec_str))
   | _=>exact absurd (show false=true from hs) Bool.false_ne_true
 | byt i=>
   obtain⟨t,rfl⟩:=rx;cases y with
   | byt j=>obtain⟨t',rfl⟩:=ry;exact W.ne_bytes (fin_bl I q (congrArg not dec_byt))
   | _=>exact absurd (show false=true from hs) Bool.false_ne_true
 | _=>cases y <;> exact absurd (show false=true from hs) Bool.false_ne_true
theorem op_lt:OpR X (compareOp .Lt) (rI0 fun i j=>.bl (decide (i < j))):=opB0 fun _ _ _ _ _ _ _ q=>lt_int q
theorem op_le:OpR X (compareOp .LtE) (rI0 fun i j=>.bl (decide (i<=j))):=opB0 fun _ _ _ _ _ _ _ q=>le_int q
theorem op_ge:OpR X (compareOp .GtE) (rI0 fun i j=>.bl (decide (j<=i))):=opB0 fun _ _ _ _ _ _ _ q=>ge_int q
theorem nomark(b:Expr){op:CmpOp}(h:op ≠ .In:=by decide)(h2:op ≠ .NotIn:=by decide):behindInMarks op b=false:=by
 have e1:(op == CmpOp.In)=false:=by cases op <;> first | rfl | exact absurd rfl h
 have e2:(op == CmpOp.NotIn)=false:=by cases op <;> first | rfl | exact absurd rfl h2
 cases b <;> simp[behindInMarks,e1,e2]
theorem pe_cmpR{op:CmpOp}{r:R2}(ho:OpR X (compareOp op) r)(ha:PE X a ta)(hb:PE X b tb)(hm:behindInMarks op b=false):PE X (.Compare a [op] [b] pos) (tOp r ta tb):=by
 intro pins s σ H Q I h;exact wpAny_Compare1 (binT ha hb I h fun v u s2 x y H2 I2 rx ry q=>ho pins s2 σ H2 x y v u Q I2 rx ry q) hm
noncomputable def tTest(t:TE):TT:=fun σ H Q=>t σ H fun x H'=>∃ k,x=.bl k/\Q k H'
theorem pt_cmpR{op:CmpOp}{r:R2}(ho:OpR X (compareOp op) r)(ha:PE X a ta)(hb:PE X b tb)(hm:behindInMarks op b=false):PT X (.Compare a [op] [b] pos) (tTest (tOp r ta tb)):=by
 intro pins s σ H Q I h;refine wpAny_isTrue_Compare1 (thn (ha pins s σ H _ I h) fun v s1 ⟨x,H1,I1,r1,q1⟩=>thn (hb pins s1 σ H1 _ I1 q1) fun u s2 ⟨y,H2,I2,r2,q2⟩=>
  thn (ho pins s2 σ H2 x y v u _ I2 r1 r2 q2) fun c s3 ⟨z,H3,I3,r3,k,e,q3⟩=>?_) hm
 subst e;cases r3;exact wpAny_truthy_bool ⟨H3,I3,q3⟩
noncomputable def tChain(r r':R2)(ta tb tc:TE):TE:=fun σ H Q=>ta σ H fun x H1=>tb σ H1 fun y H2=>r x y H2 fun z H3=>∃ k,z=.bl k /\
 (if k=true then tc σ H3 fun w' H4=>r' y w' H4 Q else Q (.bl false) H3)
theorem pe_chain{op op':CmpOp}{r r':R2}(ho:OpR X (compareOp op) r)(ho':OpR X (compareOp op') r')(ha:PE X a ta)(hb:PE X b tb)(hc:PE X c tc)
 (hm:lastMarks [op,op'] [b,c]=false:=by with_unfolding_all rfl):PE X (.Compare a [op,op'] [b,c] pos) (tChain r r' ta tb tc):=by
 intro pins s σ H Q I h;refine Compare_chain (thn (ha pins s σ H _ I h) fun v s1 ⟨x,H1,I1,r1,q1⟩=>chain_link (thn (hb pins s1 σ H1 _ I1 q1) fun u s2 ⟨y,H2,I2,r2,q2⟩=>
  thn (ho pins s2 σ H2 x y v u _ I2 r1 r2 q2) fun d s3 ⟨z,H3,I3,r3,k,e,q3⟩=>?_)) hm
 subst e;cases r3;refine wpAny_truthy_bool ?_;cases k with
 | false=>exact ite_ff ⟨.bl false,H3,I3,rfl,q3⟩
 | true=>exact ite_tt (chain_last (thn (hc pins s3 σ H3 _ I3 q3) fun w' s4 ⟨z',H4,I4,r4,q4⟩=>ho' pins s4 σ H4 y z' u w' Q I4 r2 r4 q4))
theorem pt_chain{op op':CmpOp}{r r':R2}(ho:OpR X (compareOp op) r)(ho':OpR X (compareOp op') r')(ha:PE X a ta)(hb:PE X b tb)(hc:PE X c tc)
 (hm:lastMarks [op,op'] [b,c]=false:=by with_unfolding_all rfl):PT X (.Compare a [op,op'] [b,c] pos) (tTest (tChain r r' ta tb tc)):=by
 intro pins s σ H Q I h;refine isTrue_chain (thn (ha pins s σ H _ I h) fun v s1 ⟨x,H1,I1,r1,q1⟩=>test_link (thn (hb pins s1 σ H1 _ I1 q1) fun u s2 ⟨y,H2,I2,r2,q2⟩=>
  thn (ho pins s2 σ H2 x y v u _ I2 r1 r2 q2) fun d s3 ⟨z,H3,I3,r3,k,e,q3⟩=>?_)) hm
 subst e;cases r3;refine wpAny_truthy_bool ?_;cases k with
 | false=>
   obtain⟨k',e',q'⟩:=q3;cases e';exact ite_ff ⟨H3,I3,q'⟩
 | true=>
   refine ite_tt (test_last (thn (hc pins s3 σ H3 _ I3 q3) fun w' s4 ⟨z',H4,I4,r4,q4⟩=>thn (ho' pins s4 σ H4 y z' u w' _ I4 r2 r4 q4) fun d' s5 zz=>?_));obtain⟨z2,H5,I5,r5,k2,e2,q5⟩:=zz;subst e2;cases r5;exact wpAny_truthy_bool ⟨H5,I5,q5⟩
theorem line63:(sizeLine:Nat) < 2 ^ 63:=by rw[sizeLine_eq];decide
theorem vals1{x:V}{us:List Value}(r:Vals [x] us):∃ u,us=[u]/\RelV x u:=by
 cases r with
 | cons r1 r2=>cases r2;exact⟨_,rfl,r1⟩
theorem call_int1:CallR X (.type "int") (fun xs H Q=>(∃ i,xs=[.int i]/\Q (.int i) H) ∨ ∃ k,xs=[.bl k]/\Q (.int (if k then 1 else 0)) H):=by
 intro pins s σ H xs us Q I r h;rcases h with ⟨i,rfl,q⟩ | ⟨k,rfl,q⟩
 · obtain⟨u,rfl,t,rfl⟩:=vals1 r
   exact call_int_int ⟨.int i,H,I,⟨_,rfl⟩,q⟩
 obtain⟨u,rfl,r1⟩:=vals1 r;cases r1;exact call_int_bool ⟨.int (if k then 1 else 0),H,I.tok _,⟨_,rfl⟩,q⟩
end
end L2
namespace L2
open PySem PySem.Spec PyProof.Rows
section
variable{prog:Program}{w:World}{A:Around}{E:Value->Shared->Prop}{s:Shared}{K:W.Frag}{x dx C f:Addr}{mA:Str->Option Value}{name:Str}{v:Value}
end
section
variable{P:Program}{w:World}{H H':Hp}{h h':Heap}{a C dx:Addr}{fs fs':List (Str×V)}
end
section
variable{X:Cx}{pins:List (Addr×Obj)}{σ:St}{H:Hp}{s:Shared}{a C dx:Addr}{fs:List (Str×V)}{f:Str}{v:V}{A:Around}{E:Value->Shared->Prop}
end
section
variable{X:Cx}{o e value:Expr}{f:Str}{pos pos' tpos:Pos}{ta tv:TE}
end
section
variable{X:Cx}{pins:List (Addr×Obj)}{σ:St}{H:Hp}{s:Shared}{A:Around}{E:Value->Shared->Prop}{Q:Value->Shared->Prop}{c:Value}{b:Bool}
end
end L2
namespace L2
open PySem PySem.Spec PyProof.Rows
structure Room(k:Nat)(A:Around):Prop where
 hd:A.handled=none
 dp:A.depth+3*k+5 < recursionLimit
 un:A.units+16*k+200 < cLine
theorem Room.mono{j k:Nat}{A:Around}(r:Room k A)(h:j<=k):Room j A:=⟨r.hd,by have:=r.dp;omega,by have:=r.un;omega⟩
theorem Room.up{j k:Nat}{A:Around}(r:Room k A)(h:j<=k:=by first | decide | omega):Room j A:=r.mono h
theorem Room.deeper{k:Nat}{A:Around}(r:Room (k+1) A)(env:Env):Room k (A.deeper env):=
 ⟨r.hd,by have:=r.dp;show A.depth+1+3*k+5 < _;omega,by have:=r.un;show A.units+3+16*k+200 < _;omega⟩
theorem Room.depth{k:Nat}{A:Around}(r:Room k A):A.depth < recursionLimit:=by have:=r.dp;omega
theorem Room.units{k:Nat}{A:Around}(r:Room k A):A.units+64 < cLine:=by have:=r.un;omega
noncomputable def tNil:TA:=fun _ H Q=>Q [] H
noncomputable def tCons(ta:TE)(tr:TA):TA:=fun σ H Q=>ta σ H fun x H1=>tr σ H1 fun xs H2=>Q (x::xs) H2
section
variable{X:Cx}{e:Expr}{es:List Expr}{te:TE}{t:TA}{pos:Pos}
theorem pa_nil:PA X [] tNil:=fun _ _ _ _ H Q I h=>Calls.spliced_nil ⟨[],H,I,.nil,h⟩
theorem pa_cons(ha:PE X e te)(hr:PA X es t)(hs:starEach (e::es) X.env=(false,eval e X.env)::starEach es X.env:=by rfl):PA X (e::es) (tCons te t):=by
 intro pos pins s σ H Q I h;rw[hs];show wpAny _ _ (spliced ((false,eval e X.env)::backTo pos (starEach es X.env))) _ _ s;refine Calls.spliced_cons (thn (ha pins s σ H _ I h) fun u s1 zz=>?_);obtain⟨x,H1,I1,r1,q1⟩:=zz;exact thn (hr pos pins s1 σ H1 _ I1 q1) fun us s2 ⟨xs,H2,I2,r2,q2⟩=>⟨x::xs,H2,I2,.cons r1 r2,q2⟩
noncomputable def tTup(t:TA):TE:=fun σ H Q=>t σ H fun xs H1=>xs.length<=sizeLine /\ ∀ p,H1 p=none->Q (.ref p) (upd H1 p (.tup xs))
noncomputable def tLst(t:TA):TE:=fun σ H Q=>t σ H fun xs H1=>xs.length<=sizeLine /\ ∀ p,H1 p=none->Q (.ref p) (upd H1 p (.lst xs))
theorem pe_tup{x1}(h:PA X es t):PE X (.Tuple es x1 pos) (tTup t):=by
 intro pins s σ H Q I hq;refine wpAny_Tuple_spliced (thn (h pos pins s σ H _ I hq) fun us s1 ⟨xs,H1,I1,r,z,q⟩=>⟨by rw[← r.length];exact z,?_⟩)
 have hf:H1 s1.heap.objs.size=none:=I1.hok.fresh (Nat.le_refl _);refine⟨.ref s1.heap.objs.size,upd H1 s1.heap.objs.size (.tup xs),I1.laid (t':=s1.toks) (fun b u e=>Heap.get?_push_of_some _ e) (Nat.le_refl _) ?_,rfl,q _ hf⟩;exact⟨z,us,r,⟨_,Heap.get?_push_size _ rfl,rfl,_,rfl⟩⟩
theorem pe_lst(h:PA X es t):PE X (.List es pos) (tLst t):=by
 intro pins s σ H Q I hq;refine wpAny_List_spliced (thn (h pos pins s σ H _ I hq) fun us s1 ⟨xs,H1,I1,r,z,q⟩=>⟨by rw[← r.length];exact z,?_⟩)
 have hf:H1 s1.heap.objs.size=none:=I1.hok.fresh (Nat.le_refl _);refine⟨.ref s1.heap.objs.size,upd H1 s1.heap.objs.size (.lst xs),I1.laid (t':=s1.toks) (fun b u e=>Heap.get?_push_of_some _ e) (Nat.le_refl _) ?_,rfl,q _ hf⟩;exact⟨z,us,0,r,Heap.get?_push_size _ rfl⟩
end
noncomputable abbrev Sp:=List V->Hp->VK->XK->Prop
noncomputable abbrev CXT:=List Env->Hp->Shared->XK->Value->Shared->Prop
structure Env0(P:Program)(w:World)(K:W.Frag)(mg:Str->Option Value)(base:Heap)(A:Around)(outer:List Env)(s:Shared)(H:Hp):Prop where
 frames:A.frames=some outer
 mod:Mod K mg base
 bs:∀ b o,base.get? b=some o->s.heap.get? b=some o/\H b=none
 bsz:base.objs.size<=s.heap.objs.size
 funs:s.heap.FunFrames base outer
 frf:∀ b∈frs outer,H b=none
 hok:HOk P w H s.heap
 bare:AllBare s.gens
noncomputable def CE(outer:List Env)(P:Program)(w:World)(H:Hp)(s:Shared)(Q:VK)(u:Value)(s':Shared):Prop:=
 ∃ v H',s'.os=s.os/\AllBare s'.gens/\Un (frs outer) [] H H' s.heap s'.heap/\HOk P w H' s'.heap/\RelV v u/\Q v H'
noncomputable def CR(CX:CXT)(outer:List Env)(P:Program)(w:World)(H:Hp)(s:Shared)(Q:VK)(E:XK)(r:Result)(s':Shared):Prop:=
 match r with
 | .ok (.ret u)=>CE outer P w H s Q u s'
 | .ok _=>False
 | .error e=>CX outer H s E e s'
structure FnOk(P:Program)(w:World)(K:W.Frag)(mg:Str->Option Value)(base:Heap)(CX:CXT)(k:Nat)(f:Addr)(fd:FuncData)(ps:List Str)(sp:Sp):Prop where
 len:∀ vs H Q E,sp vs H Q E->vs.length=ps.length
 run:∀(A:Around) (outer:List Env) (s:Shared) (H:Hp) (args:Args) (us:List Value) (vs:List V) (Q:VK) (E:XK),Room k A->Env0 P w K mg base A outer s H->BindsTo s fd args (ps.zip us)->Vals vs us->sp vs H Q E ->
  codeAny (model P w) A (.call (.ref f) args) (CR CX outer P w H s Q E) s
section
variable{X:Cx}{pins:List (Addr×Obj)}{σ:St}{H:Hp}{s s':Shared}
theorem Inv.env0(I:Inv X pins σ H s):Env0 X.prog X.w X.K X.mg X.base X.A X.stack s H:=
 ⟨I.ok.frames,I.ok.mod,I.bs,Nat.le_trans I.ok.bsz I.sz,I.stack,I.stkFree,I.hok,I.bare⟩
theorem Inv.after{Q:VK}{u:Value}(I:Inv X pins σ H s)(h:CE X.stack X.prog X.w H s Q u s'):EP X pins σ Q u s':=by
 obtain⟨v,H',os,bare,un,hok,r,q⟩:=h;obtain⟨hh,g,d,t,os'⟩:=s';obtain rfl:os'=s.os:=os;exact⟨v,H',I.call (h':=hh) (g':=g) (d':=d) (t':=t) (ch:=[]) un hok bare (fun b z=>absurd z (by simp)),r,q⟩
end
noncomputable def tCall(sp:Sp)(dvs:List V)(E:XK)(t:TA):TE:=fun σ H Q=>t σ H fun vs H1=>sp (vs++dvs) H1 Q E
noncomputable def Binds(K:W.Frag)(fd:FuncData)(ps:List Str)(ds:List Value):Prop:=
 ∀(s:Shared) (us:List Value),K.In s.heap->(us++ds).length=ps.length->BindsTo s fd ⟨us,[]⟩ (ps.zip (us++ds))
theorem Binds.all{K:W.Frag}{fd:FuncData}{ps:List Str}(h:∀ us:List Value,us.length=ps.length->bindArgs fd ⟨us,[]⟩=pure (ps.zip us)):Binds K fd ps []:=fun s us _ hl=>by
 rw[List.append_nil]at hl ⊢;exact .of_eq (h us hl)
noncomputable def Passes(CX:CXT)(X:Cx)(E:XK):Prop:=∀(pins:List (Addr×Obj)) (σ:St) (H:Hp) (s:Shared) (e:Value) (s':Shared),Inv X pins σ H s->CX X.stack H s E e s'->X.xe e s'
section
variable{X:Cx}{CX:CXT}{k:Nat}{f C:Addr}{fd:FuncData}{ps:List Str}{sp:Sp}{dvs:List V}{ds:List Value}{E:XK}{x m:Str}{p pos apos:Pos}{e o:Expr}{es:List Expr}{ta:TE}{t:TA}
theorem run_fn{pins:List (Addr×Obj)}{σ:St}{H:Hp}{s:Shared}{Q:VK}{us:List Value}{vs:List V}(F:FnOk X.prog X.w X.K X.mg X.base CX k f fd ps sp)(hr:Room k X.A)(hb:Binds X.K fd ps ds)(hd:Vals dvs ds)(hx:Passes CX X E)
 (I:Inv X pins σ H s) (r:Vals vs us) (h:sp (vs++dvs) H Q E):wpAny (model X.prog X.w) X.A (call (.ref f) us) (EP X pins σ Q) X.xe s:=by
 have r2:Vals (vs++dvs) (us++ds):=r.append hd;have hl:(us++ds).length=ps.length:=by rw[← r2.length];exact F.len _ _ _ _ h
 refine wpAny_call (codeAny_mono (F.run X.A X.stack s H ⟨us,[]⟩ (us++ds) (vs++dvs) Q E hr I.env0 (hb s us I.kIn hl) r2 h) fun r s' hq=>?_);cases r with
 | error e=>exact hx pins σ H s e s' I hq
 | ok fl=>
   cases fl with
   | ret u=>exact I.after hq
   | next=>exact False.elim hq
   | brk=>exact False.elim hq
   | cont=>exact False.elim hq
theorem pe_call(F:FnOk X.prog X.w X.K X.mg X.base CX k f fd ps sp)(hr:Room k X.A)(hg:Gl X x)(hm:X.mg x=some (.ref f))(hk:W.keepIn X.K (.ref f)=true)(hb:Binds X.K fd ps ds)(hd:Vals dvs ds)(hx:Passes CX X E)
 (ha:PA X (e::es) t) (hdb:(x == ("__debug__":Str))=false:=by decide) (he:starEach (e::es) X.env=(false,eval e X.env)::starEach es X.env:=by rfl) (hpl:(backTo pos (starEach es X.env)).any (·.1)=false:=by rfl) :
 PE X (.Call (.Name x p) (e::es) [] pos) (tCall sp dvs E t):=by
 intro pins s σ H Q I h;refine wpAny_Call_Name_kw (ld_glob I hg hm ?_ hdb);refine W.callWith_K (h₀:=X.base) I.ok.mod.kin hk (thn (ha pos pins s σ H _ I h) fun us s1 ⟨vs,H1,I1,r,q⟩=>⟨I1.kIn,?_⟩) he hpl;exact run_fn F hr hb hd hx I1 r q
end
section
variable{X:Cx}{CX:CXT}{k:Nat}{f C:Addr}{fd:FuncData}{ps ks:List Str}{sp:Sp}{E:XK}{x m:Str}{p pos apos kpos:Pos}{e o:Expr}{es:List Expr}{kws:List Keyword}{te ta:TE}{t tk:TA}{nm:Option Str}
variable{g:List Value->List Value->List Value}{gV:List V->List V->List V}
end
structure FnScope(N P:List Str)(sc:Scope):Prop where
 kind:sc.kind=.function
 co:sc.isCoroutine=false
 gen:sc.isGenerator=false
 nd:N.Nodup
 pre:N.take P.length=P
 par:∀ x∈P,sc.names.lookup x=some .local∨sc.names.lookup x=some .cell
 nofree:∀ y∈sc.names,y.2 ≠ .free
theorem bindL_out{kindOf:Str->Option NameKind}{x:Str}:∀{binds:List (Str×Value)}{m:Str->Option Value},(∀ v,(x,v)∉binds)->bindL kindOf binds m x=m x
 | [],_,_=>rfl
 | (n,v)::r,m,h=>by
   unfold bindL;rw[bindL_out fun w hw=>h w (List.mem_cons_of_mem _ hw)];split
   · have:x≠n:=by rintro rfl;exact h v List.mem_cons_self
     simp[this]
   rfl
theorem bindC_out{kindOf:Str->Option NameKind}{x:Str}:∀{binds:List (Str×Value)}{m:Str->Option Value},(∀ v,(x,v)∉binds)->bindC kindOf binds m x=m x
 | [],_,_=>rfl
 | (n,v)::r,m,h=>by
   unfold bindC;rw[bindC_out fun w hw=>h w (List.mem_cons_of_mem _ hw)];split
   · rfl
   have:x≠n:=by rintro rfl;exact h v List.mem_cons_self
   simp[this]
theorem bindL_get{kindOf:Str->Option NameKind}{x:Str}{v:Value}:∀{P:List Str}{vs:List Value}{i:Nat}{m:Str->Option Value},P.Nodup->P[i]?=some x->vs[i]?=some v->kindOf x=some .local ->
 bindL kindOf (P.zip vs) m x=some v
 | [],_,_,_,_,h,_,_=>by simp at h
 | _::_,[],_,_,_,_,h,_=>by simp at h
 | p::P,w::vs,0,m,nd,h1,h2,hk=>by
   simp at h1 h2;subst h1;subst h2;show bindL kindOf ((p,w)::P.zip vs) m p=_;unfold bindL;rw[bindL_out fun v hv=>(List.nodup_cons.mp nd).1 (List.of_mem_zip hv).1,if_pos hk];simp
 | p::P,w::vs,i+1,m,nd,h1,h2,hk=>by
   show bindL kindOf ((p,w)::P.zip vs) m x=_;unfold bindL;exact bindL_get (i:=i) (List.nodup_cons.mp nd).2 (by simpa using h1) (by simpa using h2) hk
theorem bindC_get{kindOf:Str->Option NameKind}{x:Str}{v:Value}:∀{P:List Str}{vs:List Value}{i:Nat}{m:Str->Option Value},P.Nodup->P[i]?=some x->vs[i]?=some v->kindOf x≠some .local ->
 bindC kindOf (P.zip vs) m x=some v
 | [],_,_,_,_,h,_,_=>by simp at h
 | _::_,[],_,_,_,_,h,_=>by simp at h
 | p::P,w::vs,0,m,nd,h1,h2,hk=>by
   simp at h1 h2;subst h1;subst h2;show bindC kindOf ((p,w)::P.zip vs) m p=_;unfold bindC;rw[bindC_out fun v hv=>(List.nodup_cons.mp nd).1 (List.of_mem_zip hv).1,if_neg hk];simp
 | p::P,w::vs,i+1,m,nd,h1,h2,hk=>by
   show bindC kindOf ((p,w)::P.zip vs) m x=_;unfold bindC;exact bindC_get (i:=i) (List.nodup_cons.mp nd).2 (by simpa using h1) (by simpa using h2) hk
noncomputable def start(N:List Str)(vs:List V):St:=vs.map some++List.replicate (N.length - vs.length) none
noncomputable def cxOf(CX:CXT)(P:Program)(w:World)(K:W.Frag)(mg:Str->Option Value)(base:Heap)(N:List Str)(qual:Str)(scope:Scope)(f:Addr)(cd:Value)(A:Around)(outer:List Env)(s:Shared)(H:Hp)(E:XK):Cx where
 prog:=P
 w:=w
 K:=K
 mg:=mg
 base:=base
 A:=A.deeper (envOfC qual scope s.heap.objs.size f cd)
 N:=N
 s₀:=s
 H₀:=H
 env:=envOfC qual scope s.heap.objs.size f cd
 outer:=outer
 stack:=envOfC qual scope s.heap.objs.size f cd::outer
 ex:=[]
 calm:=true
 fn:=fun _=>true
 pn:=[]
 xe:=fun e s'=>wpAny (model P w) (A.deeper (envOfC qual scope s.heap.objs.size f cd)) (leaving (envOfC qual scope s.heap.objs.size f cd) e) (fun _ s''=>CX outer H s E e s'') (fun e' s''=>CX outer H s E e' s'') s'
theorem cell_has{sc:Scope}{n:Nat}{x:Str}(h:sc.names.lookup x=some .cell):∃ c,(cellsFrom n sc.names []).lookup x=some c:=by
 have q:=W.cellsFrom_some sc.names n [] (.inl h);exact Option.isSome_iff_exists.mp q
theorem inv_start{CX:CXT}{P:Program}{w:World}{K:W.Frag}{mg:Str->Option Value}{base:Heap}{N ps:List Str}{qual:Str}{scope:Scope}{f:Addr}{cd:Value}{A:Around}{outer:List Env}{s s1:Shared}{H:Hp}{E:XK}{us:List Value}{vs:List V}
 (S:FnScope N ps scope) (hd:A.handled=none) (e0:Env0 P w K mg base A outer s H) (hl:vs.length=ps.length) (r:Vals vs us)
 (x:InCallC s s.heap.objs.size (bindL (envOfC qual scope s.heap.objs.size f cd).kindOf (ps.zip us) fun _=>none) (cellsFrom (s.heap.objs.size+1) scope.names []) (bindC (envOfC qual scope s.heap.objs.size f cd).kindOf (ps.zip us) fun _=>none) s1) :
 Inv (cxOf CX P w K mg base N qual scope f cd A outer s H E) [] (start N vs) H s1:=by
 have hpl:ps.length<=N.length:=by have:=congrArg List.length S.pre;rw[List.length_take]at this;omega
 obtain⟨h1,tk,rfl,hk⟩:=x.done;have noA:∀ b:Addr,b∉(cxOf CX P w K mg base N qual scope f cd A outer s H E).ex:=fun b z=>absurd (show b∈([]:List Addr)from z) (by simp)
 refine⟨⟨e0.mod,S.kind,rfl,rfl,Nat.le_refl _,fun y z c h1 h2=>?_,fun y hy=>?_,fun y c _ h=>?_,fun _=>hd,Around.frames_deeper e0.frames,.inr ⟨rfl,rfl⟩,fun b z=>absurd z (noA b),e0.bs,e0.bsz,fun b _ _=>noA b,fun b z=>absurd z (noA b),e0.funs,e0.frf⟩,
  rfl,e0.bare,Un.kept hk,⟨_,x.toInCall.ns,fun i y v h1 h2 h3=>?_⟩,fun y c h=>⟨_,x.cell y c h⟩,e0.hok.fresh (Nat.le_refl _),fun y c h=>?_,fun p hp=>absurd (show p∈([]:List (Addr×Obj))from hp) (by simp),e0.hok.kept hk,?_⟩
 · exact name_of_addr x.apart (PySem.mem_of_lookup h1) (PySem.mem_of_lookup h2)
 · have hy:scope.names.lookup y=some .cell∨scope.names.lookup y=some .free:=hy
   rcases hy with hy | hy
   · exact cell_has hy
   exact absurd rfl (S.nofree _ (PySem.mem_of_lookup hy))
 · exact Nat.le_of_lt (x.above y c (PySem.mem_of_lookup h))
 · have hi:i < vs.length:=by
    unfold start at h2;by_cases hi:i < vs.length
    · exact hi
    rw[List.getElem?_append_right (by simpa using hi)]at h2
    rw[List.getElem?_replicate]at h2;split at h2 <;> cases h2
   have ha:vs[i]?=some v:=by
    unfold start at h2;rw[List.getElem?_append_left (by simpa using hi),List.getElem?_map]at h2
    cases e:vs[i]? with
    | none=>rw[e]at h2;cases h2
    | some a=>rw[e]at h2;cases h2;rfl
   obtain⟨u,hu,rv⟩:=r.get ha;have hp:ps[i]?=some y:=by
    rw[← S.pre,List.getElem?_take_of_lt (by omega)];exact h1
   have ndP:ps.Nodup:=by rw[← S.pre];exact S.nd.sublist (List.take_sublist _ _)
   refine⟨u,rv,?_⟩;rcases S.par y (List.mem_of_getElem? hp)with k | k
   · exact .inl ⟨k,bindL_get ndP hp hu k⟩
   obtain⟨c,e⟩:=cell_has (n:=s.heap.objs.size+1) k;refine .inr ⟨.inl k,c,e,?_⟩;have q:=x.cell y c e;rw[bindC_get ndP hp hu (by show scope.names.lookup y≠_;rw[k];decide)]at q
   exact q
 · exact e0.hok.fresh (Nat.le_of_lt (x.above y c (PySem.mem_of_lookup h)))
 unfold start;show _=N.length;rw[List.length_append,List.length_map,List.length_replicate];omega
theorem fn_of{CX:CXT}{P:Program}{w:World}{K:W.Frag}{mg:Str->Option Value}{base:Heap}{k:Nat}{f:Addr}{name qual:Str}{params:Arguments}{body:List Stmt}{scope:Scope}{dV kV doc pm cdv ct oc:Value}{an od:Option Addr}
 {osl:Array (Option Value)}{N ps:List Str}{sp:Sp} (lk:K.lookup f=some ⟨oc,od,.func (W.fnOf name qual params body scope dV kV doc pm an cdv ct),osl⟩) (hcd:W.codeIn K cdv qual=true) (S:FnScope N ps scope)
 (len:∀ vs H Q E,sp vs H Q E->vs.length=ps.length)
 (hbody:∀(A:Around) (outer:List Env) (s:Shared) (H:Hp) (vs:List V) (Q:VK) (E:XK),Room k (A.deeper (envOfC qual scope s.heap.objs.size f cdv))->sp vs H Q E ->
  ∃ t,PSs (cxOf CX P w K mg base N qual scope f cdv A outer s H E) body t/\t { nx:=fun _ H'=>Q .non H',rt:=Q } (start N vs) H) :
 FnOk P w K mg base CX (k+1) f (W.fnOf name qual params body scope dV kV doc pm an cdv ct) ps sp:=by
 refine⟨len,fun A outer s H args us vs Q E hr e0 hb r hsp=>?_⟩;have hl:=len _ _ _ _ hsp;have KX:K.In s.heap:=e0.mod.kin.keeps fun b o e=>(e0.bs b o e).1;have lim:s.heap.NoLimit:=e0.mod.nolimit.keeps fun b o e=>(e0.bs b o e).1;have hkind:∀ y∈ps.zip us,scope.names.lookup y.1=some .local∨(scope.names.lookup y.1=some .cell/\((cellsFrom (s.heap.objs.size+1) scope.names []).lookup y.1).isSome=true):=fun⟨n,v⟩ hy=>by
  rcases S.par n (List.of_mem_zip hy).1 with q | q
  · exact .inl q
  exact .inr ⟨q,W.cellsFrom_some _ _ _ (.inl q)⟩
 refine codeAny_call_function hr.depth (KX _ _ lk) rfl S.co S.gen rfl (W.codeRec_of KX hcd) (hb _ _ _ _ ?_);refine wpAny_newFunctionEnv_cells S.kind hkind fun env he s1 x=>?_;subst he;refine⟨lim.keeps x.toInCall.keep,codeAny_func ?_⟩;obtain⟨t,ht,hq⟩:=hbody A outer s H vs Q E (hr.deeper _) hsp;have I:Inv (cxOf CX P w K mg base N qual scope f cdv A outer s H E) [] (start N vs) H s1:=inv_start S hr.hd e0 hl r x;refine wpAny_mono (ht [] s1 (start N vs) H _ I hq) (fun fl s' hs=>?_) fun e s' hs=>hs;have fin:∀{σ':St}{H':Hp}{v:V}{u:Value},Inv (cxOf CX P w K mg base N qual scope f cdv A outer s H E) [] σ' H' s'->RelV v u->Q v H'->CE outer P w H s Q u s':=
  fun {σ' H' v u} J rv q=>⟨v,H',J.os,J.bare,J.base,J.hok,rv,q⟩
 cases fl with
 | ret u=>
   obtain⟨v,σ',H',J,rv,q⟩:=hs;exact fin J rv q
 | next=>
   obtain⟨σ',H',J,q⟩:=hs;exact fin (v:=V.non) (u:=Value.none) J rfl q
 | brk=>
   obtain⟨_,_,_,q⟩:=hs;exact False.elim q
 | cont=>
   obtain⟨_,_,_,q⟩:=hs;exact False.elim q
end L2
namespace L2
open PySem PySem.Spec PyProof.Rows
section
variable{X:Cx}{x:Str}{p pos:Pos}{e:Expr}{es:List Expr}{t:TA}{id T:String}{r:List V->Hp->VK->Prop}
noncomputable def tCB(r:List V->Hp->VK->Prop)(t:TA):TE:=fun σ H Q=>t σ H fun vs H1=>r vs H1 Q
theorem pe_callB(hc:CallR X (.builtin id) r)(hg:Gl X x)(hm:X.mg x=none)(hv:bootBuiltins x=some (.builtin id))(ha:PA X (e::es) t)(hn:x ≠ "__name__":=by decide)(hdb:(x == ("__debug__":Str))=false:=by decide)
 (he:starEach (e::es) X.env=(false,eval e X.env)::starEach es X.env:=by rfl) (hpl:(backTo pos (starEach es X.env)).any (·.1)=false:=by rfl):PE X (.Call (.Name x p) (e::es) [] pos) (tCB r t):=by
 intro pins s σ H Q I h;refine wpAny_Call_Name_kw (ld_blt I hg hm hv ?_ hn hdb);exact PyProof.Rows.callWith_builtin1 (thn (ha pos pins s σ H _ I h) fun us s1 ⟨vs,H1,I1,r1,q1⟩=>hc pins s1 σ H1 vs us Q I1 r1 q1) he hpl
theorem pe_callTy(hc:CallR X (.type T) r)(hg:Gl X x)(hm:X.mg x=none)(hv:bootBuiltins x=some (.type T))(ha:PA X (e::es) t)(hn:x ≠ "__name__":=by decide)(hdb:(x == ("__debug__":Str))=false:=by decide)
 (he:starEach (e::es) X.env=(false,eval e X.env)::starEach es X.env:=by rfl) (hpl:(backTo pos (starEach es X.env)).any (·.1)=false:=by rfl):PE X (.Call (.Name x p) (e::es) [] pos) (tCB r t):=by
 intro pins s σ H Q I h;refine wpAny_Call_Name_kw (ld_blt I hg hm hv ?_ hn hdb);exact PyProof.Rows.callWith_type1 (thn (ha pos pins s σ H _ I h) fun us s1 ⟨vs,H1,I1,r1,q1⟩=>hc pins s1 σ H1 vs us Q I1 r1 q1) he hpl
end
end L2
namespace HT
open PySem PyProof.Rows
section
open PySem.SeqAt
open PySem.AutoSeq1 (wpAny_loadPart')
open PySem.MeetsSeq PySem.MeetsSeq2 PySem.MeetsSeq3
end
section
variable{prog:Program}{w:World}{A:Around}{E:Value->Shared->Prop}{s:Shared}
noncomputable def sIx(n d:Nat):Option Int->Nat
 | none=>d
 | some v=>if v < 0 then(v+(n:Int)).toNat else min v.toNat n
end
end HT
namespace L2
open PySem PySem.Spec PyProof.Rows
noncomputable abbrev TO:=St->Hp->(Option Int->Hp->Prop)->Prop
noncomputable def PO(X:Cx)(e:Option Expr)(t:TO):Prop:=
 ∀(pins:List (Addr×Obj)) (s:Shared) (σ:St) (H:Hp) (Q:Option Int->Hp->Prop),Inv X pins σ H s->t σ H Q ->
   wpAny (model X.prog X.w) X.A (evalPart e X.env) (fun u s'=>∃ o H',Inv X pins σ H' s'/\IsPart u o/\Q o H') X.xe s
noncomputable def tNoPart:TO:=fun _ H Q=>Q none H
noncomputable def tPart(t:TE):TO:=fun σ H Q=>t σ H fun x H1=>∃ i,x=.int i/\Q (some i) H1
section
variable{X:Cx}{e:Expr}{te:TE}{lo hi:Option Expr}{tl th:TO}{pos p2:Pos}
theorem po_none:PO X none tNoPart:=by
 intro pins s σ H Q I h;rw[evalPart_none];exact wpAny_pure ⟨none,H,I,.none,h⟩
theorem po_some(h:PE X e te):PO X (some e) (tPart te):=by
 intro pins s σ H Q I hw;rw[evalPart_some];refine thn (h pins s σ H _ I hw) fun u s1 zz=>?_;obtain⟨x,H1,I1,r1,q1⟩:=zz;obtain⟨i,rfl,q⟩:=q1;obtain⟨t,rfl⟩:=r1;exact⟨some i,H1,I1,.int i t,q⟩
noncomputable def SlR(X:Cx)(r:V->Option Int->Option Int->Hp->VK->Prop):Prop:=
 ∀(pins:List (Addr×Obj)) (s:Shared) (σ:St) (H:Hp) (x:V) (v vl vu:Value) (lo hi:Option Int) (sl:Addr) (Q:VK),Inv X pins σ H s->RelV x v->s.heap.IsSliceOf sl vl vu .none->IsPart vl lo->IsPart vu hi->r x lo hi H Q ->
   ∃ T id,typeLookup (.type T) "__getitem__"=pure (some (.builtin id))/\s.TypeIs v T/\wpAny (model X.prog X.w) X.A (getItem v (.ref sl)) (EP X pins σ Q) X.xe s
noncomputable def tSl(r:V->Option Int->Option Int->Hp->VK->Prop)(te:TE)(tl th:TO):TE:=fun σ H Q=>te σ H fun x H1=>tl σ H1 fun l H2=>th σ H2 fun u H3=>r x l u H3 Q
theorem pe_slice{r:V->Option Int->Option Int->Hp->VK->Prop}(hr:SlR X r)(he:PE X e te)(hl:PO X lo tl)(hu:PO X hi th):PE X (.Subscript e (.Slice lo hi none p2) pos) (tSl r te tl th):=by
 intro pins s σ H Q I h;refine Subscript_ (thn (he pins s σ H _ I h) fun v s1 zz=>?_);obtain⟨x,H1,I1,r1,q1⟩:=zz;refine wpAny_Slice (thn (hl pins s1 σ H1 _ I1 q1) fun vl s2 ⟨l,H2,I2,pl,q2⟩=>thn (hu pins s2 σ H2 _ I2 q2) fun vu s3 zz=>?_);obtain⟨u,H3,I3,pu,q3⟩:=zz;rw[evalPart_none];refine wpAny_pure ?_;have I4:Inv X pins σ H3 { s3 with heap:=s3.heap.push { cls:=.type "slice",data:=.fields #[vl,vu,.none] } }:=I3.kept (t':=s3.toks) fun b ob q=>Heap.get?_push_of_some _ q;obtain⟨T,id,hT,ht,hg⟩:=hr pins { s3 with heap:=s3.heap.push { cls:=.type "slice",data:=.fields #[vl,vu,.none] } } σ H3 x v vl vu l u s3.heap.objs.size Q I4 r1 (Heap.IsSliceOf.new ..) pl pu q3;show wpAny (model X.prog X.w) X.A (subscriptTail e (.Slice lo hi none p2) v (.ref s3.heap.objs.size)) (EP X pins σ Q) X.xe { s3 with heap:=s3.heap.push { cls:=.type "slice",data:=.fields #[vl,vu,.none] } };exact tail_any (ops:=[.ref s3.heap.objs.size,v]) ht hT hg (by with_unfolding_all rfl)
noncomputable def cutV(xs:List V)(lo hi:Option Int):List V:=(xs.drop (HT.sIx xs.length 0 lo)).take (HT.sIx xs.length xs.length hi - HT.sIx xs.length 0 lo)
theorem cutV_length(xs:List V)(lo hi:Option Int):(cutV xs lo hi).length<=xs.length:=by
 unfold cutV;rw[List.length_take,List.length_drop];omega
end
end L2
namespace L2
open PySem PySem.Spec PyProof.Rows
noncomputable def ixN(n:Nat)(i:Int):Option Nat:=if 0<=i then(if i < n then some i.toNat else none)else if -(n:Int)<=i then some (i+n).toNat else none
noncomputable def atI{α:Type}(xs:List α)(i:Int):Option α:=(ixN xs.length i).bind fun j=>xs[j]?
theorem ixN_seq{n:Nat}{i:Int}{j:Nat}(h:ixN n i=some j):seqIndex? i n=some j/\j < n /\ -(n:Int)<=i/\i < n:=by
 unfold ixN at h;by_cases h0:0<=i
 · rw[if_pos h0]at h
   by_cases h1:i < n
   · rw[if_pos h1]at h
     have e:i.toNat=j:=Option.some.inj h;exact⟨by rw[seqIndex_of h0 h1,e],by omega,by omega,h1⟩
   rw[if_neg h1]at h;cases h
 rw[if_neg h0]at h;by_cases h1:-(n:Int)<=i
 · rw[if_pos h1]at h
   have e:(i+n).toNat=j:=Option.some.inj h;exact⟨by rw[seqIndex_neg (by omega) h1,e],by omega,h1,by omega⟩
 rw[if_neg h1]at h;cases h
theorem atI_get{α:Type}{xs:List α}{i:Int}{v:α}(h:atI xs i=some v):∃ j,seqIndex? i xs.length=some j/\xs[j]?=some v/\j < xs.length /\ -(xs.length:Int)<=i/\i < xs.length:=by
 unfold atI at h;cases e:ixN xs.length i with
 | none=>rw[e]at h;cases h
 | some j=>
   rw[e]at h;obtain⟨h1,h2,h3,h4⟩:=ixN_seq e;exact⟨j,h1,h,h2,h3,h4⟩
theorem atI_nat{α:Type}{xs:List α}{j:Nat}{v:α}(h:xs[j]?=some v):atI xs (j:Int)=some v:=by
 have hj:j < xs.length:=(List.getElem?_eq_some_iff.mp h).1;have e:ixN xs.length (j:Int)=some j:=by
  unfold ixN;rw[if_pos (by omega),if_pos (by omega)];simp
 unfold atI;rw[e];exact h
noncomputable def PlainIx(b:Expr):Prop:=∀ o i,subscripted b false o i=operate [o,i] (getItem o i)
noncomputable def IxR(X:Cx)(r:R2):Prop:=
 ∀(value slice:Expr) (pins:List (Addr×Obj)) (s:Shared) (σ:St) (H:Hp) (x y:V) (v u:Value) (Q:VK),Inv X pins σ H s->RelV x v->RelV y u->r x y H Q ->
   subscripted slice false v u=operate [v,u] (getItem v u)->wpAny (model X.prog X.w) X.A (subscriptTail value slice v u) (EP X pins σ Q) X.xe s
noncomputable def MtR(X:Cx)(id:String)(r:V->List V->Hp->VK->Prop):Prop:=
 ∀(pins:List (Addr×Obj)) (s:Shared) (σ:St) (H:Hp) (x:V) (xs:List V) (v:Value) (us:List Value) (Q:VK),Inv X pins σ H s->RelV x v->Vals xs us->r x xs H Q ->
   wpAny (model X.prog X.w) X.A (call (.builtin id) (v::us)) (EP X pins σ Q) X.xe s
section
variable{X:Cx}{a b:Expr}{ta tb:TE}{pos:Pos}
theorem pe_ix{r:R2}(hr:IxR X r)(ha:PE X a ta)(hb:PE X b tb)(hs:PlainIx b):PE X (.Subscript a b pos) (tOp r ta tb):=by
 intro pins s σ H Q I h;exact Subscript_ (binT ha hb I h fun v u s2 x y H2 I2 rx ry q=>hr a b pins s2 σ H2 x y v u Q I2 rx ry q (hs _ _))
noncomputable def rIxL(K:W.Frag):R2:=fun x y H Q=>∃ p xs i v,x=.ref p/\y=.int i/\SqL K H p xs/\atI xs i=some v/\Q v H
noncomputable def rIxT(K:W.Frag):R2:=fun x y H Q=>∃ p xs i v,x=.ref p/\y=.int i/\SqT K H p xs/\atI xs i=some v/\Q v H
theorem ix_list:IxR X (rIxL X.K):=by
 intro value slice pins s σ H x y v u Q I rx ry h hs;obtain⟨p,xs,i,z,rfl,rfl,hq,he,q⟩:=h;cases rx;obtain⟨t,rfl⟩:=ry;obtain⟨its,r,pl,hz⟩:=I.list hq;obtain⟨j,h1,h2,h3,h4,h5⟩:=atI_get he;obtain⟨w,ew,rw'⟩:=r.get h2;have hl:=r.length;have hn:=line63;have fin:EP X pins σ Q w s:=⟨z,H,I,rw',q⟩;by_cases h0:0<=i
 · have hj:i.toNat=j:=by
    rw[seqIndex_of h0 h5]at h1;exact Option.some.inj h1
   exact item_listR pl.isList h0 (by omega) (by rw[hj];simpa using ew) fin hs
 have hj:(i+(its.toArray.size:Int)).toNat=j:=by
  rw[seqIndex_neg (by omega) h4]at h1
  rw[List.size_toArray,← hl];exact Option.some.inj h1
 exact subscriptTail_builtinR (x:=w) pl.isList.typeIs slot_list_getitem.lookup
  (wpAny_getItem_list_neg (Q:=fun r s'=>r=w/\EP X pins σ Q r s') pl.isList (by omega) (by rw[List.size_toArray] <;> omega) (by omega) (by rw[hj];simpa using ew) ⟨rfl,fin⟩) hs
theorem ix_tup:IxR X (rIxT X.K):=by
 intro value slice pins s σ H x y v u Q I rx ry h hs;obtain⟨p,xs,i,z,rfl,rfl,hq,he,q⟩:=h;cases rx;obtain⟨t,rfl⟩:=ry;obtain⟨its,r,pl,hz⟩:=I.tuple hq;obtain⟨j,h1,h2,h3,h4,h5⟩:=atI_get he;obtain⟨w,ew,rw'⟩:=r.get h2;have hl:=r.length;have hn:=line63;have fin:EP X pins σ Q w s:=⟨z,H,I,rw',q⟩;exact subscriptTail_builtinR (x:=w) pl.typeIs slot_tuple_getitem.lookup
  (getItem_tuple (j:=j) (Q:=fun r s'=>r=w/\EP X pins σ Q r s') pl (by omega) (by omega) (by rw[List.size_toArray,← hl];exact h1) (by simpa using ew) ⟨rfl,fin⟩) hs
theorem mapSeq_set(its:List Value)(n j:Nat)(u:Value):Obj.mapSeq (·.setIfInBounds j u) { cls:=.type "list",data:=.seq its.toArray n }={ cls:=.type "list",data:=.seq (its.set j u).toArray n }:=by
 simp[Obj.mapSeq]
theorem Inv.lst{pins:List (Addr×Obj)}{σ:St}{H:Hp}{s:Shared}{p:Addr}{xs:List V}(I:Inv X pins σ H s)(h:H p=some (.lst xs)) :
 ∃(its:List Value) (n:Nat),Vals xs its/\s.heap.get? p=some { cls:=.type "list",data:=.seq its.toArray n } /\ xs.length<=sizeLine:=by
 obtain⟨z,its,n,r,e⟩:=I.hok p _ h;exact⟨its,n,r,e,z⟩
theorem Inv.lstUpd{pins:List (Addr×Obj)}{σ:St}{H:Hp}{s:Shared}{p:Addr}{xs ys:List V}{its its':List Value}{n n':Nat}{f:Obj->Obj}(I:Inv X pins σ H s)(h:H p=some (.lst xs))
 (ho:s.heap.get? p=some { cls:=.type "list",data:=.seq its.toArray n }) (hf:f { cls:=.type "list",data:=.seq its.toArray n }={ cls:=.type "list",data:=.seq its'.toArray n' }) (r:Vals ys its') (hz:ys.length<=sizeLine) (t:Nat) :
 Inv X pins σ (upd H p (.lst ys)) { s with heap:=s.heap.update p f,toks:=t }:=by
 have e:(s.heap.update p f).get? p=some { cls:=.type "list",data:=.seq its'.toArray n' }:=by
  rw[Heap.get?_update_self f ho (by rw[hf] <;> rfl),hf]
 refine I.write (x:=p) (e:=p) (by rw[h];trivial) (.inl rfl) (fun b u hb q=>(Heap.get?_update_other _ _ (Ne.symm hb)).trans q) ⟨_,e⟩ ?_
 exact⟨hz,its',n',r,e⟩
noncomputable def rSetL:V->V->V->Hp->(Hp->Prop)->Prop:=fun o i v H Q=>∃ p xs k j,o=.ref p/\i=.int k/\H p=some (.lst xs)/\ixN xs.length k=some j/\Q (upd H p (.lst (xs.set j v)))
theorem set_list:PSet X rSetL:=by
 intro pins s σ H o i v ov iv u Q I ro ri rv h;obtain⟨p,xs,k,j,rfl,rfl,hp,hj,q⟩:=h;cases ro;obtain⟨t,rfl⟩:=ri;obtain⟨its,n,r,ho,hz⟩:=I.lst hp;obtain⟨h1,h2,h3,h4⟩:=ixN_seq hj;have hl:=r.length;have hn:=line63;have I':Inv X pins σ (upd H p (.lst (xs.set j v))) { s with heap:=s.heap.update p (Obj.mapSeq (·.setIfInBounds j u)) }:=
  I.lstUpd hp ho (mapSeq_set its n j u) (r.set rv j) (by rw[List.length_set];exact hz) s.toks
 by_cases h0:0<=k
 · have hk:k.toNat=j:=by
    rw[seqIndex_of h0 h4]at h1;exact Option.some.inj h1
   exact W.ki_setAt ho h0 (by omega) (by rw[List.size_toArray,← hl];exact h4) (by rw[hk];exact⟨_,I',q⟩)
 have hk:(k+(its.toArray.size:Int)).toNat=j:=by
  rw[seqIndex_neg (by omega) h3]at h1
  rw[List.size_toArray,← hl];exact Option.some.inj h1
 exact W.ki_setBack ho (by omega) (by rw[List.size_toArray,← hl];exact h3) (by omega) (by rw[hk];exact⟨_,I',q⟩)
theorem slice_bounds(lo hi:Option Int)(n:Nat):(sliceBounds lo hi none n).1=((HT.sIx n 0 lo:Nat):Int)/\(sliceBounds lo hi none n).2.1=((HT.sIx n n hi:Nat):Int)/\(sliceBounds lo hi none n).2.2=1:=by
 refine⟨?_,?_,rfl⟩
 · cases lo with
   | none=>simp[sliceBounds,HT.sIx]
   | some i=>
     simp only[sliceBounds,HT.sIx,Option.getD_none,show(1:Int) > 0 by decide,if_true]
     by_cases h:i < 0
     · simp only[h,if_true] <;> omega
     simp only[h,if_false] <;> omega
 cases hi with
 | none=>simp[sliceBounds,HT.sIx]
 | some i=>
   simp only[sliceBounds,HT.sIx,Option.getD_none,show(1:Int) > 0 by decide,if_true]
   by_cases h:i < 0
   · simp only[h,if_true] <;> omega
   simp only[h,if_false] <;> omega
theorem slicePick_cut(its:List Value)(lo hi:Option Int):slicePick its.toArray lo hi none=((its.drop (HT.sIx its.length 0 lo)).take (HT.sIx its.length its.length hi - HT.sIx its.length 0 lo)).toArray:=by
 obtain⟨h1,h2,h3⟩:=slice_bounds lo hi its.toArray.size;unfold slicePick;rw[h1,h2,h3];simp only[sliceRange_one,pick_run,List.size_toArray] <;> rfl
noncomputable def rSlL(K:W.Frag):V->Option Int->Option Int->Hp->VK->Prop:=fun x lo hi H Q=>∃ a xs,x=.ref a/\SqL K H a xs /\ ∀ p,H p=none->Q (.ref p) (upd H p (.lst (cutV xs lo hi)))
theorem sl_list:SlR X (rSlL X.K):=by
 intro pins s σ H x v vl vu lo hi sl Q I rx hs pl pu h;obtain⟨a,xs,rfl,hx,q⟩:=h;cases rx;obtain⟨its,r,ht,hz⟩:=I.list hx;have hlen:=r.length;refine⟨"list",_,slot_list_getitem.lookup,ht.isList.typeIs,?_⟩;refine wpAny_getItem_list_slice ht.isList hs pl pu .none (by simp) ?_ (by rw[List.size_toArray] <;> omega)
 rw[slicePick_cut,← hlen];refine⟨.ref s.heap.objs.size,_,I.laid (t':=s.toks) (o:=.lst (cutV xs lo hi)) (fun b ob q=>Heap.get?_push_of_some _ q) (Nat.le_refl _) ?_,rfl,q _ (I.hok.fresh (Nat.le_refl _))⟩;exact⟨Nat.le_trans (cutV_length xs lo hi) hz,_,0,(r.drop (HT.sIx xs.length 0 lo)).take (HT.sIx xs.length xs.length hi - HT.sIx xs.length 0 lo),Heap.get?_push_size _ rfl⟩
noncomputable def tyV(K:W.Frag)(T:String)(x:V)(H:Hp):Prop:=match x with
 | .str _=>T="str"
 | .int _=>T="int"
 | .ref p=>(T="list" /\ ∃ xs,SqL K H p xs)∨(T="tuple" /\ ∃ o,K.lookup p=some o/\o.cls=.type "tuple" /\ o.dict=none) ∨
  (T="dict" /\ ((∃ kvs,H p=some (.dK kvs)) ∨ ∃ kvs,H p=some (.dT kvs)))∨(T="set" /\ ∃ S n,H p=some (.set S n))
 | _=>False
theorem tyV_is{pins:List (Addr×Obj)}{σ:St}{H:Hp}{s:Shared}{T:String}{x:V}{v:Value}(I:Inv X pins σ H s)(r:RelV x v)(ty:tyV X.K T x H) :
 s.TypeIs v T /\ ∀ a,v=.ref a -> ∃ ob,s.heap.get? a=some ob/\ob.dict=none:=by
 cases x with
 | str z=>
   obtain⟨t,rfl⟩:=r;cases (show T="str" from ty);exact⟨typeIs_str s z t,fun _ e=>nomatch e⟩
 | int i=>
   obtain⟨t,rfl⟩:=r;cases (show T="int" from ty);exact⟨typeIs_int s i t,fun _ e=>nomatch e⟩
 | ref p=>
   cases r;rcases ty with ⟨rfl,xs,hq⟩ | ⟨rfl,o,hk,hc,hd⟩ | ⟨rfl,hk⟩ | ⟨rfl,S,n,hk⟩
   · obtain⟨its,_,pl,_⟩:=I.list hq
     refine⟨pl.isList.typeIs,fun a e=>?_⟩;cases e;obtain⟨o,n,e,c,hd,_⟩:=pl;exact⟨o,e,hd⟩
   · refine⟨⟨o,I.kIn p o hk,hc⟩,fun a e=>?_⟩
     cases e;exact⟨o,I.kIn _ o hk,hd⟩
   · have z:∃ o,s.heap.get? p=some o/\o.ExactDict:=by
      rcases hk with ⟨kvs,hk⟩ | ⟨kvs,hk⟩
      · obtain⟨_,_,_,_,o,_,_,e,ex,_⟩:=I.hok p _ hk
        exact⟨o,e,ex⟩
      obtain⟨_,_,_,_,o,_,_,e,ex,_⟩:=I.hok p _ hk;exact⟨o,e,ex⟩
     obtain⟨o,e,ex⟩:=z;refine⟨⟨o,e,ex.1⟩,fun a e2=>?_⟩;cases e2;exact⟨o,e,ex.2.1⟩
   obtain⟨o,_,_,_,e,ex,_⟩:=I.hok p _ hk;refine⟨⟨o,e,ex.1⟩,fun a e2=>?_⟩;cases e2;exact⟨o,e,ex.2.1⟩
 | _=>exact False.elim ty
noncomputable def tBM(K:W.Frag)(T:String)(r:V->List V->Hp->VK->Prop)(to:TE)(t:TA):TE:=fun σ H Q=>to σ H fun x H1=>tyV K T x H1/\t σ H1 fun xs H2=>r x xs H2 Q
variable{o e:Expr}{es:List Expr}{to:TE}{t:TA}{name:Str}{apos cpos:Pos}{T id:String}{r:V->List V->Hp->VK->Prop}
theorem pe_bm(pa:PlainAttrs T)(slot:Slot T name id)(hty:typeOf (.builtin id)=pure (.type "method_descriptor"))(hm:MtR X id r)(ho:PE X o to)(ha:PA X (e::es) t)
 (hbase:attributeBase o name X.env (eval o X.env)=eval o X.env:=by rfl)
 (hfew:((backTo cpos (starEach (e::es) X.env)).all (fun x=>!x.1) && (backToKw cpos (keywordEach [] X.env)).all (fun x=>x.1.isSome)
  && decide ((e::es).length+([]:List Keyword).length+(if([]:List Keyword).isEmpty then 0 else 1) < 30))=true:=by rfl)
 (hline:(apos.endLine == cpos.line)=true:=by rfl) (hs:starEach (e::es) X.env=(false,eval e X.env)::starEach es X.env:=by rfl) (hplain:(backTo cpos (starEach es X.env)).any (·.1)=false:=by rfl) :
 PE X (.Call (.Attribute o name apos) (e::es) [] cpos) (tBM X.K T r to t):=by
 intro pins s σ H Q I h;refine wpAny_Call_method_late hbase hfew hline rfl (thn (ho pins s σ H _ I h) fun v s1 zz=>?_);obtain⟨x,H1,I1,r1,ty,q1⟩:=zz;obtain⟨h1,h2⟩:=tyV_is I1 r1 ty;refine⟨T,id,pa,slot,hty,h1,h2,?_⟩;have hA:=ha cpos pins s1 σ H1 _ I1 q1;rw[hs]at hA ⊢;refine Calls.callWith_builtin (by show(false || (backTo cpos (starEach es X.env)).any (·.1))=false;rw[hplain] <;> rfl) (Calls.evalArgs_plain ?_)
 exact thn hA fun us s2 ⟨vs,H2,I2,r2,q2⟩=>hm pins s2 σ H2 x vs v us Q I2 r1 r2 q2
/- xs.append(e),list.index on a module's tuple .. are MtR facts of 06m -/
end
end L2
namespace L2
open PySem PySem.Spec PyProof.Rows
noncomputable def MtM(X:Cx)(id:String)(r:V->List V->Hp->VK->Prop):Prop:=
 ∀(pins:List (Addr×Obj)) (s:Shared) (σ:St) (H:Hp) (x:V) (xs:List V) (v:Value) (us:List Value) (Q:VK),Inv X pins σ H s->RelV x v->Vals xs us->r x xs H Q ->
   wpAny (model X.prog X.w) X.A (call (.builtin id) (v::us)) (EP X pins σ Q) X.xe s
theorem Vals.one:∀{x:V}{us:List Value},Vals [x] us -> ∃ u,us=[u]/\RelV x u
 | _,_,.cons r .nil=>⟨_,rfl,r⟩
section
variable{X:Cx}{pins:List (Addr×Obj)}{σ:St}{H:Hp}{s:Shared}{l b:Addr}{xs ys zs:List V}
theorem Inv.lset{its its':List Value}{n:Nat}{f:Array Value->Array Value}{t':Nat}(I:Inv X pins σ H s)(hH:H l=some (.lst xs))
 (e:s.heap.get? l=some { cls:=.type "list",data:=.seq its.toArray n }) (hf:f its.toArray=its'.toArray) (hv:Vals ys its') (hz:ys.length<=sizeLine) :
 Inv X pins σ (upd H l (.lst ys)) { s with heap:=s.heap.update l (Obj.mapSeq f),toks:=t' }:=by
 have q:=PySem.IsL.update e f;rw[hf]at q;refine I.write (x:=l) (e:=l) (by rw[hH];exact trivial) (.inl rfl) (fun b' u hb hu=>(Heap.get?_update_other s.heap (Obj.mapSeq f) (Ne.symm hb)).trans hu) ⟨_,q⟩ ?_
 exact⟨hz,its',_,hv,q⟩
theorem Inv.lnew{its:List Value}{t':Nat}(I:Inv X pins σ H s)(hv:Vals ys its)(hz:ys.length<=sizeLine) :
 Inv X pins σ (upd H s.heap.objs.size (.lst ys)) { s with heap:=s.heap.push { cls:=.type "list",data:=.seq its.toArray },toks:=t' }:=
 I.laid (fun _ _ q=>Heap.get?_push_of_some _ q) (Nat.le_refl _) ⟨hz,its,0,hv,Heap.get?_push_size _ rfl⟩
theorem Inv.fresh(I:Inv X pins σ H s):H s.heap.objs.size=none:=I.hok.fresh (Nat.le_refl _)
theorem Inv.lstM(I:Inv X pins σ H s)(hH:H l=some (.lst xs)):xs.length<=sizeLine /\ ∃(its:List Value) (n:Nat),Vals xs its/\xs.length=its.length/\s.heap.get? l=some { cls:=.type "list",data:=.seq its.toArray n }:=by
 obtain⟨z,its,n,r,e⟩:=I.hok l _ hH;exact⟨z,its,n,r,r.length,e⟩
end
section
variable{X:Cx}
noncomputable def rAppend:V->List V->Hp->VK->Prop:=fun x vs H Q=>∃ l xs y,x=.ref l/\vs=[y]/\H l=some (.lst xs)/\xs.length < sizeLine/\Q .non (upd H l (.lst (xs++[y])))
theorem mt_append:MtM X "list.append" rAppend:=by
 intro pins s σ H x vs v us Q I rx rv h;obtain⟨l,xs,y,rfl,rfl,hH,hz,q⟩:=h;cases rx;obtain⟨u,rfl,ru⟩:=rv.one;obtain⟨z,its,n,r,hl,e⟩:=I.lstM hH;refine call_meets F.slot_list_append ⟨_,e,rfl⟩ F.entry_list_append (F.args_list_append_2 _ _) (PySem.list_append l its.toArray n u (by rw[List.size_toArray];omega)) ⟨e,?_⟩
 refine⟨.non,_,I.lset (its':=its++[u]) hH e (by simp) (r.append (.cons ru .nil)) ?_,rfl,q⟩
 rw[List.length_append,List.length_singleton];omega
noncomputable def rCat:R2:=fun x y H Q=>∃ l b xs zs,x=.ref l/\y=.ref b/\H l=some (.lst xs)/\H b=some (.lst zs)/\xs.length+zs.length<=sizeLine /\ ∀ p,H p=none->Q (.ref p) (upd H p (.lst (xs++zs)))
theorem op_cat:OpR X (binaryOp .Add) rCat:=by
 intro pins s σ H x y v u Q I rx ry h;obtain⟨l,b,xs,zs,rfl,rfl,hH,hB,hz,q⟩:=h;cases rx;cases ry;obtain⟨z,its,n,r,hl,e⟩:=I.lstM hH;obtain⟨z2,its2,n2,r2,hl2,e2⟩:=I.lstM hB;refine PySem.P.add_list e e2 ?_ (by rw[List.size_toArray,List.size_toArray];omega)
 have ea:its.toArray++its2.toArray=(its++its2).toArray:=by simp
 rw[ea];exact⟨.ref _,_,I.lnew (t':=s.toks) (r.append r2) (by rw[List.length_append];omega),rfl,q _ I.fresh⟩
end
section
variable{prog:Program}{w:World}{A:Around}{E:Value->Shared->Prop}{s:Shared}
set_option maxRecDepth 100000 in
end
section
variable{X:Cx}
end
end L2
namespace L2
open PySem PySem.Spec PyProof.Rows
section
variable{κ:Type}[DecidableEq κ]
end
section
variable{P:Program}{w:World}{H:Hp}{h:Heap}{a:Addr}
end
section
variable{X:Cx}{pins:List (Addr×Obj)}{σ:St}{H:Hp}{s:Shared}{a:Addr}{y v:V}{u r:Value}{o:Option V}{A:Around}{E:Value->Shared->Prop}
end
section
variable{X:Cx}{pins:List (Addr×Obj)}{σ:St}{H:Hp}{s:Shared}{a:Addr}{kvs:List (Key×V)}{k:Key}{u:Value}{A:Around}{E:Value->Shared->Prop}
end
section
variable{X:Cx}{o i e value:Expr}{pos pos' tpos:Pos}{td ty tv:TE}
end
section
variable{X:Cx}{pos:Pos}
end
section
variable{X:Cx}{pins:List (Addr×Obj)}{σ:St}{H:Hp}{s:Shared}{a:Addr}{y d:V}{u r:Value}{o:Option V}{A:Around}{E:Value->Shared->Prop}
end
section
variable{X:Cx}{o e f:Expr}{apos cpos:Pos}{td ty tx:TE}
end
section
variable{X:Cx}{pins:List (Addr×Obj)}{σ:St}{H:Hp}{s:Shared}{a:Addr}{kvs:List (Key×V)}{A:Around}{E:Value->Shared->Prop}
end
section
variable{X:Cx}{pins:List (Addr×Obj)}{σ:St}{H:Hp}{s:Shared}{a:Addr}{y:V}{u:Value}{A:Around}{E:Value->Shared->Prop}
end
end L2
namespace Att
open PySem PySem.W PySem.Calls PyProof.Rows
theorem ints_of_wellAll{P:Params}{h:Heap}:∀(ns:List Int) (vs:List Value),WellAll P h vs (ns.map WData.int)->IntsAre vs ns:=by
 intro ns
 induction ns with
 | nil=>
   intro vs w;rw[List.map_nil]at w;cases w;exact .nil
 | cons n ns ih=>
   intro vs w;rw[List.map_cons]at w;cases w with
   | cons a b=>
     cases a;exact .cons _ _ (ih _ b)
theorem script_of{l:OpenLaw}{n:Nat}(hn:l.most=some n){P:Params}{h:Heap}{args:List WData}{vals:List Value}
 (hpre:l.row.toRowW.claim.pre args=true) (hwl:WellAll P h vals args) :
 ∃ a vs ns,vals=[Value.ref a]/\args=[WData.list (ns.map WData.int)]/\h.get? a=some { cls:=.type "list",data:=.seq vs.toArray } /\ IntsAre vs ns/\ns.length<=n:=by
 have hsh:WShape.hasAll [] args [.list .int]=true:=(pre_splitW hpre).1;have hc:l.pre.holds [] { args:=args }=true:=(pre_splitW hpre).2;obtain⟨d,r,rfl,h1,h2⟩:=hasAllW_cons hsh;obtain rfl:=hasAllW_nil h2;obtain⟨xs,rfl,h3⟩:=hasW_list h1;obtain⟨ns,rfl⟩:=items_int h3;have hlen:ns.length<=n:=by
  unfold OpenLaw.pre at hc;have h4:(WTm.not (.lt (.lit (.int (n:Int))) (.len (.arg 0)))).holds [] { args:=[.list (ns.map .int)] }=true:=by
   have h4:=(holds_andW hc).1;rw[hn]at h4;exact h4
  have h5:=condW_of h4 (w_not (w_lt w_lit (w_len_list (w_arg rfl))));rw[List.length_map]at h5;refine Nat.le_of_not_lt fun q=>?_;have q':(n:Int) < ((ns.length:Nat):Int):=by omega
  first
   | (rw[decide_eq_true q']at h5;exact absurd h5 (by decide))
   | (simp at h5;omega)
 cases hwl with
 | cons w1 w2=>
   cases w2;cases w1 with
   | list ho hall=>exact⟨_,_,ns,rfl,rfl,ho,ints_of_wellAll ns _ hall,hlen⟩
theorem post_true(l:OpenLaw)(args:List WData):l.row.toRowW.claim.post args (.bool true) args=true:=
 postW_of (r:=l.row.toRowW) (X:=(true == true))
  (show WShape.has [] (.bool true) .bool=true by first | rfl | decide | simp[WShape.has,WShape.arms,WShape.armsAll])
  (show(WTm.eq .res (.lit (.bool true))).value [] { args:=args,res:=some (.bool true),after:=args }=some (.bool (true == true))from w_eq_bool (w_res rfl) w_lit) rfl
theorem attach_call{l:OpenLaw}{n:Nat}{q:Program}{loose:List Str}{XP:(Str->Option Value)->Heap->Prop}{YP:World->Heap->Prop}{d:DefRec}
 (hn:l.most=some n) (hdf:d.params.defaults=[])
 (call:∀(w:World) (s₀ s₁:Shared) (mg mb:Str->Option Value) (fa:Addr) (o:Obj) (pm cd doc:Value) (a:Addr) (vs:List Value) (ns:List Int),
  Ground q loose [] XP w s₀ mg mb s₁.heap->YP w s₁.heap ->
  s₁.heap.get? fa=some o->o.data=.func (docDef d.name d.params d.body d.scope pm cd doc)->s₁.heap.CodeRec cd d.name->mg d.name=some (.ref fa) ->
  s₁.heap.get? a=some { cls:=.type "list",data:=.seq vs.toArray } -> IntsAre vs ns->ns.length<=n->s₁.gens=#[] ->
  codeAny (model l.prog w) callerA (.call (.ref fa) ⟨[.ref a],[]⟩) (fun r s'=>r=.ok (.ret (.bool true))/\OldK s₁.heap s'.heap/\s'.os=s₁.os/\AllBare s'.gens) s₁) :
 WalkO q loose XP YP l.row.toRowW d [] (fun f vs=>PySem.call f vs):=by
 intro w s₀ s₁ mg mb G Y fa o pm cd doc dV kV ho hd hcd hD hmg hg args vals as hpre hlay hrd hwl hlo;obtain rfl:dV=.none:=Dflts.none hD hdf;obtain rfl:kV=.none:=Dflts.noKw hD;obtain⟨a,vs,ns,rfl,rfl,hobj,hints,hlen⟩:=script_of hn hpre hwl;refine enter_call (codeAny_mono (call w s₀ s₁ mg mb fa o pm cd doc a vs ns G Y ho (fd_plain hd) hcd hmg hobj hints hlen hg) fun r s' hq=>?_);obtain⟨rfl,h2,h3,h4⟩:=hq;exact⟨.inl ⟨.bool true,.bool true,[],rfl,fun _=>rfl,.bool true,post_true l _,fun _=>⟨List.Pairwise.nil,fun _ hm=>(nomatch hm)⟩⟩,h2,h3,h4⟩
section
variable{prog:Program}{w:World}{A:Around}{E:Value->Shared->Prop}{s:Shared}{K:Frag}
end
end Att
namespace L2
open PySem PySem.Spec PyProof.Rows
theorem vals_ints:∀{vs:List Value}{ns:List Int},IntsAre vs ns->Vals (ns.map V.int) vs
 | _,_,.nil=>.nil
 | _,_,.cons n t h=>.cons ⟨t,rfl⟩ (vals_ints h)
noncomputable def Only(H:Hp):Prop:=∀ b,H b=none ∨ ∃ o xs,H b=some (.frz o (.lst xs))
theorem law_call{P:Program}{w:World}{K:W.Frag}{mg mb:Str->Option Value}{CX:CXT}{k:Nat}{fa a:Addr}{fd:FuncData}{x:Str}{sp:Sp}{s₁:Shared}{vs:List Value}{ns:List Int}
 (KX:K.In s₁.heap) (hns:s₁.heap.Ns mainGlobals mg) (hb:s₁.heap.Ns builtinsNs mb) (hbb:∀ x:Str,x ≠ "__name__" -> mb x=bootBuiltins x) (hlim:s₁.heap.NoLimit) (hg:s₁.gens=#[])
 (ha:s₁.heap.get? a=some { cls:=.type "list",data:=.seq vs.toArray }) (hi:IntsAre vs ns) (hl:ns.length<=sizeLine) (hr:Room k callerA)
 (F:∀ base:Heap,K.In base->base.Ns mainGlobals mg->FnOk P w K mg base CX k fa fd [x] sp) (hbind:∀(s:Shared) (u:Value),BindsTo s fd ⟨[u],[]⟩ [(x,u)])
 (hsp:∀ H:Hp,Only H->SqL K H a (ns.map V.int)->sp [.ref a] H (fun v _=>v=.bl true) fun _ _ _=>False)
 (hCX:∀ H e s',CX [] H s₁ (fun _ _ _=>False) e s'->False) :
 codeAny (model P w) callerA (.call (.ref fa) ⟨[.ref a],[]⟩) (fun r s'=>r=.ok (.ret (.bool true))/\OldK s₁.heap s'.heap/\s'.os=s₁.os/\AllBare s'.gens) s₁:=by
 have rv:=vals_ints hi;have lenV:=hi.length
 -- from an abstract heap in which nothing but the script may be tracked
 have core:∀ H:Hp,Only H->SqL K H a (ns.map V.int)->HOk P w H s₁.heap->(∀ b,H b≠none->b=a)->(H a≠none->K.lookup a=none) ->
  codeAny (model P w) callerA (.call (.ref fa) ⟨[.ref a],[]⟩) (fun r s'=>r=.ok (.ret (.bool true))/\OldK s₁.heap s'.heap/\s'.os=s₁.os/\AllBare s'.gens) s₁:=by
  intro H hO hS hok hA hK;have base_of:∀{b:Addr}{o:Obj},s₁.heap.get? b=some o->H b=none->(hidT s₁.heap H).get? b=some o:=fun e n=>hidT_get e n;have noA:∀{b:Addr}{o:Obj}{es:Array DictEntry}{ep:Nat},s₁.heap.get? b=some o->o.data=.dict es ep->H b=none:=fun {b o es ep} e d=>by
   cases q:H b with
   | none=>rfl
   | some u=>
     have e':b=a:=hA b (by rw[q];simp)
     subst e';rw[ha]at e;cases e;have d':Data.seq vs.toArray _=Data.dict es ep:=d;cases d'
  have nsK:∀{b:Addr}{m:Str->Option Value},s₁.heap.Ns b m->(hidT s₁.heap H).Ns b m:=fun {b m} ⟨o,es,ep,e,d,r⟩=>⟨o,es,ep,base_of e (noA e d),d,r⟩;have hKb:K.In (hidT s₁.heap H):=fun b o e=>base_of (KX b o e) (by
   cases q:H b with
   | none=>rfl
   | some u=>
     have e':b=a:=hA b (by rw[q];simp)
     subst e';rw[hK (by rw[q];simp)]at e;cases e)
  have hM:Mod K mg (hidT s₁.heap H):=⟨hKb,nsK hns,⟨mb,nsK hb,hbb⟩,let⟨mc,h1,h2⟩:=hlim;⟨mc,nsK h1,h2⟩⟩;have e0:Env0 P w K mg (hidT s₁.heap H) callerA [] s₁ H:=⟨rfl,hM,fun b o e=>of_hidT e,Nat.le_of_eq (hidT_size _ _),trivial,fun b hb=>absurd (show b∈([]:List Addr)from hb) (by simp),hok,.of_eq hg⟩
  refine codeAny_mono ((F _ hKb (nsK hns)).run callerA [] s₁ H ⟨[.ref a],[]⟩ [.ref a] [.ref a] _ _ hr e0 (hbind s₁ (.ref a)) (.cons rfl .nil) (hsp H hO hS)) fun r s' h=>?_;cases r with
  | error e=>exact(hCX H e s' h).elim
  | ok fl=>
    cases fl with
    | next=>exact False.elim h
    | brk=>exact False.elim h
    | cont=>exact False.elim h
    | ret u=>
      obtain⟨v,H',os,bare,un,hok',r',q⟩:=h;have q':v=.bl true:=q;subst q';obtain rfl:u=Value.bool true:=r';refine⟨rfl,OldK.of_keep fun b o e=>?_,os,bare⟩;cases q:H b with
      | none=>exact un.keep b o e q (by intro z;exact absurd (show b∈([]:List Addr)from z) (by simp)) (by simp)
      | some u=>
        rcases hO b with z | ⟨ob,xs,z⟩
        · rw[q]at z;cases z
        have z2:=un.frzs b ob _ z;obtain⟨e1,_⟩:=hok b _ z;obtain⟨e2,_⟩:=hok' b _ z2;rw[e]at e1;cases e1;exact e2
 cases hk:K.lookup a with
 | some o=>
   -- the script is one of the module's own objects
   have e:=KX a o hk;rw[ha]at e;cases e;refine core (fun _=>none) (fun _=>.inl rfl) (.inr ⟨_,vs.toArray,_,hk,rfl,rfl,rfl,by rw[List.size_toArray,lenV];exact hl,by simpa using rv⟩) (fun b u z=>by have z':(none:Option HO)=some u:=z;cases z') (fun b z=>absurd rfl z) fun z=>absurd rfl z
 | none=>
   refine core (fun b=>if b=a then some (.frz { cls:=.type "list",data:=.seq vs.toArray } (.lst (ns.map V.int)))else none) (fun b=>?_) (.inl (.inr ⟨{ cls:=.type "list",data:=.seq vs.toArray },if_pos rfl⟩)) (fun b u z=>?_) (fun b z=>?_) fun _=>hk
   · by_cases hb:b=a
     · exact .inr ⟨_,_,if_pos hb⟩
     exact .inl (if_neg hb)
   · by_cases hb:b=a
     · have z':=(if_pos hb).symm.trans z
       cases z';subst hb;exact⟨ha,by rw[List.length_map];exact hl,vs,_,rv,ha⟩
     have z':=(if_neg hb).symm.trans z;cases z'
   by_cases hb:b=a
   · exact hb
   exact absurd (if_neg hb) z
end L2
namespace L2
open PySem PySem.Spec PyProof.Rows
theorem walk_of{l:W.OpenLaw}{n k:Nat}{q:Program}{loose:List Str}{XP:(Str->Option Value)->Heap->Prop}{YP:World->Heap->Prop}{d:DefRec}{K:Params->W.Frag}{CX:World->CXT}{sp:World->Sp}{x:Str}
 (hn:l.most=some n) (hn2:n<=sizeLine) (hdf:d.params.defaults=[]) (hr:Room k callerA)
 (hY:∀(w:World) (h:Heap),YP w h->(K w.params).In h)
 (F:∀(w:World) (mg:Str->Option Value) (fa:Addr) (h:Heap),(K w.params).In h->h.Ns mainGlobals mg->mg d.name=some (.ref fa) ->
  ∃ fd:FuncData,(∀(s:Shared) (u:Value),BindsTo s fd ⟨[u],[]⟩ [(x,u)]) /\
    ∀ base:Heap,(K w.params).In base->base.Ns mainGlobals mg->FnOk l.prog w (K w.params) mg base (CX w) k fa fd [x] (sp w))
 (hsp:∀(w:World) (H:Hp) (a:Addr) (ns:List Int),ns.length<=n->Only H->SqL (K w.params) H a (ns.map V.int)->sp w [.ref a] H (fun v _=>v=.bl true) fun _ _ _=>False)
 (hCX:∀(w:World) (H:Hp) (s:Shared) (e:Value) (s':Shared),CX w [] H s (fun _ _ _=>False) e s'->False) :
 W.WalkO q loose XP YP l.row.toRowW d [] (fun f vs=>PySem.call f vs):=by
 refine Att.attach_call hn hdf fun w s₀ s₁ mg mb fa o pm cd doc a vs ns G Y ho hd hcd hmg hobj hints hlen hg=>?_;have KX:=hY w _ Y;obtain⟨fd,hb,hF⟩:=F w mg fa _ KX G.T.g hmg;exact law_call KX G.T.g G.T.b G.T.builtins G.T.nolimit hg hobj hints (Nat.le_trans hlen hn2) hr hF hb (fun H hO hS=>hsp w H a ns hlen hO hS) fun H e s'=>hCX w H s₁ e s'
end L2
/- THE LAST THEOREM (shape;LID,My.* are yours):
   My.Adr: a structure of the addresses that your layer names (classes,functions);My.Txt K t: a structure (Prop) of the equations over K;
   My.txt_mk:{K}{implicit addresses ..} (e1:nsIn K mainGlobals "law"=some (some (.ref f))) (e2:K.lookup f=some ⟨oc,od,.func (fnOf "law" "law" params body scope dV kV doc pm an cdv ct),sl⟩) (e3:codeIn K cdv "law"=true) ..:∃ t,My.Txt K t
set_option maxRecDepth 100000 in
set_option maxHeartbeats 0 in
theorem PySem.Challenge.cw_LID_holds : PySem.Challenge.rw_LID.Holds := by
 w_on;o_law;k_head;(case hw=>w_witness2)
 k_fill
 refine L2.walk_of (l:=PySem.Challenge.rw_LID) (n:=63) (k:=40) (x:="script") (CX:=fun w=>..) (sp:=fun _=>My.sp_law) rfl (by decide) rfl ⟨rfl,by decide,by decide⟩ (fun w h Y=>W.kIn_of Y) ?F ?S ?C
 case F=>
  intro w mg fa h KX G hmg;have T:∃ t,My.Txt (L2.KOf KX) t:=by
   dsimp only[L2.KOf]                          -- K must stand as «<heap const> w.params» for k_is
   refine' My.txt_mk ?e1 ?e2 ?e3 ..
   (case e1=>W.k_is)                    -- in the order: a name->its address->its object->its parts
   (case e2=>W.k_is)
   ..
  obtain⟨t,T⟩:=T;have e0:=hmg.symm.trans (W.mg_of KX G T.law);cases e0                                       -- fa is the law's own address;exact⟨_,fun s u=>.of_eq rfl,fun base kb nb=>My.law_fn T kb nb⟩     -- if «.of_eq rfl» comes too early: refine' ⟨_,?b,fun base kb nb=>My.law_fn T kb nb⟩;exact fun s u=>.of_eq rfl
 case S=>exact fun w H a ns hl hO hS=>..
 case C=>exact ..
(the tactic k_is has no namespace: write k_is) -/
namespace L2
open PySem PySem.Spec PyProof.Rows
noncomputable def defArgs(s:Stmt):Arguments:=match s with
 | .FunctionDef _ a _ _ _ _ _ _ _ _=>a
 | _=>{ posonlyargs:=[],args:=[],vararg:=none,kwonlyargs:=[],kw_defaults:=[],kwarg:=none,defaults:=[] }
noncomputable def defBody(s:Stmt):List Stmt:=match s with
 | .FunctionDef _ _ b _ _ _ _ _ _ _=>b
 | _=>[]
noncomputable def defScope(s:Stmt):Scope:=match s with
 | .FunctionDef _ _ _ _ _ _ sc _ _ _=>sc
 | _=>{ kind:=.function,names:=[],isGenerator:=false,isCoroutine:=false }
noncomputable abbrev CX0:CXT:=fun _ _ _ _ _ _=>False
noncomputable abbrev E0:XK:=fun _ _ _=>False
theorem pass0{X:Cx}:Passes CX0 X E0:=fun _ _ _ _ _ _ _ h=>h.elim
structure Fun(K:W.Frag)(x qual:Str)(st:Stmt)(f:Addr)(fd:FuncData):Prop where
 ex:∃(oc:Value) (od:Option Addr) (kV doc pm:Value) (an:Option Addr) (cdv ct:Value) (osl:Array (Option Value)),
  fd=W.fnOf x qual (defArgs st) (defBody st) (defScope st) .none kV doc pm an cdv ct/\K.lookup f=some ⟨oc,od,.func fd,osl⟩/\W.codeIn K cdv qual=true
 kp:W.keepIn K (.ref f)=true
section
variable{P:Program}{w:World}{K:W.Frag}{mg:Str->Option Value}{base:Heap}
theorem Fun.ok{x qual:Str}{st:Stmt}{f:Addr}{fd:FuncData}{N ps:List Str}{k:Nat}{sp:Sp}(F:Fun K x qual st f fd)(S:FnScope N ps (defScope st))(len:∀ vs H Q E,sp vs H Q E->vs.length=ps.length)
 (hbody:∀(cdv:Value) (A:Around) (outer:List Env) (s:Shared) (H:Hp) (vs:List V) (Q:VK) (E:XK),Room k (A.deeper (envOfC qual (defScope st) s.heap.objs.size f cdv))->sp vs H Q E ->
  ∃ t,PSs (cxOf CX0 P w K mg base N qual (defScope st) f cdv A outer s H E).nox (defBody st) t/\t { nx:=fun _ H'=>Q .non H',rt:=Q } (start N vs) H):FnOk P w K mg base CX0 (k+1) f fd ps sp:=by
 obtain⟨oc,od,kV,doc,pm,an,cdv,ct,osl,rfl,lk,hcd⟩:=F.ex;refine fn_of lk hcd S len fun A outer s H vs Q E hr hsp=>?_;obtain⟨t,h,q⟩:=hbody cdv A outer s H vs Q E hr hsp;exact⟨t,h.nox,q⟩
theorem Fun.binds{x qual:Str}{st:Stmt}{f:Addr}{fd:FuncData}{ps:List Str}(F:Fun K x qual st f fd)
 (h:∀(kV doc pm:Value) (an:Option Addr) (cdv ct:Value) (us:List Value),us.length=ps.length->bindArgs (W.fnOf x qual (defArgs st) (defBody st) (defScope st) .none kV doc pm an cdv ct) ⟨us,[]⟩=pure (ps.zip us)):Binds K fd ps []:=by
 obtain⟨oc,od,kV,doc,pm,an,cdv,ct,osl,rfl,lk,hcd⟩:=F.ex;exact .all (h kV doc pm an cdv ct)
theorem fun_mk{x qual:Str}{st:Stmt}{f:Addr}{oc:Value}{od an:Option Addr}{osl:Array (Option Value)}{kV doc pm cdv ct:Value}(l:K.lookup f=some ⟨oc,od,.func (W.fnOf x qual (defArgs st) (defBody st) (defScope st) .none kV doc pm an cdv ct),osl⟩)
 (c:W.codeIn K cdv qual=true) (k:W.keepIn K (.ref f)=true):Fun K x qual st f (W.fnOf x qual (defArgs st) (defBody st) (defScope st) .none kV doc pm an cdv ct):=⟨⟨oc,od,kV,doc,pm,an,cdv,ct,osl,rfl,l,c⟩,k⟩
end
section
variable{X:Cx}
end
theorem iteF{A B:Prop}(h:B):if false=true then A else B:=by
 rw[if_neg Bool.false_ne_true];exact h
theorem iteT{A B:Prop}(h:A):if true=true then A else B:=by
 rw[if_pos rfl];exact h
theorem ite2{c A B:Prop}[Decidable c](h1:c->A)(h2:¬ c->B):if c then A else B:=by
 by_cases h:c
 · rw[if_pos h]
   exact h1 h
 rw[if_neg h];exact h2 h
noncomputable def Same(H H':Hp):Prop:=∀ b o,H b=some o->H' b=some o
theorem Same.refl(H:Hp):Same H H:=fun _ _ h=>h
theorem Same.trans{H H1 H2:Hp}(a:Same H H1)(b:Same H1 H2):Same H H2:=fun c o h=>b c o (a c o h)
theorem Same.free{H H':Hp}(e:Same H H'){l:Addr}(h:H' l=Option.none):H l=Option.none:=by
 cases q:H l with
 | none=>rfl
 | some o=>
   rw[e l o q]at h;cases h
theorem Same.seq{K:W.Frag}{H H':Hp}{a:Addr}{xs:List V}(e:Same H H')(h:SqL K H a xs):SqL K H' a xs:=by
 rcases h with (h | ⟨o,h⟩) | h
 · exact .inl (.inl (e _ _ h))
 · exact .inl (.inr ⟨o,e _ _ h⟩)
 exact .inr h
section
variable{κ:Type}[DecidableEq κ]
end
end L2
namespace SW
open PySem PySem.Spec PyProof.Rows L2
theorem b_int:bootBuiltins "int"=some (.type "int"):=by decide +kernel
structure Bx(p:Prop):Prop where
 out:p
structure Fn(P:Program)(w:World)(K:W.Frag)(mg:Str->Option Value)(base:Heap)(x:Str)(k:Nat)(ps:List Str)(sp:Sp):Prop where
 ex:∃(f:Addr) (fd:FuncData),FnOk P w K mg base CX0 k f fd ps sp/\mg x=some (.ref f)/\W.keepIn K (.ref f)=true/\Binds K fd ps []
structure Dfn(K:W.Frag)(mg:Str->Option Value)(x:Str)(st:Stmt)(ps:List Str):Prop where
 ex:∃(f:Addr) (fd:FuncData),Fun K x x st f fd/\mg x=some (.ref f)/\Binds K fd ps []
theorem Dfn.fn{P:Program}{w:World}{K:W.Frag}{mg:Str->Option Value}{base:Heap}{x:Str}{st:Stmt}{N ps:List Str}{k:Nat}{sp:Sp}(d:Dfn K mg x st ps)(S:FnScope N ps (defScope st))(len:∀ vs H Q E,sp vs H Q E->vs.length=ps.length)
 (hbody:∀(f:Addr) (cdv:Value) (A:Around) (outer:List Env) (s:Shared) (H:Hp) (vs:List V) (Q:VK) (E:XK),Room k (A.deeper (envOfC x (defScope st) s.heap.objs.size f cdv))->sp vs H Q E ->
  ∃ t,Bx (PSs (cxOf CX0 P w K mg base N x (defScope st) f cdv A outer s H E).nox (defBody st) t)/\t { nx:=fun _ H'=>Q .non H',rt:=Q } (start N vs) H):Fn P w K mg base x (k+1) ps sp:=by
 obtain⟨f,fd,F,hm,hb⟩:=d.ex;exact⟨f,fd,F.ok S len (fun cdv A outer s H vs Q E hr h=>let⟨t,h1,h2⟩:=hbody f cdv A outer s H vs Q E hr h;⟨t,h1.out,h2⟩),hm,F.kp,hb⟩
theorem fun_bx{P:Program}{w:World}{K:W.Frag}{mg:Str->Option Value}{base:Heap}{x qual:Str}{st:Stmt}{f:Addr}{fd:FuncData}{N ps:List Str}{k:Nat}{sp:Sp}(F:Fun K x qual st f fd)(S:FnScope N ps (defScope st))(len:∀ vs H Q E,sp vs H Q E->vs.length=ps.length)
 (hbody:∀(cdv:Value) (A:Around) (outer:List Env) (s:Shared) (H:Hp) (vs:List V) (Q:VK) (E:XK),Room k (A.deeper (envOfC qual (defScope st) s.heap.objs.size f cdv))->sp vs H Q E ->
  ∃ t,Bx (PSs (cxOf CX0 P w K mg base N qual (defScope st) f cdv A outer s H E).nox (defBody st) t)/\t { nx:=fun _ H'=>Q .non H',rt:=Q } (start N vs) H):FnOk P w K mg base CX0 (k+1) f fd ps sp:=
 F.ok S len (fun cdv A outer s H vs Q E hr h=>let⟨t,h1,h2⟩:=hbody cdv A outer s H vs Q E hr h;⟨t,h1.out,h2⟩)
noncomputable def plainE:Expr->Bool
 | .Starred _ _=>false
 | _=>true
theorem star_of{e:Expr}{es:List Expr}{env:Env}(h:plainE e=true):starEach (e::es) env=(false,eval e env)::starEach es env:=by
 cases e <;> first | rfl | exact absurd h Bool.false_ne_true
theorem star_any{pos:Pos}{env:Env}:∀{es:List Expr},es.all plainE=true->(backTo pos (starEach es env)).any (·.1)=false
 | [],_=>rfl
 | e::es,h=>by
   rw[List.all_cons,Bool.and_eq_true]at h;rw[star_of h.1];show(false || (backTo pos (starEach es env)).any (·.1))=false;rw[star_any h.2]
   rfl
theorem star_all{pos:Pos}{env:Env}:∀{es:List Expr},es.all plainE=true->(backTo pos (starEach es env)).all (fun x=>!x.1)=true
 | [],_=>rfl
 | e::es,h=>by
   rw[List.all_cons,Bool.and_eq_true]at h;rw[star_of h.1];show(true && (backTo pos (starEach es env)).all (fun x=>!x.1))=true;rw[star_all h.2]
   rfl
section
variable{X:Cx}{x:Str}{p pos:Pos}{e:Expr}{es:List Expr}{t:TA}{te:TE}{k:Nat}{ps:List Str}{sp:Sp}
theorem pac(ha:PE X e te)(hr:PA X es t)(h:plainE e=true:=by rfl):PA X (e::es) (tCons te t):=pa_cons ha hr (star_of h)
theorem pe_fn(F:Fn X.prog X.w X.K X.mg X.base x k ps sp)(hr:Room k X.A)(ha:PA X (e::es) t)(hg:Gl X x:=by rfl)(hdb:(x == ("__debug__":Str))=false:=by decide)(h1:plainE e=true:=by rfl)(h2:es.all plainE=true:=by rfl) :
 PE X (.Call (.Name x p) (e::es) [] pos) (tCall sp [] E0 t):=by
 obtain⟨f,fd,G,hm,kp,b⟩:=F.ex;exact pe_call G hr hg hm kp b .nil pass0 ha hdb (star_of h1) (star_any h2)
theorem pe_cB{id:String}{r:List V->Hp->VK->Prop}(hc:CallR X (.builtin id) r)(hm:X.mg x=none)(hv:bootBuiltins x=some (.builtin id))(ha:PA X (e::es) t)(hg:Gl X x:=by rfl)(hn:x ≠ "__name__":=by decide)(hdb:(x == ("__debug__":Str))=false:=by decide)
 (h1:plainE e=true:=by rfl) (h2:es.all plainE=true:=by rfl):PE X (.Call (.Name x p) (e::es) [] pos) (tCB r t):=pe_callB hc hg hm hv ha hn hdb (star_of h1) (star_any h2)
theorem pe_cT{T:String}{r:List V->Hp->VK->Prop}(hc:CallR X (.type T) r)(hm:X.mg x=none)(hv:bootBuiltins x=some (.type T))(ha:PA X (e::es) t)(hg:Gl X x:=by rfl)(hn:x ≠ "__name__":=by decide)(hdb:(x == ("__debug__":Str))=false:=by decide)
 (h1:plainE e=true:=by rfl) (h2:es.all plainE=true:=by rfl):PE X (.Call (.Name x p) (e::es) [] pos) (tCB r t):=pe_callTy hc hg hm hv ha hn hdb (star_of h1) (star_any h2)
theorem pe_m{T name id:_}{r:V->List V->Hp->VK->Prop}{o:Expr}{to:TE}{apos cpos:Pos}(pa:PlainAttrs T)(slot:Slot T name id)(hty:typeOf (.builtin id)=pure (.type "method_descriptor"))(hm:MtR X id r)(ho:PE X o to)(ha:PA X (e::es) t)
 (hbase:attributeBase o name X.env (eval o X.env)=eval o X.env:=by rfl) (hl:decide ((e::es).length+([]:List Keyword).length+(if([]:List Keyword).isEmpty then 0 else 1) < 30)=true:=by rfl)
 (hline:(apos.endLine == cpos.line)=true:=by rfl) (h1:plainE e=true:=by rfl) (h2:es.all plainE=true:=by rfl) :
 PE X (.Call (.Attribute o name apos) (e::es) [] cpos) (tBM X.K T r to t):=by
 refine pe_bm pa slot hty hm ho ha hbase ?_ hline (star_of h1) (star_any h2);have hA:(e::es).all plainE=true:=by rw[List.all_cons,h1,h2];rfl
 rw[star_all hA,hl]
 rfl
theorem pi_r1{tg a:Expr}{ta:TA}(hm:X.mg "range"=none)(ha:PA X [a] ta)(hg:Gl X "range":=by rfl)(h1:plainE a=true:=by rfl):PI X tg (.Call (.Name "range" p) [a] [] pos) (iRng1 ta):=
 pi_range1 hg hm ha (star_of h1)
theorem pe_gint{i:Int}(h:∃ t,X.mg x=some (.int i t))(hg:Gl X x:=by rfl)(hd:(x == ("__debug__":Str))=false:=by decide):PE X (.Name x pos) (tC (.int i)):=by
 obtain⟨t,h⟩:=h;exact pe_glob hg h ⟨t,rfl⟩ hd
end
namespace B
section
variable{X:Cx}{x f:Str}{p pos:Pos}{e a b c o:Expr}{es:List Expr}{t:TA}{te ta tb tc to ti:TE}{k:Nat}{ps:List Str}{sp:Sp}{tg:Expr}
theorem int{i j pos}:Bx (PE X (.Constant (.int i) j pos) (tC (.int i))):=⟨pe_int⟩
theorem bl{b j pos}:Bx (PE X (.Constant (.bool b) j pos) (tC (.bl b))):=⟨pe_bl⟩
theorem v(i:Nat){x:Str}{pos:Pos}(hN:X.N[i]?=some x:=by rfl)(hv:Vis X.env.scope x:=by first | exact Or.inl rfl | exact Or.inr (Or.inl rfl) | exact Or.inr (Or.inr rfl))(hd:(x == ("__debug__":Str))=false:=by decide)
 (hcd:(x == ("__classdict__":Str))=false:=by decide):Bx (PE X (.Name x pos) (tVar i)):=⟨pe_var hN hv hd hcd⟩
theorem gint{i:Int}(h:∃ t,X.mg x=some (.int i t))(hg:Gl X x:=by rfl)(hd:(x == ("__debug__":Str))=false:=by decide):Bx (PE X (.Name x pos) (tC (.int i))):=⟨pe_gint h hg hd⟩
theorem op{op:Operator}{r:R2}(ho:OpR X (binaryOp op) r)(ha:Bx (PE X a ta))(hb:Bx (PE X b tb)):Bx (PE X (.BinOp a op b pos) (tOp r ta tb)):=⟨pe_op ho ha.out hb.out⟩
theorem not(ha:Bx (PE X a ta)):Bx (PE X (.UnaryOp .Not a pos) (tNotV ta)):=⟨pe_not ha.out⟩
theorem cmp{op:CmpOp}{r:R2}(ho:OpR X (compareOp op) r)(ha:Bx (PE X a ta))(hb:Bx (PE X b tb))(hm:behindInMarks op b=false:=by exact nomark _):Bx (PE X (.Compare a [op] [b] pos) (tOp r ta tb)):=⟨pe_cmpR ho ha.out hb.out hm⟩
theorem chain{op op':CmpOp}{r r':R2}(ho:OpR X (compareOp op) r)(ho':OpR X (compareOp op') r')(ha:Bx (PE X a ta))(hb:Bx (PE X b tb))(hc:Bx (PE X c tc))(hm:lastMarks [op,op'] [b,c]=false:=by with_unfolding_all rfl) :
 Bx (PE X (.Compare a [op,op'] [b,c] pos) (tChain r r' ta tb tc)):=⟨pe_chain ho ho' ha.out hb.out hc.out hm⟩
theorem nil:Bx (PA X [] tNil):=⟨pa_nil⟩
theorem cons(ha:Bx (PE X e te))(hr:Bx (PA X es t))(h:plainE e=true:=by rfl):Bx (PA X (e::es) (tCons te t)):=⟨pac ha.out hr.out h⟩
theorem lst(h:Bx (PA X es t)):Bx (PE X (.List es pos) (tLst t)):=⟨pe_lst h.out⟩
theorem tup{x1}(h:Bx (PA X es t)):Bx (PE X (.Tuple es x1 pos) (tTup t)):=⟨pe_tup h.out⟩
theorem ix{r:R2}(hr:IxR X r)(ha:Bx (PE X a ta))(hb:Bx (PE X b tb))(hs:PlainIx b:=by exact fun _ _=>rfl):Bx (PE X (.Subscript a b pos) (tOp r ta tb)):=⟨pe_ix hr ha.out hb.out hs⟩
theorem nopart:Bx (PO X none tNoPart):=⟨po_none⟩
theorem part(h:Bx (PE X e te)):Bx (PO X (some e) (tPart te)):=⟨po_some h.out⟩
theorem slice{lo hi:Option Expr}{tl th:TO}{p2:Pos}{r:V->Option Int->Option Int->Hp->VK->Prop}(hr:SlR X r)(he:Bx (PE X e te))(hl:Bx (PO X lo tl))(hu:Bx (PO X hi th)):Bx (PE X (.Subscript e (.Slice lo hi none p2) pos) (tSl r te tl th)):=⟨pe_slice hr he.out hl.out hu.out⟩
theorem fn(F:Fn X.prog X.w X.K X.mg X.base x k ps sp)(hr:Room k X.A)(ha:Bx (PA X (e::es) t))(hg:Gl X x:=by rfl)(hdb:(x == ("__debug__":Str))=false:=by decide)(h1:plainE e=true:=by rfl)(h2:es.all plainE=true:=by rfl) :
 Bx (PE X (.Call (.Name x p) (e::es) [] pos) (tCall sp [] E0 t)):=⟨pe_fn F hr ha.out hg hdb h1 h2⟩
theorem cB{id:String}{r:List V->Hp->VK->Prop}(hc:CallR X (.builtin id) r)(hm:X.mg x=none)(hv:bootBuiltins x=some (.builtin id))(ha:Bx (PA X (e::es) t))(hg:Gl X x:=by rfl)(hn:x ≠ "__name__":=by decide)(hdb:(x == ("__debug__":Str))=false:=by decide)
 (h1:plainE e=true:=by rfl) (h2:es.all plainE=true:=by rfl):Bx (PE X (.Call (.Name x p) (e::es) [] pos) (tCB r t)):=⟨pe_cB hc hm hv ha.out hg hn hdb h1 h2⟩
theorem cT{T:String}{r:List V->Hp->VK->Prop}(hc:CallR X (.type T) r)(hm:X.mg x=none)(hv:bootBuiltins x=some (.type T))(ha:Bx (PA X (e::es) t))(hg:Gl X x:=by rfl)(hn:x ≠ "__name__":=by decide)(hdb:(x == ("__debug__":Str))=false:=by decide)
 (h1:plainE e=true:=by rfl) (h2:es.all plainE=true:=by rfl):Bx (PE X (.Call (.Name x p) (e::es) [] pos) (tCB r t)):=⟨pe_cT hc hm hv ha.out hg hn hdb h1 h2⟩
theorem m{T name id:_}{r:V->List V->Hp->VK->Prop}{apos cpos:Pos}(pa:PlainAttrs T)(slot:Slot T name id)(hty:typeOf (.builtin id)=pure (.type "method_descriptor"))(hm:MtR X id r)(ho:Bx (PE X o to))(ha:Bx (PA X (e::es) t))
 (hbase:attributeBase o name X.env (eval o X.env)=eval o X.env:=by rfl) (hl:decide ((e::es).length+([]:List Keyword).length+(if([]:List Keyword).isEmpty then 0 else 1) < 30)=true:=by rfl)
 (hline:(apos.endLine == cpos.line)=true:=by rfl) (h1:plainE e=true:=by rfl) (h2:es.all plainE=true:=by rfl) :
 Bx (PE X (.Call (.Attribute o name apos) (e::es) [] cpos) (tBM X.K T r to t)):=⟨pe_m pa slot hty hm ho.out ha.out hbase hl hline h1 h2⟩
theorem tcmp{op:CmpOp}{r:R2}(ho:OpR X (compareOp op) r)(ha:Bx (PE X a ta))(hb:Bx (PE X b tb))(hm:behindInMarks op b=false:=by exact nomark _):Bx (PT X (.Compare a [op] [b] pos) (tTest (tOp r ta tb))):=⟨pt_cmpR ho ha.out hb.out hm⟩
theorem tchain{op op':CmpOp}{r r':R2}(ho:OpR X (compareOp op) r)(ho':OpR X (compareOp op') r')(ha:Bx (PE X a ta))(hb:Bx (PE X b tb))(hc:Bx (PE X c tc))(hm:lastMarks [op,op'] [b,c]=false:=by with_unfolding_all rfl) :
 Bx (PT X (.Compare a [op,op'] [b,c] pos) (tTest (tChain r r' ta tb tc))):=⟨pt_chain ho ho' ha.out hb.out hc.out hm⟩
theorem tval(h:Bx (PE X e te))(he:∀ whole,isTrue e X.env whole=(do let v ← whole;standAt e.pos;holding [v] (truthy v)):=by intro _;rfl):Bx (PT X e (tB te)):=⟨pt_val h.out he⟩
theorem tnot{tA:TT}(ha:Bx (PT X a tA)):Bx (PT X (.UnaryOp .Not a pos) (tNot tA)):=⟨pt_not ha.out⟩
theorem wor1{tA:TT}(ha:Bx (PT X a tA)):Bx (PW X (.BoolOp .Or [a] pos) tA):=⟨pw_or1 ha.out⟩
theorem wor{tA tB':TT}{rest:List Expr}(ha:Bx (PT X a tA))(hb:Bx (PW X (.BoolOp .Or (b::rest) pos) tB')):Bx (PW X (.BoolOp .Or (a::b::rest) pos) (tOr tA tB')):=⟨pw_or ha.out hb.out⟩
theorem tw{tA:TT}(h:Bx (PW X e tA)):Bx (PT X e tA):=⟨h.out.pt⟩
theorem gname{i:Nat}(hN:X.N.Nodup)(hi:X.N[i]?=some x:=by rfl)(hx:Loc X.env.scope x:=by first | exact Or.inl rfl | exact Or.inr rfl)(hf:X.fn x=true∨X.env.scope.names.lookup x=some .local:=by first | exact .inl rfl | exact .inr rfl):Bx (PG X (.Name x pos) (gName i)):=⟨pg_name hN hi hx hf⟩
theorem gnil:Bx (PGs X [] gNil):=⟨pgs_nil⟩
theorem gcons{g:TG}{u:TGs}(h1:Bx (PG X e g))(h2:Bx (PGs X es u))(hs:(assignEach (e::es) X.env).map (·.2)=assign e X.env::(assignEach es X.env).map (·.2):=by rfl):Bx (PGs X (e::es) (gCons g u)):=⟨pgs_cons h1.out h2.out hs⟩
theorem gtup{kk n:Nat}{u:TGs}(h:Bx (PGs X es u))(hc:X.calm=true:=by rfl)(hn:(assignEach es X.env).length=n:=by rfl)(hst:(assignEach es X.env).findIdx? (·.1)=none:=by rfl):Bx (PG X (.Tuple es kk pos) (gTup X.K n u)):=⟨pg_tup hc h.out hn hst⟩
theorem gsub{s:TSet}{i:Expr}(ho:Bx (PE X o to))(hi:Bx (PE X i ti))(hs:PSet X s)
 (ha:∀ v,assign (.Subscript o i pos) X.env v=(do
  let ov ← holding [v] (eval o X.env)
  let iv ← holding [v,ov] (eval i X.env)
  standAt pos
  holding [v,ov,iv] (setItem ov iv v)
  release [v,ov,iv] []):=by intro _;rfl):Bx (PG X (.Subscript o i pos) (gSub to ti s)):=⟨pg_sub ho.out hi.out hs ha⟩
theorem asg{g:TG}(he:Bx (PE X e te))(hg:Bx (PG X tg g))(hs:swapsWithSole [tg] e pos.line X.env=pure false:=by rfl)(hw:swappedStores [tg] e X.env=pure none:=by rfl)
 (h1:(assignEach [tg] X.env).map (·.2)=[assign tg X.env]:=by rfl):Bx (PS X (.Assign [tg] e pos) (tAsg te g)):=⟨ps_asg he.out hg.out hs hw h1⟩
theorem set(i:Nat){pos':Pos}(hN:X.N.Nodup)(he:Bx (PE X e te))(hi:X.N[i]?=some x:=by rfl)(hx:Loc X.env.scope x:=by first | exact Or.inl rfl | exact Or.inr rfl)(hs:swapsWith e (some (.Name x pos')) pos.line X.env=pure false:=by rfl)
 (hf:X.fn x=true∨X.env.scope.names.lookup x=some .local:=by first | exact .inl rfl | exact .inr rfl):Bx (PS X (.Assign [.Name x pos'] e pos) (tAsg te (gName i))):=⟨ps_set hN hi hx he.out hs hf⟩
theorem expr(he:Bx (PE X e te))(hs:swapsWith e none pos.line X.env=pure false:=by rfl):Bx (PS X (.Expr e pos) (tDrop te)):=⟨ps_expr he.out hs⟩
theorem ret(he:Bx (PE X e te)):Bx (PS X (.Return (some e) pos) (tRet te)):=⟨ps_ret he.out⟩
theorem ifs{tcc:TT}{l r:List Stmt}{u w:TS}(hc:Bx (PT X c tcc))(ha:Bx (PSs X l u))(hb:Bx (PSs X r w)):Bx (PS X (.If c l r pos) (tIfS tcc u w)):=⟨ps_if hc.out ha.out hb.out⟩
theorem ilist{l:Expr}{tl:TE}(hl:Bx (PE X l tl)):Bx (PI X tg l (iList X.K tl)):=⟨pi_list hl.out⟩
theorem irange{t:TA}(hm:X.mg "range"=none)(ha:Bx (PA X [a] t))(hg:Gl X "range":=by rfl)(h1:plainE a=true:=by rfl):Bx (PI X tg (.Call (.Name "range" p) [a] [] pos) (iRng1 t)):=⟨pi_r1 hm ha.out hg h1⟩
theorem fors{iter:Expr}{l:List Stmt}{wi:TI}{g:TG}{u:TS}(hi:Bx (PI X tg iter wi))(hg:Bx (PG X tg g))(hb:Bx (PSs X l u))(hp:PassesOwn (model X.prog X.w) X.A X.env X.xe:=by exact PassesOwn.never)(hc:X.calm=true:=by rfl)
 (hs:∀ x,foldedSetIterable iter X.env x=pure x:=by intro _;rfl):Bx (PS X (.For tg iter l [] pos) (tFor wi g u)):=⟨ps_for hp hc hi.out hg.out hb.out hs⟩
theorem snil:Bx (PSs X [] tNext):=⟨pss_nil⟩
theorem scons{st:Stmt}{rest:List Stmt}{u w:TS}(h1:Bx (PS X st u))(h2:Bx (PSs X rest w)):Bx (PSs X (st::rest) (tSeq u w)):=⟨pss_cons h1.out h2.out⟩
theorem sone{st:Stmt}{u:TS}(h1:Bx (PS X st u)):Bx (PSs X [st] u):=⟨pss_one h1.out⟩
end
end B
noncomputable def CDivL(_ j:Int):Prop:=0 < j/\j < 18446744073709551616
theorem op_fdivL{X:Cx}:OpR X (binaryOp .FloorDiv) (rI CDivL fun i j=>.int (i / j)):=opI fun i j _ _ _ _ _ hc q=>by
 have h1:(0:Int) < j:=hc.1;have h2:j < 18446744073709551616:=hc.2;have h3:j.natAbs.log2 < 64:=(Nat.log2_lt (by omega)).mpr (by omega)
 exact floordiv_int (by omega) (by rw[Int.fdiv_eq_ediv_of_nonneg i (by omega)];exact q) (.inl (PyProof.noPylong_of_log2 (by omega)))
section
variable{D:Ends}{σ:L2.St}{H:Hp}{Q:VK}{v:V}{K:W.Frag}
theorem wSeq{t u:TS}(h:t { D with nx:=u D } σ H):tSeq t u D σ H:=h
theorem wAsg{te:TE}{g:TG}(h:te σ H fun x H1=>g x σ H1 D.nx):tAsg te g D σ H:=h
theorem wName{i:Nat}{Q:L2.St->Hp->Prop}(h:Q (σ.set i (some v)) H):gName i v σ H Q:=h
theorem wSub{to ti:TE}{t:TSet}{Q:L2.St->Hp->Prop}(h:to σ H fun o H1=>ti σ H1 fun i H2=>t o i v H2 fun H3=>Q σ H3):gSub to ti t v σ H Q:=h
theorem wSetL{p:Addr}{xs:List V}{i:Int}{j:Nat}{Q:Hp->Prop}(e:H p=some (.lst xs))(hj:ixN xs.length i=some j)(h:Q (upd H p (.lst (xs.set j v)))):rSetL (.ref p) (.int i) v H Q:=⟨p,xs,i,j,rfl,rfl,e,hj,h⟩
theorem wDrop{te:TE}(h:te σ H fun _ H1=>D.nx σ H1):tDrop te D σ H:=h
theorem wRet{te:TE}(h:te σ H D.rt):tRet te D σ H:=h
theorem wNext(h:D.nx σ H):tNext D σ H:=h
theorem wIfS{c:TT}{t u:TS}(h:c σ H fun b H1=>if b=true then t D σ H1 else u D σ H1):tIfS c t u D σ H:=h
theorem wVar{i:Nat}(e:σ[i]?=some (some v))(h:Q v H):tVar i σ H Q:=⟨v,e,h⟩
theorem wC(h:Q v H):tC v σ H Q:=h
theorem wOp{r:R2}{ta tb:TE}(h:ta σ H fun x H1=>tb σ H1 fun y H2=>r x y H2 Q):tOp r ta tb σ H Q:=h
theorem wI0{g:Int->Int->V}{i j:Int}(h:Q (g i j) H):rI0 g (.int i) (.int j) H Q:=⟨i,j,rfl,rfl,h⟩
theorem wMod{g:Int->Int->V}{i j:Int}(c:0 < j)(h:Q (g i j) H):rI (fun _ j=>0 < j) g (.int i) (.int j) H Q:=⟨i,j,rfl,rfl,c,h⟩
theorem wShr{g:Int->Int->V}{i j:Int}(c:0<=j)(h:Q (g i j) H):rI (fun _ j=>0<=j) g (.int i) (.int j) H Q:=⟨i,j,rfl,rfl,c,h⟩
theorem wDivL{g:Int->Int->V}{i j:Int}(c:0 < j/\j < 18446744073709551616)(h:Q (g i j) H):rI CDivL g (.int i) (.int j) H Q:=⟨i,j,rfl,rfl,c,h⟩
theorem wMul{g:Int->Int->V}{i j:Int}(c:(-18446744073709551616 < i/\i < 18446744073709551616)∨(-18446744073709551616 < j/\j < 18446744073709551616))(h:Q (g i j) H):rI CMul g (.int i) (.int j) H Q:=⟨i,j,rfl,rfl,c,h⟩
theorem wPow{g:Int->Int->V}{i j:Int}(c:0<=j/\j<=1000000/\i.natAbs < 2 ^ 64)(h:Q (g i j) H):rI CPow g (.int i) (.int j) H Q:=⟨i,j,rfl,rfl,c,h⟩
theorem wEqI{i j:Int}(h:Q (.bl (decide (V.int i=V.int j))) H):rEq (.int i) (.int j) H Q:=⟨rfl,h⟩
theorem wNeI{i j:Int}(h:Q (.bl (!decide (V.int i=V.int j))) H):rNe (.int i) (.int j) H Q:=⟨rfl,h⟩
theorem wTest{te:TE}{Q:Bool->Hp->Prop}(h:te σ H fun x H'=>∃ k,x=.bl k/\Q k H'):tTest te σ H Q:=h
theorem wB{te:TE}{Q:Bool->Hp->Prop}(h:te σ H fun x H'=>∃ k,x=.bl k/\Q k H'):tB te σ H Q:=h
theorem wBl{b:Bool}{Q:Bool->Prop}(h:Q b):∃ k,V.bl b=.bl k/\Q k:=⟨b,rfl,h⟩
theorem wNot{t:TT}{Q:Bool->Hp->Prop}(h:t σ H fun c H1=>Q (!c) H1):tNot t σ H Q:=h
theorem wNotV{ta:TE}(h:ta σ H fun x H1=>∃ c,x=.bl c/\Q (.bl (!c)) H1):tNotV ta σ H Q:=h
theorem wIxL{p:Addr}{xs:List V}{i:Int}(e:H p=some (.lst xs))(a:atI xs i=some v)(h:Q v H):rIxL K (.ref p) (.int i) H Q:=⟨p,xs,i,v,rfl,rfl,SqL.of e,a,h⟩
theorem wIxT{p:Addr}{xs:List V}{i:Int}(e:H p=some (.tup xs))(a:atI xs i=some v)(h:Q v H):rIxT K (.ref p) (.int i) H Q:=⟨p,xs,i,v,rfl,rfl,SqT.of e,a,h⟩
theorem wNil{Q:List V->Hp->Prop}(h:Q [] H):tNil σ H Q:=h
theorem wCons{ta:TE}{tr:TA}{Q:List V->Hp->Prop}(h:ta σ H fun x H1=>tr σ H1 fun xs H2=>Q (x::xs) H2):tCons ta tr σ H Q:=h
theorem wLst{t:TA}(h:t σ H fun xs H1=>xs.length<=sizeLine /\ ∀ p,H1 p=none->Q (.ref p) (upd H1 p (.lst xs))):tLst t σ H Q:=h
theorem wTup{t:TA}(h:t σ H fun xs H1=>xs.length<=sizeLine /\ ∀ p,H1 p=none->Q (.ref p) (upd H1 p (.tup xs))):tTup t σ H Q:=h
theorem wBM{T:String}{r:V->List V->Hp->VK->Prop}{to:TE}{t:TA}(h:to σ H fun x H1=>tyV K T x H1/\t σ H1 fun xs H2=>r x xs H2 Q):tBM K T r to t σ H Q:=h
theorem wCall{sp:Sp}{E:XK}{t:TA}(h:t σ H fun vs H1=>sp (vs++[]) H1 Q E):tCall sp [] E t σ H Q:=h
theorem wCB{r:List V->Hp->VK->Prop}{t:TA}(h:t σ H fun vs H1=>r vs H1 Q):tCB r t σ H Q:=h
end
end SW
namespace SW
open PySem PySem.NumText
set_option maxHeartbeats 4000000 in
section
variable{prog:Program}{w:World}{A:Around}{E:Value->Shared->Prop}{s:Shared}{Q:Value->Shared->Prop}{x:PySem.Str}{t u:Tok}
end
end SW
namespace SW
open PySem PySem.Spec PyProof.Rows L2
noncomputable def pt(m:Int):Nat->Int
 | 0=>0
 | k+1=>pt m k*2+m / 2 ^ k % 2
theorem bit01(x:Int):x % 2=0∨x % 2=1:=by omega
theorem pt_range(m:Int):∀ k:Nat,0<=pt m k/\pt m k < 2 ^ k
 | 0=>⟨Int.le_refl _,by show(0:Int) < 1;decide⟩
 | k+1=>by
   have:=pt_range m k;have:=bit01 (m / 2 ^ k);rw[pt,Int.pow_succ];omega
noncomputable def Row(H:Hp)(p:Addr):Prop:=∃ a b c:Int,H p=some (.lst [.int a,.int b,.int c])/\0<=b/\b < 536870909
noncomputable def KeepBut(p:Addr)(H H':Hp):Prop:=∀ b o,b≠p->H b=some o->H' b=some o
theorem KeepBut.trans{p:Addr}{H H1 H2:Hp}(a:KeepBut p H H1)(b:KeepBut p H1 H2):KeepBut p H H2:=fun c o n h=>b c o n (a c o n h)
theorem KeepBut.new{p q:Addr}{o:HO}{H:Hp}(h:H q=none):KeepBut p H (upd H q o):=fun b u _ e=>by
 rw[upd_ne (ne_of_none e h)];exact e
theorem KeepBut.at{p:Addr}{o:HO}{H:Hp}:KeepBut p H (upd H p o):=fun b u n e=>by
 rw[upd_ne n];exact e
theorem Same.new{q:Addr}{o:HO}{H:Hp}(h:H q=none):Same H (upd H q o):=fun b u e=>by
 rw[upd_ne (ne_of_none e h)];exact e
theorem Same.but{p:Addr}{H H':Hp}(h:Same H H'):KeepBut p H H':=fun b o _ e=>h b o e
theorem Row.same{H H':Hp}{p:Addr}(r:Row H p)(s:Same H H'):Row H' p:=by
 obtain⟨a,b,c,h,h0,h1⟩:=r;exact⟨a,b,c,s _ _ h,h0,h1⟩
theorem Row.new{H:Hp}{p q:Addr}{o:HO}(r:Row H p)(h:H q=none):Row (upd H q o) p:=r.same (Same.new h)
theorem Row.ne{H:Hp}{p q:Addr}{xs:List V}(r:Row H p)(h:H q=some (.tup xs)):q≠p:=by
 obtain⟨a,b,c,e,_⟩:=r;exact ne_of h e (by intro z;cases z)
theorem Row.ne0{H:Hp}{p q:Addr}(r:Row H p)(h:H q=none):p≠q:=by
 obtain⟨a,b,c,e,_⟩:=r;exact ne_of_none e h
noncomputable def spStream:Sp:=fun vs H Q _=>∃ c:Int,vs=[.int c] /\ ∀ p o,H p=none->Row (upd H p o) p->Q (.ref p) (upd H p o)
noncomputable def spTake:Sp:=fun vs H Q _=>∃(p:Addr) (m:Int),vs=[.ref p,.int m]/\0 < m/\m < 18446744073709551616/\Row H p /\ ∀ r o,0<=r->r < m->Row (upd H p o) p->Q (.int r) (upd H p o)
theorem wStream{c:Int}{H:Hp}{Q:VK}{E:XK}(k:∀ p o,H p=none->Row (upd H p o) p->Q (.ref p) (upd H p o)):spStream ([.int c]++[]) H Q E:=⟨c,rfl,k⟩
theorem wTake{p:Addr}{m:Int}{H:Hp}{Q:VK}{E:XK}(hp:Row H p)(h0:0 < m)(h1:m < 18446744073709551616)(k:∀ r H',0<=r->r < m->Row H' p->KeepBut p H H'->Q (.int r) H'):spTake ([.ref p,.int m]++[]) H Q E:=
 ⟨p,m,rfl,h0,h1,hp,fun r o a b c=>k r _ a b c KeepBut.at⟩
noncomputable def spKey:Sp:=fun vs H Q _=>∃ p:Addr,vs=[.ref p]/\Row H p /\ ∀ k H',0<=k->k<=1000000000->Row H' p->KeepBut p H H'->Q (.int k) H'
theorem wKey{p:Addr}{H:Hp}{Q:VK}{E:XK}(hp:Row H p)(k:∀ k H',0<=k->k<=1000000000->Row H' p->KeepBut p H H'->Q (.int k) H'):spKey ([.ref p]++[]) H Q E:=⟨p,rfl,hp,k⟩
noncomputable def Mix(H:Hp)(t:Addr):Prop:=∃ f m:Int,H t=some (.tup [.int f,.int m])/\0<=f/\f<=65535/\0<=m/\m<=65535
theorem Mix.keep{H H':Hp}{p t:Addr}(h:Mix H t)(r:Row H p)(k:KeepBut p H H'):Mix H' t:=by
 obtain⟨f,m,e,b⟩:=h;exact⟨f,m,k _ _ (r.ne e) e,b⟩
theorem Mix.same{H H':Hp}{t:Addr}(h:Mix H t)(k:Same H H'):Mix H' t:=by
 obtain⟨f,m,e,b⟩:=h;exact⟨f,m,k _ _ e,b⟩
noncomputable def spMixer:Sp:=fun vs H Q _=>∃ p:Addr,vs=[.ref p]/\Row H p /\ ∀ t H',Mix H' t->Row H' p->KeepBut p H H'->Q (.ref t) H'
theorem wMixer{p:Addr}{H:Hp}{Q:VK}{E:XK}(hp:Row H p)(k:∀ t H',Mix H' t->Row H' p->KeepBut p H H'->Q (.ref t) H'):spMixer ([.ref p]++[]) H Q E:=⟨p,rfl,hp,k⟩
theorem atI_in{α:Type}{xs:List α}{i:Int}(h0:0<=i)(h1:i < xs.length):∃ v,atI xs i=some v/\v∈xs:=by
 obtain⟨j,rfl⟩:=Int.eq_ofNat_of_zero_le h0;have hj:j < xs.length:=by omega
 exact⟨xs[j],atI_nat (by simp[hj]),List.getElem_mem hj⟩
theorem KeepBut.upd{p q:Addr}{o:HO}{H H':Hp}(k:KeepBut p H H')(h:H q=none):KeepBut p H (upd H' q o):=fun b u n e=>by
 rw[upd_ne (ne_of_none e h)];exact k b u n e
theorem Mix.upd{H:Hp}{q t:Addr}{o:HO}{xs:List V}(m:Mix H t)(h:H q=some (.lst xs)):Mix (L2.upd H q o) t:=by
 obtain⟨f,z,e,b⟩:=m;refine⟨f,z,?_,b⟩;rw[upd_ne (ne_of e h (by intro z;cases z))];exact e
theorem Row.upd{H:Hp}{p q:Addr}{o:HO}(r:Row H p)(h:p≠q):Row (L2.upd H q o) p:=by
 obtain⟨a,b,c,e,z⟩:=r;exact⟨a,b,c,by rw[upd_ne h];exact e,z⟩
noncomputable def Mixs(H:Hp)(xs:List V):Prop:=∀ v∈xs,∃ t,v=V.ref t/\Mix H t
theorem Mixs.nil{H:Hp}:Mixs H []:=fun _ h=>nomatch h
theorem Mixs.more{H H':Hp}{xs:List V}(h:Mixs H xs)(t:Addr)(m:Mix H' t)(k:∀ t,Mix H t->Mix H' t):Mixs H' (xs++[V.ref t]):=fun v hv=>by
 rcases List.mem_append.mp hv with q | q
 · obtain⟨u,e,z⟩:=h v q
   exact⟨u,e,k u z⟩
 exact⟨t,List.mem_singleton.mp q,m⟩
theorem Mixs.map{H H':Hp}{xs:List V}(h:Mixs H xs)(k:∀ t,Mix H t->Mix H' t):Mixs H' xs:=fun v hv=>by
 obtain⟨u,e,z⟩:=h v hv;exact⟨u,e,k u z⟩
theorem Mixs.new{H:Hp}{xs:List V}(h:Mixs H xs)(t:Addr)(f m:Int)(ht:H t=none)(b:0<=f/\f<=65535/\0<=m/\m<=65535):Mixs (L2.upd H t (.tup [.int f,.int m])) (xs++[V.ref t]):=
 h.more t ⟨f,m,upd_same,b⟩ fun _ z=>z.same (Same.new ht)
section
variable{X:Cx}
end
section
variable{D:Ends}{σ:L2.St}{H:Hp}{Q:VK}{v:V}{K:W.Frag}
theorem wFor{wi:TI}{g:TG}{tb:TS}(h:wi σ H fun J H1=>∃ W:Nat->Nat->L2.St->Hp->Prop,(∃ m,W 0 m σ H1) /\ ∀ i m σ H,W i m σ H ->
 (J.stop i H/\D.nx σ H)∨(J.go i H /\ ∃ N:L2.St->Hp->Prop,(∀ σ' H',N σ' H' -> ∃ m',m' < m/\W (i+1) m' σ' H') /\ ∀ x H',J.yld i H x H'->g x σ H' fun σ2 H2=>tb { D with nx:=N,ct:=N,bk:=D.nx } σ2 H2)):tFor wi g tb D σ H:=h
theorem wIList{tl:TE}{R:It->Hp->Prop}(h:tl σ H fun x H1=>∃ a,x=.ref a/\(∃ xs,SqL K H1 a xs)/\R (Itl K a) H1):iList K tl σ H R:=h
theorem wRng1{ta:TA}{R:It->Hp->Prop}(h:ta σ H fun vs H1=>∃ j:Int,vs=[.int j] /\ -(2 ^ 62)<=j/\j < 2 ^ 62/\R (Itr 0 j.toNat) H1):iRng1 ta σ H R:=h
theorem cut_ints(ns:List Int)(lo hi:Option Int):∃ cs:List Int,cutV (ns.map V.int) lo hi=cs.map V.int/\cs.length<=ns.length:=by
 unfold cutV;rw[← List.map_drop,← List.map_take];exact⟨_,rfl,by rw[List.length_take,List.length_drop];omega⟩
theorem wHead{n:Int}{a:Addr}{ns:List Int}{R:It->Hp->Prop}(hS:SqL K H a (ns.map V.int))(hl:ns.length<=63)
 (h:∀(q:Addr) (cs:List Int) (H':Hp),Same H H'->H' q=some (.lst (cs.map V.int))->cs.length<=64->R (Itl K q) H') :
 iList K (tOp rCat (tLst (tCons (tC (.int 0)) tNil)) (tSl (rSlL K) (tVar 0) tNoPart (tPart (tC (.int n))))) (some (.ref a) :: σ) H R:=by
 refine⟨by show(1:Nat)<=sizeLine;decide,fun q1 h1=>?_⟩
 have s1:Same H (upd H q1 (.lst [.int 0])):=Same.new h1;refine⟨_,rfl,n,rfl,a,_,rfl,s1.seq hS,fun q2 h2=>?_⟩;obtain⟨cs,e,hc⟩:=cut_ints ns none (some n);rw[e];have n12:q1≠q2:=ne_of_none upd_same h2;have lim:64<=sizeLine:=by decide
 refine⟨q1,q2,_,_,rfl,rfl,(by rw[upd_ne n12];exact upd_same),upd_same,(by rw[List.length_map];show 1+cs.length<=sizeLine;omega),fun q3 h3=>?_⟩
 refine⟨q3,rfl,⟨_,SqL.of upd_same⟩,h q3 (0::cs) _ ((s1.trans (Same.new h2)).trans (Same.new h3)) upd_same (by rw[List.length_cons];omega)⟩
end
theorem getInt{cs:List Int}{i:Nat}{y:V}(h:(cs.map V.int)[i]?=some y):∃ c,y=V.int c:=by
 rw[List.getElem?_map]at h;cases e:cs[i]? with
 | none=>rw[e]at h;cases h
 | some z=>rw[e]at h;exact⟨z,(Option.some.inj h).symm⟩
noncomputable def spLaw(K:W.Frag):Sp:=fun vs H Q _=>∃(a:Addr) (ns:List Int),vs=[.ref a]/\SqL K H a (ns.map V.int)/\ns.length<=63 /\ ∀ H',Q (.bl true) H'
section
variable{H:Hp}{Q:VK}
theorem wInt1{k:Bool}{P:Int->Prop}(h:P (if k=true then 1 else 0)):(∃ i,[V.bl k]=[V.int i]/\P i) ∨ ∃ k',[V.bl k]=[V.bl k']/\P (if k'=true then 1 else 0):=.inr ⟨k,rfl,h⟩
end
theorem pt_half(m:Int)(k:Nat):pt m (k+1) / 2=pt m k:=by
 have:=bit01 (m / 2 ^ k);rw[pt];omega
theorem pt_mod(m:Int)(k:Nat):pt m (k+1) % 2=m / 2 ^ k % 2:=by
 have:=bit01 (m / 2 ^ k);rw[pt];omega
theorem p2(k:Nat):(0:Int) < 2 ^ k:=Int.pow_pos (by decide)
theorem pow_le_iff{j k:Nat}:(2:Int) ^ k<=2 ^ j ↔ k<=j:=by
 constructor
 · intro h
   by_cases hk:j < k
   · have:(2:Int) ^ j < 2 ^ k:=by
      obtain⟨d,rfl⟩:∃ d,k=j+1+d:=⟨k - (j+1),by omega⟩
      rw[Int.pow_add,Int.pow_succ];have:=p2 j;have:=p2 d;have h1:(2:Int) ^ j*2*1<=2 ^ j*2*2 ^ d:=Int.mul_le_mul_of_nonneg_left (by omega) (by omega)
      omega
     omega
   omega
 intro h;obtain⟨d,rfl⟩:∃ d,j=k+d:=⟨j - k,by omega⟩
 rw[Int.pow_add];have:=p2 k;have:=p2 d;have h1:(2:Int) ^ k*1<=2 ^ k*2 ^ d:=Int.mul_le_mul_of_nonneg_left (by omega) (by omega)
 omega
section
variable{D:Ends}{σ:L2.St}{H:Hp}{Q:VK}
theorem wOr{t u:TT}{Q:Bool->Hp->Prop}(h:t σ H fun c H1=>if c=true then Q true H1 else u σ H1 Q):tOr t u σ H Q:=h
theorem wChain{r r':R2}{ta tb tc:TE}(h:ta σ H fun x H1=>tb σ H1 fun y H2=>r x y H2 fun z H3=>∃ k,z=.bl k/\(if k=true then tc σ H3 fun w' H4=>r' y w' H4 Q else Q (.bl false) H3)):tChain r r' ta tb tc σ H Q:=h
end
noncomputable def spMark:Sp:=fun vs H Q _=>∃(k:Int) (t:Addr) (f m:Int),vs=[.int k,.ref t]/\H t=some (.tup [.int f,.int m])/\(0<=f/\f<=65535)/\Q (.int ((k*f+m) % 65536)) H
noncomputable def spPlace:Sp:=fun vs H Q _=>∃ m s:Int,vs=[.int m,.int s]/\0 < s/\Q (.int (m % s)) H
noncomputable def spPoint:Sp:=fun vs H Q _=>∃ m:Int,vs=[.int m]/\Q (.int (pt m 16)) H
theorem wMark{k:Int}{t:Addr}{f m:Int}{H:Hp}{Q:VK}{E:XK}(h:H t=some (.tup [.int f,.int m]))(b:0<=f/\f<=65535)(q:Q (.int ((k*f+m) % 65536)) H):spMark ([.int k,.ref t]++[]) H Q E:=⟨k,t,f,m,rfl,h,b,q⟩
theorem wPlace{m s:Int}{H:Hp}{Q:VK}{E:XK}(h:0 < s)(q:Q (.int (m % s)) H):spPlace ([.int m,.int s]++[]) H Q E:=⟨m,s,rfl,h,q⟩
theorem wPoint{m:Int}{H:Hp}{Q:VK}{E:XK}(q:Q (.int (pt m 16)) H):spPoint ([.int m]++[]) H Q E:=⟨m,rfl,q⟩
noncomputable def compCx(X:Cx)(scope:Scope)(cl:List (Str×Addr))(N':List Str)(s:Shared)(H:Hp)(fp:List Addr)(pins:List (Addr×Obj)):Cx:=
 { X with N:=N',s₀:=s,H₀:=H,env:=compEnvC scope cl s.heap.objs.size X.env,outer:=X.stack,stack:=X.stack,ex:=fp,fn:=fun _=>false,pn:=X.pn++pins,xe:=fun _ _=>False }
structure CompScope(X:Cx)(scope:Scope)(cl:List (Str×Addr))(x:Str)(js:List Nat)(N':List Str):Prop where
 clos:closureFor scope X.env=pure cl
 kind:scope.kind=.function
 nocell:∀ y∈scope.names,y.2 ≠ .cell
 names:∀ y∈scope.names,y.2=.local->scope.names.lookup y.1=some .local
 own:scope.names.lookup x=some .local
 sub:∀ p∈cl,X.env.cells.lookup p.1=some p.2
 has:∀ y,((relabel scope X.env).names.lookup y=some .cell∨(relabel scope X.env).names.lookup y=some .free) -> ∃ c,cl.lookup y=some c
 nm:N'=x::js.map fun j=>X.N.getD j Str.empty
 see:∀(i j:Nat),js[i]?=some j -> ∃ y,X.N[j]?=some y/\(X.env.kindOf y=some .cell∨X.env.kindOf y=some .free)/\((relabel scope X.env).names.lookup y=some .cell∨(relabel scope X.env).names.lookup y=some .free)
noncomputable def seen(σ:L2.St)(js:List Nat):L2.St:=none::js.map fun j=>σ.getD j none
section
variable{X:Cx}{scope:Scope}{cl:List (Str×Addr)}{x:Str}{js:List Nat}{N':List Str}{pins:List (Addr×Obj)}{σ:L2.St}{H:Hp}{s:Shared}{fp:List Addr}
theorem CompScope.sub'(S:CompScope X scope cl x js N'){y:Str}{c:Addr}(h:cl.lookup y=some c):X.env.cells.lookup y=some c:=S.sub (y,c) (PySem.mem_of_lookup h)
theorem comp_ok(S:CompScope X scope cl x js N')(I:Inv X pins σ H s)(hf:∀ b∈fp,FpOk X pins H b)(ho:∀ b∈fp,b < s.heap.objs.size):(compCx X scope cl N' s H fp pins).Ok where
 mod:=I.ok.mod
 kind:=S.kind
 glob:=I.ok.glob
 blt:=I.ok.blt
 above:=Nat.le_refl _
 inj:=fun y z c h1 h2=>I.ok.inj y z c (S.sub' h1) (S.sub' h2)
 has:=fun y h=>S.has y h
 cab:=fun y c h=>absurd h Bool.false_ne_true
 hd:=I.ok.hd
 frames:=I.ok.frames
 stk:=.inl rfl
 exf:=fun b hb=>⟨Nat.ne_of_lt (ho b hb),fun y c h=>(hf b hb).2.2.2.2.1 y c (S.sub' h)⟩
 bs:=I.bs
 bsz:=Nat.le_trans I.ok.bsz I.sz
 noex:=fun b o e hb=>by
  rcases(hf b hb).2.2.2.1 with z | z
  · exact I.ok.noex b o e z
  exact absurd (Nat.lt_of_lt_of_le (Heap.lt_size (I.ok.bs b o e).1) z) (Nat.lt_irrefl _)
 exfs:=fun b hb z=>by
  rcases List.mem_cons.mp (I.stkSub b z)with e | e
  · exact(hf b hb).2.1 e
  exact(hf b hb).2.2.1 e
 funs:=I.stack
 frf:=I.stkFree
theorem comp_inv(S:CompScope X scope cl x js N')(I:Inv X pins σ H s)(hf:∀ b∈fp,FpOk X pins H b)(ho:∀ b∈fp,b < s.heap.objs.size){s4:Shared}{m:Str->Option Value}(hos:s4.os=s.os)(hg:s4.gens=s.gens)
 (hn:s4.heap.Ns s.heap.objs.size m) (hk:∀ b o,s.heap.get? b=some o->s4.heap.get? b=some o):Inv (compCx X scope cl N' s H fp pins) [] (seen σ js) H s4 where
 ok:=comp_ok S I hf ho
 os:=hos
 bare:=by rw[hg];exact I.bare
 base:=Un.kept hk
 loc:=by
  obtain⟨mX,_,hl⟩:=I.loc;refine⟨m,hn,fun i y v h1 h2 h3=>?_⟩;cases i with
  | zero=>
    unfold seen at h2;simp at h2
  | succ i=>
    have h1':N'[i+1]?=some y:=h1;rw[S.nm,List.getElem?_cons_succ,List.getElem?_map]at h1';unfold seen at h2;rw[List.getElem?_cons_succ,List.getElem?_map]at h2;cases ej:js[i]? with
    | none=>rw[ej]at h2;cases h2
    | some j=>
      rw[ej]at h1' h2;obtain⟨z,hz,k1,k2⟩:=S.see i j ej;have ey:z=y:=by
       have:X.N.getD j Str.empty=y:=Option.some.inj h1';rw[List.getD_eq_getElem?_getD,hz]at this;exact this
      subst ey;have ev:σ[j]?=some (some v):=by
       have q:σ.getD j none=some v:=Option.some.inj h2;rw[List.getD_eq_getElem?_getD]at q;cases e:σ[j]? with
       | none=>rw[e]at q;cases q
       | some w'=>rw[e]at q;exact congrArg some q
      have kx:X.env.scope.names.lookup z=some .cell∨X.env.scope.names.lookup z=some .free:=k1;obtain⟨u,r,l⟩:=hl j z v hz ev (.inr kx);refine⟨u,r,.inr ⟨k2,?_⟩⟩;obtain⟨c,hc⟩:=S.has z k2;rcases l with ⟨kl,_⟩ | ⟨_,c',e',cell⟩
      · rcases k1 with k1 | k1 <;> rw[k1]at kl <;> cases kl
      have:c'=c:=Option.some.inj (e'.symm.trans (S.sub' hc));subst this;obtain⟨o,q1,q2⟩:=cell;exact⟨c',hc,o,hk _ _ q1,q2⟩
 cell:=fun y c h=>by
  obtain⟨v,o,q1,q2⟩:=I.cell y c (S.sub' h);exact⟨v,o,hk _ _ q1,q2⟩
 free:=I.hok.fresh (Nat.le_refl _)
 freeC:=fun y c h=>I.freeC y c (S.sub' h)
 pin:=fun p hp=>by
  have hp':p∈X.pn++pins:=by
   have q:p∈(X.pn++pins)++[]:=hp;rw[List.append_nil]at q;exact q
  obtain⟨e,n,ne,nf,d⟩:=I.pin p hp';refine⟨hk _ _ e,n,Nat.ne_of_lt (Heap.lt_size e),fun z=>?_,d⟩;rcases List.mem_cons.mp (I.stkSub p.1 z)with q | q
  · exact ne q
  exact nf q
 hok:=I.hok.kept hk
 len:=by
  show(seen σ js).length=N'.length;rw[S.nm];unfold seen;simp
theorem comp_back{s':Shared}{σ':L2.St}{H':Hp}{h':Heap}(I:Inv X pins σ H s)(hf:∀ b∈fp,FpOk X pins H b)(J:Inv (compCx X scope cl N' s H fp pins) [] σ' H' s')(hs:Heap.SameBut s.heap.objs.size s'.heap h') :
 Inv X pins σ H' { s' with heap:=h' }:=by
 have ne:∀ b o,s.heap.get? b=some o->b≠s.heap.objs.size:=fun b o e=>Nat.ne_of_lt (Heap.lt_size e);have u0:Un (frs X.stack) fp H H' s.heap s'.heap:=J.base;have u:Un (frs X.stack) fp H H' s.heap h':=
  ⟨fun b o e n h1 h2=>(hs.2 b (ne b o e)).trans (u0.keep b o e n h1 h2),fun b o e n h1 h2=>let⟨sl,q⟩:=u0.slot b o e n h1 h2;⟨sl,(hs.2 b (ne b o e)).trans q⟩,u0.free,
   fun b o e h2=>let⟨o',q⟩:=u0.there b o e h2;⟨o',(hs.2 b (ne b o e)).trans q⟩,u0.tups,u0.frzs,u0.tbls⟩
 have hfree:H' s.heap.objs.size=none:=J.free;have hok:HOk X.prog X.w H' h':=fun b ob e=>by
  refine(J.hok b ob e).stay (fun c w' hc q=>(hs.2 c ?_).trans q) (fun _ q=>q) fun _ _ q=>q;rintro rfl;rcases hc with rfl | hc
  · rw[hfree]at e;cases e
  rw[hfree]at hc;cases hc
 exact I.call' (s':={ s' with heap:=h' }) J.os u hok J.bare fun b hb=>⟨(hf b hb).2.2.2.1,(hf b hb).2.1,(hf b hb).2.2.2.2.1,(hf b hb).2.2.2.2.2⟩
end
theorem comp_loop{prog:Program}{w:World}{A:Around}{R:Result->Shared->Prop}{s:Shared}{elt target iter:Expr}{ifs:List Expr}{scope:Scope}{pos:Pos}{it acc:Value}{env:Env}(I:Nat->Shared->Prop)
 (turn:∀ n s,I n s->wpAny (model prog w) A (pyNext it) (fun r s₁=>match r with
  | none=>R (.ok .next) s₁
  | some v=>wpAny (model prog w) A (letOwnedTupleGo target it v) (fun _ s₁'=>wpAny (model prog w) A (assign target env v) (fun _ s₂=>
   wpAny (model prog w) A (forIn ifs true fun c r=>if r=true then do let ok ← isTrue c env (eval c env);pure (ForInStep.yield ok)else pure (ForInStep.yield r)) (fun ok s₃=>
    if ok=true then wpAny (model prog w) A (eval elt env) (fun x s₄=>
     wpAny (model prog w) A (call (.builtin "list.append") [acc,x]) (fun _ s₅=>∃ m,m < n/\I m s₅) (fun _ _=>False) s₄) (fun _ _=>False) s₃
    else ∃ m,m < n/\I m s₃) (fun _ _=>False) s₂) (fun _ _=>False) s₁') (fun _ _=>False) s₁) (fun _ _=>False) s)
 (n:Nat) (h:I n s):codeAny (model prog w) A (.compLoop (.ListComp elt [⟨target,iter,ifs,0⟩] scope pos) 0 it acc env) R s:=by
 refine codeAny_loop rfl I (fun n s hI=>?_) n h;show wpAny _ A ((compTurn (.ListComp elt [⟨target,iter,ifs,0⟩] scope pos) 0 it acc env).onRaise (fun x=>do noteFrame x env;theTreesLotGoes x)) _ _ s;refine wpAny_noted ?_;rw[compTurn_list];refine wpAny_bind (wpAny_standAt (wpAny_bind (wpAny_mono (turn n s hI) (fun r s₁ h₁=>?_) fun _ _ h'=>h'.elim)));cases r with
 | none=>exact wpAny_pure h₁
 | some v=>
   refine wpAny_bind (wpAny_mono h₁ (fun _ s₁' h₁'=>?_) fun _ _ h'=>h'.elim);refine wpAny_bind (wpAny_mono h₁' (fun _ s₂ h₂=>wpAny_bind (wpAny_mono h₂ (fun ok s₃ h₃=>?_) fun _ _ h'=>h'.elim)) fun _ _ h'=>h'.elim);cases ok with
   | false=>exact wpAny_pure ⟨rfl,h₃⟩
   | true=>
     exact wpAny_bind (wpAny_bind (wpAny_mono h₃ (fun x s₄ h₄=>wpAny_bind (wpAny_mono h₄ (fun _ s₅ h₅=>wpAny_pure (wpAny_pure ⟨rfl,h₅⟩)) fun _ _ h'=>h'.elim)) fun _ _ h'=>h'.elim))
noncomputable def PTs(X:Cx)(ifs:List Expr)(t:TT):Prop:=
 ∀(pins:List (Addr×Obj)) (s:Shared) (σ:L2.St) (H:Hp) (Q:Bool->Hp->Prop) (E:Value->Shared->Prop),(∀ e s',X.xe e s'->E e s')->Inv X pins σ H s->t σ H Q ->
   wpAny (model X.prog X.w) X.A (forIn ifs true fun c r=>if r=true then do let ok ← isTrue c X.env (eval c X.env);pure (ForInStep.yield ok)else pure (ForInStep.yield r)) (TP X pins σ Q) E s
theorem pts_nil{X:Cx}:PTs X [] (fun _ H Q=>Q true H):=fun _ _ _ H _ _ _ I h=>wpAny_tests_nil ⟨H,I,h⟩
noncomputable def tComp(js:List Nat)(wi:TI)(tt:TT)(te:TE):TE:=fun σ H Q=>wi σ H fun J H1=>∀ D,H1 D=none -> ∃ W:Nat->Nat->L2.St->Hp->Prop,(∃ m,W 0 m (seen σ js) (upd H1 D (.lst []))) /\
 ∀ i m σ' H',W i m σ' H'->(J.stop i H'/\Q (.ref D) H')∨(J.go i H' /\ ∀ x H2,J.yld i H' x H2->tt (σ'.set 0 (some x)) H2 fun ok H3=>
   if ok=true then te (σ'.set 0 (some x)) H3 fun y H4=>∃ ys,H4 D=some (.lst ys)/\ys.length < sizeLine /\ ∃ m',m' < m/\W (i+1) m' (σ'.set 0 (some x)) (upd H4 D (.lst (ys++[y])))
   else ∃ m',m' < m/\W (i+1) m' (σ'.set 0 (some x)) H3)
section
variable{X:Cx}{scope:Scope}{cl:List (Str×Addr)}{x:Str}{js:List Nat}{N':List Str}{elt iter:Expr}{ifs:List Expr}{px pos:Pos}{wi:TI}{tt:TT}{te:TE}
theorem comp_core{RR:Value->Addr->Result->Shared->Prop}{pins:List (Addr×Obj)}{σ:L2.St}{H2:Hp}{s2:Shared}{Q:VK}{it:Addr}{fp:List Addr}{tn:Nat->Heap->Prop}{J:It}(S:CompScope X scope cl x js N')(nd:N'.Nodup)(hc:X.calm=true)
 (ht:∀ s H fp pins,PTs (compCx X scope cl N' s H fp pins) ifs tt) (he:∀ s H fp pins,PE (compCx X scope cl N' s H fp pins) elt te)
 (I2:Inv X pins σ H2 s2) (T:Turn X.prog X.w X.K (.Name x px) J fp it tn) (st2:tn 0 s2.heap) (f2:∀ b∈fp,FpOk X pins H2 b)
 (k:∀ D,H2 D=none -> ∃ W:Nat->Nat->L2.St->Hp->Prop,(∃ m,W 0 m (seen σ js) (upd H2 D (.lst []))) /\
  ∀ i m σ' H',W i m σ' H'->(J.stop i H'/\Q (.ref D) H')∨(J.go i H' /\ ∀ x H2,J.yld i H' x H2->tt (σ'.set 0 (some x)) H2 fun ok H3=>
    if ok=true then te (σ'.set 0 (some x)) H3 fun y H4=>∃ ys,H4 D=some (.lst ys)/\ys.length < sizeLine /\ ∃ m',m' < m/\W (i+1) m' (σ'.set 0 (some x)) (upd H4 D (.lst (ys++[y])))
    else ∃ m',m' < m/\W (i+1) m' (σ'.set 0 (some x)) H3))
 (fin:∀(D C:Addr) (s6:Shared) (H6:Hp) (m:Str->Option Value),s6.heap.Ns C m->(∀ h',Heap.SameBut C s6.heap h'->Inv X pins σ H6 { s6 with heap:=h' })->H6 C=none->FpOk X pins H6 C->Q (.ref D) H6->RR (.ref D) C (.ok .next) s6) :
 wpAny (model X.prog X.w) X.A (newList []) (fun acc s₃=>wpAny (model X.prog X.w) X.A (newFunctionEnv scope X.env.globals cl [] X.env.qual none .none (some X.env)) (fun cenv s₄=>
  codeAny (model X.prog X.w) X.A (.compStart (.ListComp elt [⟨.Name x px,iter,ifs,0⟩] scope pos) 0 (.ref it) acc { cenv with scope:=relabel scope X.env }) (RR acc cenv.locals) s₄) X.xe s₃) X.xe s2:=by
 have hDn:H2 s2.heap.objs.size=none:=I2.hok.fresh (Nat.le_refl _);obtain⟨W,⟨m0,w0⟩,turn⟩:=k s2.heap.objs.size hDn;refine wpAny_newObj_type (wpAny_newFunctionEnv S.nocell (by intro y hy;simp at hy) (fun h4 hns4 hsb4=>?_) S.kind) (by show 0<=sizeLine;exact Nat.zero_le _)
 have I3:Inv X pins σ (upd H2 s2.heap.objs.size (.lst [])) { s2 with heap:=s2.heap.push { cls:=.type "list",dict:=none,data:=.seq ([]:List Value).toArray } }:=
  I2.laid (t':=s2.toks) (fun b u e=>Heap.get?_push_of_some _ e) (Nat.le_refl _) ⟨Nat.zero_le _,[],0,.nil,Heap.get?_push_size _ rfl⟩
 have ltf:∀ b∈fp,b < s2.heap.objs.size:=fun b hb=>let⟨o,e,_⟩:=T.obj 0 _ st2 b hb;Heap.lt_size e;have f3:∀ b∈fp,FpOk X pins (upd H2 s2.heap.objs.size (.lst [])) b:=fun b hb=>⟨by rw[upd_ne (Nat.ne_of_lt (ltf b hb))];exact(f2 b hb).1,(f2 b hb).2⟩
 generalize hH:upd H2 s2.heap.objs.size (.lst [])=H3 at *;generalize hS3:({ s2 with heap:=s2.heap.push { cls:=.type "list",dict:=none,data:=.seq ([]:List Value).toArray } }:Shared)=s3 at *;have o3:∀ b∈fp,b < s3.heap.objs.size:=fun b hb=>by
  rw[← hS3];show b < (s2.heap.push _).objs.size;rw[Heap.size_push];exact Nat.lt_succ_of_lt (ltf b hb)
 have k4:∀ b o,s3.heap.get? b=some o->h4.get? b=some o:=fun b o e=>(hsb4.2 b (Nat.ne_of_lt (Heap.lt_size e))).trans (Heap.get?_push_of_some _ e);have st3:tn 0 s3.heap:=T.keep 0 _ _ st2 fun b hb o e=>by rw[← hS3];exact Heap.get?_push_of_some _ e
 have st4:tn 0 h4:=T.keep 0 _ _ st3 fun b hb o e=>k4 b o e;have I4:Inv (compCx X scope cl N' s3 H3 fp pins) [] (seen σ js) H3 { s3 with heap:=h4,toks:=s3.toks+([]:List (Str×Value)).length }:=comp_inv S I3 f3 o3 rfl rfl hns4 k4;have ok:=comp_ok S I3 f3 o3;have fp5:∀{H':Hp},(∀ b∈fp,H' b=none) -> ∀ b∈fp,FpOk (compCx X scope cl N' s3 H3 fp pins) [] H' b:=fun hn b hb=>
  ⟨hn b hb,Nat.ne_of_lt (o3 b hb),ok.exfs b hb,.inl hb,fun y c h=>(f3 b hb).2.2.2.2.1 y c (S.sub' h),fun p hp=>(f3 b hb).2.2.2.2.2 p (by
   have q:p∈(X.pn++pins)++[]:=hp;rw[List.append_nil]at q;exact q)⟩
 have loop:codeAny (model X.prog X.w) X.A (.compLoop (.ListComp elt [⟨.Name x px,iter,ifs,0⟩] scope pos) 0 (.ref it) (.ref s2.heap.objs.size) (compEnvC scope cl s3.heap.objs.size X.env))
  (RR (.ref s2.heap.objs.size) s3.heap.objs.size) { s3 with heap:=h4,toks:=s3.toks+([]:List (Str×Value)).length }:=by
  refine comp_loop (fun n s'=>∃ i σ' H',Inv (compCx X scope cl N' s3 H3 fp pins) [] σ' H' s'/\tn i s'.heap/\(∀ b∈fp,H' b=none)/\W i n σ' H') ?_ m0 ⟨0,_,_,I4,st4,fun b hb=>(f3 b hb).1,w0⟩;rintro n s5 ⟨i,σ5,H5,I5,st5,fr5,w5⟩;rcases turn i n σ5 H5 w5 with ⟨stop,q⟩ | ⟨go,step⟩
  · refine wpAny_mono (T.done (compCx X scope cl N' s3 H3 fp pins) rfl rfl rfl hc i [] s5 σ5 H5 (fun _ _=>False) I5 (fp5 fr5) st5 stop) (fun r s6 ⟨hr,I6⟩=>?_) (fun _ _ z=>z.elim)
    subst hr;obtain⟨m,hm,_⟩:=I6.loc;exact fin _ _ s6 H5 m hm (fun h' hs'=>comp_back I3 f3 I6 hs') I6.free (I3.fpOk (Nat.le_refl _) I6.free) q
  refine wpAny_mono (T.item (compCx X scope cl N' s3 H3 fp pins) rfl rfl rfl hc i [] s5 σ5 H5 (fun _ _=>False) I5 (fp5 fr5) st5 go) (fun r s6 ⟨u,hr,h6⟩=>?_) (fun _ _ z=>z.elim);subst hr;refine wpAny_mono h6 (fun _ s6 ⟨y,H6,I6,r6,y6,st6,fr6⟩=>?_) (fun _ _ z=>z.elim);have I6':=I6.pinned (fp5 fr6) (T.obj _ _ st6);have again:∀{σ7:L2.St}{H7:Hp}{s7:Shared}{m':Nat},Inv (compCx X scope cl N' s3 H3 fp pins) ([]++pinsAt fp s6.heap) σ7 H7 s7->m' < n->W (i+1) m' σ7 H7 ->
   ∃ m,m < n /\ ∃ i σ' H',Inv (compCx X scope cl N' s3 H3 fp pins) [] σ' H' s7/\tn i s7.heap/\(∀ b∈fp,H' b=none)/\W i m σ' H':=fun {σ7 H7 s7 m'} I7 hm w7=>by
   refine⟨m',hm,i+1,σ7,H7,I7.unpinned,T.keep _ _ _ st6 fun b hb o e=>(I7.pin (b,o) (List.mem_append_right _ (List.mem_append_right _ (mem_pinsAt hb e)))).1,fun b hb=>?_,w7⟩;obtain⟨o,e,d⟩:=T.obj _ _ st6 b hb;exact(I7.pin (b,o) (List.mem_append_right _ (List.mem_append_right _ (mem_pinsAt hb e)))).2.1
  have step':=step y H6 y6;refine wpAny_mono (pg_name (X:=compCx X scope cl N' s3 H3 fp pins) (i:=0) (x:=x) (pos:=px) nd (by show N'[0]?=some x;rw[S.nm];rfl) (.inl (lookup_relabel_local S.own)) (.inr (lookup_relabel_local S.own)) _ s6 σ5 H6 y u
   (fun σ' H'=>σ'=σ5.set 0 (some y)/\H'=H6) I6' r6 ⟨rfl,rfl⟩) (fun _ s7 ⟨σ7,H7,I7,e7,eH⟩=>?_) (fun _ _ z=>z.elim)
  subst e7;subst eH;refine wpAny_mono (ht s3 H3 fp pins _ s7 _ H7 _ (fun _ _=>False) (fun _ _ z=>z) I7 step') (fun okk s8 ⟨H8,I8,q8⟩=>?_) (fun _ _ z=>z.elim);cases okk with
  | false=>
    obtain⟨m',hm,w8⟩:=q8;exact again I8 hm w8
  | true=>
    refine wpAny_mono (he s3 H3 fp pins _ s8 _ H8 _ I8 q8) (fun ev s9 ⟨z,H9,I9,r9,ys,hys,hlen,m',hm,w9⟩=>?_) (fun _ _ z=>z.elim);refine wpAny_mono (mt_append (X:=compCx X scope cl N' s3 H3 fp pins) _ s9 _ H9 (.ref s2.heap.objs.size) [z] (.ref s2.heap.objs.size) [ev] (fun _ H'=>H'=upd H9 s2.heap.objs.size (.lst (ys++[z]))) I9 rfl (.cons r9 .nil)
     ⟨_,ys,z,rfl,rfl,hys,hlen,rfl⟩) (fun _ s10 ⟨_,H10,I10,_,e10⟩=>?_) (fun _ _ z=>z.elim)
    subst e10;exact again I10 hm w9
 exact codeAny_compStart_list loop (T.self X.A 0 _ _ _ st4 loop)
theorem pe_comp(S:CompScope X scope cl x js N')(nd:N'.Nodup)(hc:X.calm=true)(hi:PI X (.Name x px) iter wi)
 (ht:∀ s H fp pins,PTs (compCx X scope cl N' s H fp pins) ifs tt) (he:∀ s H fp pins,PE (compCx X scope cl N' s H fp pins) elt te)
 (hs:∀ x,foldedSetIterable iter X.env x=pure x:=by intro _;rfl):PE X (.ListComp elt [⟨.Name x px,iter,ifs,0⟩] scope pos) (tComp js wi tt te):=by
 intro pins s σ H Q I h;rw[eval_ListComp];refine wpAny_comprehension_free (use:=none) rfl hs S.clos S.kind S.names (thn (hi pins s σ H _ I h) fun v s1 h1=>thn h1 fun itv s2 h2=>?_);obtain⟨it,fp,tn,J,H2,e,I2,T,st2,f2,k⟩:=h2;subst e;exact comp_core (RR:=fun acc C=>compPost (model X.prog X.w) X.A X.xe none (EP X pins σ Q) acc C) S nd hc ht he I2 T st2 f2 k fun D C s6 H6 m hm back _ _ q=>⟨m,hm,fun h' hs'=>⟨.ref D,H6,back h' hs',rfl,q⟩⟩
end
noncomputable def SubCl(cells:List (Str×Addr)):List (Str×Addr)->Prop
 | []=>True
 | p::r=>cells.lookup p.1=some p.2/\SubCl cells r
theorem SubCl.all{cells:List (Str×Addr)}:∀{cl:List (Str×Addr)},SubCl cells cl -> ∀ p∈cl,cells.lookup p.1=some p.2
 | _::_,h,p,hp=>by
   rcases List.mem_cons.mp hp with rfl | hp
   · exact h.1
   exact SubCl.all h.2 p hp
noncomputable def isCF(k:Option NameKind):Bool:=k == some .cell || k == some .free
theorem isCF_of{k:Option NameKind}(h:isCF k=true):k=some .cell∨k=some .free:=by
 unfold isCF at h;rw[Bool.or_eq_true]at h;exact h.imp beq_iff_eq.mp beq_iff_eq.mp
theorem CompScope.of{X:Cx}{scope:Scope}{cl:List (Str×Addr)}{x:Str}{js:List Nat}{N':List Str}(clos:closureFor scope X.env=pure cl)(kind:scope.kind=.function)(nocell:scope.names.all (fun y=>y.2 != .cell)=true)
 (names:scope.names.all (fun y=>y.2 != .local || scope.names.lookup y.1 == some .local)=true) (own:scope.names.lookup x=some .local) (sub:SubCl X.env.cells cl)
 (has:(relabel scope X.env).names.all (fun p=>!isCF (some p.2) || (cl.lookup p.1).isSome)=true) (nm:N'=x::js.map fun j=>X.N.getD j Str.empty)
 (see:js.all (fun j=>match X.N[j]? with | some y=>isCF (X.env.kindOf y) && isCF ((relabel scope X.env).names.lookup y) | none=>false)=true):CompScope X scope cl x js N' where
 clos:=clos
 kind:=kind
 nocell:=fun y hy=>by
  have:=List.all_eq_true.mp nocell y hy;exact bne_iff_ne.mp this
 names:=fun y hy e=>by
  have:=List.all_eq_true.mp names y hy;rw[e]at this;exact beq_iff_eq.mp (by simpa using this)
 own:=own
 sub:=sub.all
 has:=fun y h=>by
  have go:∀ k,(relabel scope X.env).names.lookup y=some k->isCF (some k)=true -> ∃ c,cl.lookup y=some c:=fun k hk hc=>by
   have:=List.all_eq_true.mp has (y,k) (PySem.mem_of_lookup hk);simp only[hc,Bool.not_true,Bool.false_or]at this;exact Option.isSome_iff_exists.mp this
  rcases h with h | h
  · exact go _ h rfl
  exact go _ h rfl
 nm:=nm
 see:=fun i j e=>by
  have:=List.all_eq_true.mp see j (List.mem_of_getElem? e);cases ey:X.N[j]? with
  | none=>rw[ey]at this;cases this
  | some y=>
    rw[ey]at this;rw[Bool.and_eq_true]at this;exact⟨y,rfl,isCF_of this.1,isCF_of this.2⟩
namespace B
section
variable{X:Cx}{scope:Scope}{cl:List (Str×Addr)}{x:Str}{N':List Str}{elt iter c:Expr}{px pos:Pos}{wi:TI}{te:TE}{tc:TT}
theorem comp(js:List Nat)(N':List Str)(S:CompScope X scope cl x js N')(nd:N'.Nodup)(hi:Bx (PI X (.Name x px) iter wi))(he:∀ s H fp pins,Bx (PE (compCx X scope cl N' s H fp pins) elt te))(hc:X.calm=true:=by rfl)
 (hs:∀ x,foldedSetIterable iter X.env x=pure x:=by intro _;rfl):Bx (PE X (.ListComp elt [⟨.Name x px,iter,[],0⟩] scope pos) (tComp js wi (fun _ H Q=>Q true H) te)):=
 ⟨pe_comp S nd hc hi.out (fun _ _ _ _=>pts_nil) (fun s H fp pins=>(he s H fp pins).out) hs⟩
end
end B
section
variable{X:Cx}
end
theorem wComp{σ:L2.St}{H:Hp}{Q:VK}{js:List Nat}{wi:TI}{tt:TT}{te:TE}(h:wi σ H fun J H1=>∀ D,H1 D=none -> ∃ W:Nat->Nat->L2.St->Hp->Prop,(∃ m,W 0 m (seen σ js) (upd H1 D (.lst []))) /\
 ∀ i m σ' H',W i m σ' H'->(J.stop i H'/\Q (.ref D) H')∨(J.go i H' /\ ∀ x H2,J.yld i H' x H2->tt (σ'.set 0 (some x)) H2 fun ok H3=>
   if ok=true then te (σ'.set 0 (some x)) H3 fun y H4=>∃ ys,H4 D=some (.lst ys)/\ys.length < sizeLine /\ ∃ m',m' < m/\W (i+1) m' (σ'.set 0 (some x)) (upd H4 D (.lst (ys++[y])))
   else ∃ m',m' < m/\W (i+1) m' (σ'.set 0 (some x)) H3)):tComp js wi tt te σ H Q:=h
theorem pt_more{p:Int}{n:Nat}(h0:0<=p)(h1:p < 2 ^ n):∀ k:Nat,pt p (n+k)=pt p n*2 ^ k
 | 0=>by rw[Int.pow_zero,Int.mul_one];rfl
 | k+1=>by
   have e:p / 2 ^ (n+k)=0:=by
    refine Int.ediv_eq_zero_of_lt h0 (Int.lt_of_lt_of_le h1 (pow_le_iff.mpr (by omega)))
   show pt p (n+k)*2+p / 2 ^ (n+k) % 2=_;rw[pt_more h0 h1 k,e,Int.pow_succ,Int.mul_assoc];show _+0=_;rw[Int.add_zero]
noncomputable def spStretch:Sp:=fun vs H Q _=>∃ p s:Int,vs=[.int p,.int s]/\(0 < s/\s < 1073741824) /\ ∀ t,H t=none->Q (.ref t) (L2.upd H t (.tup [.int (pt p 16),.int (pt p 16+65536 / s - 1)]))
theorem wStretch{p s:Int}{H:Hp}{Q:VK}{E:XK}(hs:0 < s/\s < 1073741824)(q:∀ t,H t=none->Q (.ref t) (L2.upd H t (.tup [.int (pt p 16),.int (pt p 16+65536 / s - 1)]))):spStretch ([.int p,.int s]++[]) H Q E:=⟨p,s,rfl,hs,q⟩
mutual
inductive DatV(K:W.Frag)(H:Hp):V->PyData->Prop
 | non:DatV K H .non .none
 | bl (b:Bool):DatV K H (.bl b) (.bool b)
 | int (i:Int):DatV K H (.int i) (.int i)
 | str (x:PySem.Str):DatV K H (.str x) (.str x)
 | lst {a:Addr}{xs:List V}{ds:List PyData} (h:SqL K H a xs) (r:DatVs K H xs ds):DatV K H (.ref a) (.list ds)
 | tup {a:Addr}{xs:List V}{ds:List PyData} (h:SqT K H a xs) (r:DatVs K H xs ds):DatV K H (.ref a) (.tuple ds)
inductive DatVs(K:W.Frag)(H:Hp):List V->List PyData->Prop
 | nil:DatVs K H [] []
 | cons {x:V}{xs:List V}{d:PyData}{ds:List PyData} (h:DatV K H x d) (r:DatVs K H xs ds):DatVs K H (x::xs) (d::ds)
end
section
variable{X:Cx}{pins:List (Addr×Obj)}{σ:L2.St}{H:Hp}{s:Shared}
mutual
theorem reads_of(I:Inv X pins σ H s):∀{v:V}{d:PyData}{u:Value},DatV X.K H v d->RelV v u -> ∃ as,Reads s.heap u d as
 | _,_,u,.non,r=>by
   cases (show u=Value.none from r);exact⟨_,.none⟩
 | _,_,u,.bl b,r=>by
   cases (show u=Value.bool b from r);exact⟨_,.bool b⟩
 | _,_,u,.int i,r=>by
   obtain⟨t,e⟩:=(show ∃ t,u=Value.int i t from r);cases e;exact⟨_,.int i t⟩
 | _,_,u,.str x,r=>by
   obtain⟨t,e⟩:=(show ∃ t,u=Value.str x t from r);cases e;exact⟨_,.str x t⟩
 | _,_,u,.lst (a:=a) h q,r=>by
   cases (show u=Value.ref a from r);obtain⟨its,rv,⟨o,n,e,c,_,d⟩,_⟩:=I.list h;obtain⟨as,z⟩:=reads_all I q rv;exact⟨_,.list e c d (by simpa using z)⟩
 | _,_,u,.tup (a:=a) h q,r=>by
   cases (show u=Value.ref a from r);obtain⟨its,rv,⟨o,e,c,n,d⟩,_⟩:=I.tuple h;obtain⟨as,z⟩:=reads_all I q rv;exact⟨_,.tuple e c d (by simpa using z)⟩
theorem reads_all(I:Inv X pins σ H s):∀{xs:List V}{ds:List PyData}{us:List Value},DatVs X.K H xs ds->Vals xs us -> ∃ as,ReadsAll s.heap us ds as
 | _,_,_,.nil,.nil=>⟨_,.nil⟩
 | _,_,_,.cons h r,.cons q qs=>by
   obtain⟨a1,z1⟩:=reads_of I h q;obtain⟨a2,z2⟩:=reads_all I r qs;exact⟨_,.cons z1 z2⟩
end
noncomputable def rNeD(K:W.Frag):R2:=fun x y H Q=>∃ d e,DatV K H x d/\DatV K H y e/\d.canLay0=true/\e.canLay0=true/\d.depth<=60/\Q (.bl (!PyData.eqv d e)) H
theorem op_neD(K:W.Frag)(hu:X.A.units+64 < cLine)(hK:X.K=K:=by rfl):OpR X (compareOp .NotEq) (rNeD K):=by
 subst hK;intro pins s σ H x y v u Q I rx ry h;obtain⟨d,e,hd,he,c1,c2,dp,q⟩:=h;obtain⟨as,r1⟩:=reads_of I hd rx;obtain⟨bs,r2⟩:=reads_of I he ry;exact SeqAt.compareNe_reads r1 r2 c1 c2 (by omega) ⟨.bl _,H,I,rfl,q⟩
theorem wNeSame{K:W.Frag}{H:Hp}{Q:VK}{x y:V}{d:PyData}(hx:DatV K H x d)(hy:DatV K H y d)(c:d.canLay0=true)(dp:d.depth<=60)(q:Q (.bl false) H):rNeD K x y H Q:=
 ⟨d,d,hx,hy,c,c,dp,by rw[SeqAt.eqv_refl d c];exact q⟩
end
section
variable{X:Cx}{pins:List (Addr×Obj)}{σ:L2.St}{H N:Hp}{s:Shared}{h':Heap}
end
section
variable{X:Cx}
end
section
variable{X:Cx}{o:Expr}{apos cpos:Pos}{td:TE}
namespace B
end B
end
namespace B
section
variable{X:Cx}{x m f:Str}{p pos apos cpos tpos pos':Pos}{e o i value:Expr}{es:List Expr}{t:TA}{ta te ti tv td ty tx:TE}{k:Nat}{ps:List Str}{sp:Sp}{C:Addr}
end
end B
namespace B
end B
noncomputable abbrev MRow:=List (Int×Int)
noncomputable def PrV(H:Hp)(v:V)(p:Int×Int):Prop:=∃ a,v=.ref a/\H a=some (.tup [.int p.1,.int p.2])
noncomputable abbrev Prs(H:Hp)(xs:List V)(r:MRow):Prop:=Paired (PrV H) xs r
theorem PrV.keep{H H':Hp}{v:V}{p:Int×Int}(h:PrV H v p)(k:∀ a xs,H a=some (.tup xs)->H' a=some (.tup xs)):PrV H' v p:=by
 obtain⟨a,e,h⟩:=h;exact⟨a,e,k a _ h⟩
theorem Prs.keep{H H':Hp}{xs:List V}{r:MRow}(h:Prs H xs r)(k:∀ a xs,H a=some (.tup xs)->H' a=some (.tup xs)):Prs H' xs r:=Paired.mapP h fun _ _ z=>z.keep k
noncomputable def isSize(n:Nat):Prop:=n∈[4,8,16,32,64,128,256,512,1024,2048,4096]
section
variable{D:Ends}{σ:L2.St}{H:Hp}{Q:VK}{v:V}{K:W.Frag}{C:Addr}{E:XK}
end
noncomputable def CN(Pv:Nat->L2.St->Hp->Prop)(n i:Nat)(D:Addr)(σ:L2.St)(y:V)(H4:Hp):Prop:=∃ ys,H4 D=some (.lst ys)/\ys.length < sizeLine /\ ∃ m',m' < n - i/\(m'=n - (i+1)/\i+1<=n/\Pv (i+1) σ (upd H4 D (.lst (ys++[y]))))
noncomputable def CO(Pv:Nat->L2.St->Hp->Prop)(n i:Nat)(σ:L2.St)(H3:Hp):Prop:=∃ m',m' < n - i/\(m'=n - (i+1)/\i+1<=n/\Pv (i+1) σ H3)
theorem CN.mk{Pv:Nat->L2.St->Hp->Prop}{n i:Nat}{D:Addr}{σ:L2.St}{y:V}{H4:Hp}{ys:List V}(hi:i < n)(hD:H4 D=some (.lst ys))(hl:ys.length < sizeLine)(h:Pv (i+1) σ (upd H4 D (.lst (ys++[y])))):CN Pv n i D σ y H4:=
 ⟨ys,hD,hl,n - (i+1),by omega,rfl,hi,h⟩
section
variable{K:W.Frag}{n:Nat}{lo:Int}{a D:Addr}{xs:List V}{σ0:L2.St}{H1:Hp}{Q:VK}{tt:TT}{te:TE}
theorem comp_range{Qf:Hp->Prop}(Pv:Nat->L2.St->Hp->Prop)(h0:Pv 0 σ0 H1)
 (step:∀ i σ' H',i < n->Pv i σ' H'->tt (σ'.set 0 (some (.int (lo+i)))) H' fun ok H3=>if ok=true then te (σ'.set 0 (some (.int (lo+i)))) H3 (fun y H4=>CN Pv n i D (σ'.set 0 (some (.int (lo+i)))) y H4)else CO Pv n i (σ'.set 0 (some (.int (lo+i)))) H3)
 (fin:∀ σ H,Pv n σ H->Qf H) :
 ∃ W:Nat->Nat->L2.St->Hp->Prop,(∃ m,W 0 m σ0 H1) /\ ∀ i m σ' H',W i m σ' H'->((Itr lo n).stop i H'/\Qf H')∨((Itr lo n).go i H' /\ ∀ x H2,(Itr lo n).yld i H' x H2->tt (σ'.set 0 (some x)) H2 fun ok H3=>
   if ok=true then te (σ'.set 0 (some x)) H3 fun y H4=>∃ ys,H4 D=some (.lst ys)/\ys.length < sizeLine /\ ∃ m',m' < m/\W (i+1) m' (σ'.set 0 (some x)) (upd H4 D (.lst (ys++[y])))
   else ∃ m',m' < m/\W (i+1) m' (σ'.set 0 (some x)) H3):=by
 refine⟨fun i m σ H=>m=n - i/\i<=n/\Pv i σ H,⟨n,by omega,Nat.zero_le _,h0⟩,?_⟩
 rintro i m σ' H' ⟨rfl,hi,p⟩;by_cases hlt:i < n
 · refine .inr ⟨hlt,fun x H2 y=>?_⟩
   obtain⟨rfl,rfl⟩:=y;exact step i σ' _ hlt p
 have e:i=n:=by omega
 subst e;exact .inl ⟨Nat.le_refl _,fin _ _ p⟩
theorem comp_rangeU{Qf:Hp->Prop}(Pv:Nat->L2.St->Hp->Prop)(h0:Pv 0 σ0 H1)
 (step:∀ i σ' H',i < n->Pv i σ' H'->te (σ'.set 0 (some (.int (lo+i)))) H' (fun y H4=>CN Pv n i D (σ'.set 0 (some (.int (lo+i)))) y H4))
 (fin:∀ σ H,Pv n σ H->Qf H) :
 ∃ W:Nat->Nat->L2.St->Hp->Prop,(∃ m,W 0 m σ0 H1) /\ ∀ i m σ' H',W i m σ' H'->((Itr lo n).stop i H'/\Qf H')∨((Itr lo n).go i H' /\ ∀ x H2,(Itr lo n).yld i H' x H2 ->
   if true=true then te (σ'.set 0 (some x)) H2 fun y H4=>∃ ys,H4 D=some (.lst ys)/\ys.length < sizeLine /\ ∃ m',m' < m/\W (i+1) m' (σ'.set 0 (some x)) (upd H4 D (.lst (ys++[y])))
   else ∃ m',m' < m/\W (i+1) m' (σ'.set 0 (some x)) H2):=
 comp_range (tt:=fun _ H Q=>Q true H) Pv h0 (fun i σ' H' hi p=>iteT (step i σ' H' hi p)) fin
end
section
variable{C:Addr}{H H':Hp}{p:Addr}{f m:Int}{R:MRows}{t L:Addr}{ds:List Addr}
end
end SW
namespace SW.B
open PySem PySem.Spec PyProof.Rows L2 SW
end SW.B
namespace SW
open PySem PySem.Spec PyProof.Rows L2
end SW
namespace SW
open PySem PySem.Spec PyProof.Rows L2
section
variable{D:Ends}{σ:L2.St}{H:Hp}{Q:VK}{K:W.Frag}
end
section
variable{X:Cx}{pins:List (Addr×Obj)}{σ:L2.St}{H:Hp}{s:Shared}{h':Heap}
end
section
variable{X:Cx}{elts:List Expr}{k:Nat}{tp:Pos}
end
namespace B
end B
section
variable{prog:Program}{w:World}{A:Around}{E:Value->Shared->Prop}{s:Shared}
set_option maxRecDepth 100000 in
end
section
variable{X:Cx}{o e:Expr}{to te:TE}{pos p2:Pos}{hi:Option Expr}{th:TO}
end
namespace B
end B
theorem Prs.len{H:Hp}{xs:List V}{r:MRow}(h:Prs H xs r):xs.length=r.length:=Paired.length h
namespace B
end B
end SW
namespace SW
open PySem PySem.Spec PyProof.Rows L2
section
variable{X:Cx}
end
end SW
namespace SW
open PySem PySem.Spec PyProof.Rows L2
end SW
namespace SW
open PySem PySem.Spec PyProof.Rows L2
end SW
namespace SW
open PySem PySem.Spec PyProof.Rows L2
section
variable(t:Addr)(pc:Int)(el:V)(mv:Int)(n:Addr)(tc:Int)
end
section
variable{CS CT:Addr}{H H':Hp}{p:Addr}{f m:Int}{pc:Nat}{M:MT}{tc:Int}{t n:Addr}{v:V}{FN FE F G:Addr->Prop}
end
section
variable{CS CT:Addr}{H:Hp}{Q:VK}{E:XK}{p:Addr}{k y f m:Int}{pc:Nat}{M:MT}{tc:Int}{F:Addr->Prop}
end
section
variable{CS CT:Addr}{H H':Hp}{p:Addr}{f m:Int}{pc:Nat}{M:MT}{tc:Int}{t n:Addr}{v:V}{FN FE F G:Addr->Prop}
end
end SW
namespace SW
open PySem PySem.Spec PyProof.Rows L2
namespace B
end B
end SW
namespace SW
open PySem PySem.Spec PyProof.Rows L2
end SW
namespace SW
open PySem PySem.Spec PyProof.Rows L2
section
variable{X:Cx}{scope:Scope}{cl:List (Str×Addr)}{os:List Str}{js:List Nat}{N':List Str}{pins:List (Addr×Obj)}{σ:L2.St}{H:Hp}{s:Shared}{fp:List Addr}
end
section
variable{X:Cx}{scope:Scope}{cl:List (Str×Addr)}{os:List Str}{js:List Nat}{N':List Str}{elt iter:Expr}{ifs:List Expr}{tgt:Expr}{pos:Pos}{wi:TI}{gt:TG}{tt:TT}{te:TE}
end
namespace B
section
variable{X:Cx}{scope:Scope}{cl:List (Str×Addr)}{tgt:Expr}{N':List Str}{elt iter c:Expr}{pos:Pos}{wi:TI}{gt:TG}{te:TE}{tc:TT}{os:List Str}
end
end B
end SW
namespace SW
open PySem PySem.Spec PyProof.Rows L2
namespace B
end B
section
variable{prog:Program}{w:World}{A:Around}{E:Value->Shared->Prop}{s:Shared}
end
section
variable{X:Cx}{elts:List Expr}{k:Nat}{tp:Pos}
end
namespace B
end B
section
variable{CS CT:Addr}{H:Hp}{Q:VK}{E:XK}{p:Addr}{f m:Int}{pc:Nat}{M:MT}{tc:Int}{F:Addr->Prop}
end
section
variable{CS CT:Addr}{H:Hp}{Q:VK}{E:XK}{f m:Int}
end
section
variable{CS CT:Addr}{H H':Hp}{p p2:Addr}{f m f2 m2:Int}{pc pc2:Nat}{M M2:MT}{tc tc2:Int}{F F' G:Addr->Prop}
end
theorem wSeqC{D:Ends}{σ:L2.St}{H:Hp}{t u:TS}(h:∀ N:L2.St->Hp->Prop,N=u D->t { D with nx:=N } σ H):tSeq t u D σ H:=h _ rfl
theorem wGo{N N':L2.St->Hp->Prop}{σ:L2.St}{H:Hp}(e:N=N')(h:N' σ H):N σ H:=e ▸ h
@[elab_as_elim] theorem len0{α:Type}{P:List α -> Prop}(us:List α)(hl:us.length=0)(h:Unit->P []):P us:=by
  cases us with
  | nil=>exact h ()
  | cons a l=>cases hl
@[elab_as_elim] theorem len1{α:Type}{P:List α -> Prop}(us:List α)(hl:us.length=1)(h:∀ a,P [a]):P us:=by
  cases us with
  | nil=>cases hl
  | cons a l=>exact len0 (P:=fun l=>P (a::l)) l (Nat.succ.inj hl) fun _=>h a
@[elab_as_elim] theorem len2{α:Type}{P:List α -> Prop}(us:List α)(hl:us.length=2)(h:∀ a b,P [a,b]):P us:=by
  cases us with
  | nil=>cases hl
  | cons a l=>exact len1 (P:=fun l=>P (a::l)) l (Nat.succ.inj hl) fun b=>h a b
@[elab_as_elim] theorem len3{α:Type}{P:List α -> Prop}(us:List α)(hl:us.length=3)(h:∀ a b c,P [a,b,c]):P us:=by
  cases us with
  | nil=>cases hl
  | cons a l=>exact len2 (P:=fun l=>P (a::l)) l (Nat.succ.inj hl) fun b c=>h a b c
@[elab_as_elim] theorem len4{α:Type}{P:List α -> Prop}(us:List α)(hl:us.length=4)(h:∀ a b c d,P [a,b,c,d]):P us:=by
  cases us with
  | nil=>cases hl
  | cons a l=>exact len3 (P:=fun l=>P (a::l)) l (Nat.succ.inj hl) fun b c d=>h a b c d
@[elab_as_elim] theorem len5{α:Type}{P:List α -> Prop}(us:List α)(hl:us.length=5)(h:∀ a b c d e,P [a,b,c,d,e]):P us:=by
  cases us with
  | nil=>cases hl
  | cons a l=>exact len4 (P:=fun l=>P (a::l)) l (Nat.succ.inj hl) fun b c d e=>h a b c d e
theorem walkX{q:Program}{loose:List Str}{XP:(Str->Option Value)->Heap->Prop}{K:Params->W.Frag}{as:List Addr}{n t:Nat}{r:W.RowW}{d:DefRec}{kwd:List (Str×Expr)}{run:Value->List Value->Sem Value}
 (e:∀ P,as=(K P).map (·.1)) (h:W.WalkO q loose XP (W.InK K) r d kwd run):W.WalkX q loose XP (W.X.obsZ as) (W.X.valZ K n t) r d kwd run:=
 fun w s₀ s₁ mg mb G y a o pm cd doc dV kV ho hd hcd hD hmg hg args vals as' L hpre=>h w s₀ s₁ mg mb G (W.InK.keeps w _ _ (W.X.z_facts e y).2.1 (W.Laid.keeps L)) a o pm cd doc dV kV ho hd hcd hD hmg hg args vals as' hpre
noncomputable def Cut(M:L2.St->Hp->Prop)(G:(L2.St->Hp->Prop)->Prop):Prop:=∀ N,N=M->G N
theorem wCut{M:L2.St->Hp->Prop}{G:(L2.St->Hp->Prop)->Prop}(h:∀ N,N=M->G N):Cut M G:=h
theorem forListC{K:PySem.W.Frag}{a:Addr}{xs:List V}{g:TG}{tb:TS}{D:Ends}{σ:L2.St}{H:Hp}(Pv:Nat->L2.St->Hp->Prop)(h0:Pv 0 σ H)(hl:∀ i σ H,i<=xs.length->Pv i σ H->SqL K H a xs)
 (hs:∀ i x σ H,xs[i]?=some x->Pv i σ H->Cut (Pv (i+1)) fun N=>g x σ H fun σ2 H2=>tb { D with nx:=N,ct:=N,bk:=D.nx } σ2 H2) (hd:∀ σ H,Pv xs.length σ H->D.nx σ H) :
 ∃ W:Nat->Nat->L2.St->Hp->Prop,(∃ m,W 0 m σ H) /\ ∀ i m σ H,W i m σ H ->
   ((Itl K a).stop i H/\D.nx σ H)∨((Itl K a).go i H /\ ∃ N:L2.St->Hp->Prop,(∀ σ' H',N σ' H' -> ∃ m',m' < m/\W (i+1) m' σ' H') /\ ∀ x H',(Itl K a).yld i H x H'->g x σ H' fun σ2 H2=>tb { D with nx:=N,ct:=N,bk:=D.nx } σ2 H2):=
 for_list Pv h0 hl (fun i x σ H e p=>hs i x σ H e p _ rfl) hd
theorem forRangeC{lo:Int}{n:Nat}{g:TG}{tb:TS}{D:Ends}{σ:L2.St}{H:Hp}(Pv:Nat->L2.St->Hp->Prop)(h0:Pv 0 σ H)
 (hs:∀ i σ H,i < n->Pv i σ H->Cut (Pv (i+1)) fun N=>g (.int (lo+i)) σ H fun σ2 H2=>tb { D with nx:=N,ct:=N,bk:=D.nx } σ2 H2) (hd:∀ σ H,Pv n σ H->D.nx σ H) :
 ∃ W:Nat->Nat->L2.St->Hp->Prop,(∃ m,W 0 m σ H) /\ ∀ i m σ H,W i m σ H ->
   ((Itr lo n).stop i H/\D.nx σ H)∨((Itr lo n).go i H /\ ∃ N:L2.St->Hp->Prop,(∀ σ' H',N σ' H' -> ∃ m',m' < m/\W (i+1) m' σ' H') /\ ∀ x H',(Itr lo n).yld i H x H'->g x σ H' fun σ2 H2=>tb { D with nx:=N,ct:=N,bk:=D.nx } σ2 H2):=
 for_range Pv h0 (fun i σ H e p=>hs i σ H e p _ rfl) hd
section
variable{K:W.Frag}{H:Hp}{p C dx:Addr}{fs:List (Str×V)}{v:V}{f:Str}
end
section
variable{CS CT:Addr}{H:Hp}{Q:VK}{E:XK}{p:Addr}{k f m:Int}{pc:Nat}{M:MT}{tc:Int}{F:Addr->Prop}
end
theorem fs{N P:List Str}{sc:Scope}(a:sc.kind=.function:=by rfl)(b:sc.isCoroutine=false:=by rfl)(c:sc.isGenerator=false:=by rfl)(d:N.Nodup:=by decide +kernel)(e:N.take P.length=P:=by rfl)(f:∀ x∈P,sc.names.lookup x=some .local∨sc.names.lookup x=some .cell:=by decide +kernel)(h:∀ y∈sc.names,y.2 ≠ .free:=by decide +kernel):FnScope N P sc:=⟨a,b,c,d,e,f,h⟩
theorem bd1{K:W.Frag}{x qual p0:Str}{st:Stmt}{f:Addr}{fd:FuncData}(F:Fun K x qual st f fd)(h:∀(kV doc pm:Value) (an:Option Addr) (cdv ct:Value) (a0:Value),bindArgs (W.fnOf x qual (defArgs st) (defBody st) (defScope st) .none kV doc pm an cdv ct) ⟨[a0],[]⟩=pure ([(p0,a0)]):=by intros;rfl):Binds K fd [p0] []:=F.binds fun _ _ _ _ _ _ us hl=>len1 us hl fun a0=>h _ _ _ _ _ _ a0
theorem bd2{K:W.Frag}{x qual p0 p1:Str}{st:Stmt}{f:Addr}{fd:FuncData}(F:Fun K x qual st f fd)(h:∀(kV doc pm:Value) (an:Option Addr) (cdv ct:Value) (a0 a1:Value),bindArgs (W.fnOf x qual (defArgs st) (defBody st) (defScope st) .none kV doc pm an cdv ct) ⟨[a0,a1],[]⟩=pure ([(p0,a0),(p1,a1)]):=by intros;rfl):Binds K fd [p0,p1] []:=F.binds fun _ _ _ _ _ _ us hl=>len2 us hl fun a0 a1=>h _ _ _ _ _ _ a0 a1
section
variable{X:Cx}{elts:List Expr}{k:Nat}{tp:Pos}
end
namespace B
end B
theorem b_sorted:bootBuiltins "sorted"=some (.builtin "sorted"):=by decide +kernel
section
variable{prog:Program}{w:World}{A:Around}{E:Value->Shared->Prop}{s:Shared}{T:String}{r d:Addr}{n:Nat}{P:Nat->Value->Prop}{OK:Heap->Prop}
end
section
variable{X:Cx}{e st:Expr}{te ts:TE}{pos p2:Pos}
end
section
variable{K:W.Frag}{a D:Addr}{xs:List V}{σ0:L2.St}{H1:Hp}{gt:TG}{tt:TT}{te:TE}
end
section
variable{X:Cx}
end
theorem paired_get{α β:Type}{F:α -> β -> Prop}:∀{xs:List α}{ys:List β}{i:Nat}{v:α},Paired F xs ys->xs[i]?=some v -> ∃ d,ys[i]?=some d/\F v d
 | _,_,_,_,.nil,h=>by simp at h
 | _,_,0,v,.cons (b:=b) hd _,g=>by
   simp at g;subst g;exact⟨b,rfl,hd⟩
 | _,_,i+1,v,.cons _ t,g=>by
   obtain⟨d,e,h⟩:=paired_get (i:=i) t (by simpa using g)
   exact⟨d,by simpa using e,h⟩
theorem paired_append{α β:Type}{F:α -> β -> Prop}{xs2:List α}{ys2:List β}(g:Paired F xs2 ys2):∀{xs:List α}{ys:List β},Paired F xs ys->Paired F (xs++xs2) (ys++ys2)
 | _,_,.nil=>g
 | _,_,.cons h t=>.cons h (paired_append g t)
end SW
namespace SW
open PySem PySem.Spec PyProof.Rows L2
namespace B
end B
section
variable{H:Hp}{Q:VK}{E:XK}{p:Addr}
end
section
variable{C:Addr}{H:Hp}{Q:VK}{E:XK}{p wa oa:Addr}{L:LS}
end
section
variable{C:Addr}{H H':Hp}{p:Addr}{L:LS}{wa oa:Addr}
end
end SW
namespace SW
open PySem PySem.Spec PyProof.Rows L2
section
variable{X:Cx}{scope:Scope}{cl:List (Str×Addr)}{os:List Str}{js:List Nat}{N':List Str}{elt tgt iter:Expr}{ifs:List Expr}{pos:Pos}{wi:TI}{gt:TG}{tt:TT}{te:TE}
end
namespace B
end B
section
variable{X:Cx}{pins:List (Addr×Obj)}{σ:L2.St}{H:Hp}{s:Shared}
end
section
variable{a D:Addr}{o:Obj}{kvs:List (Key×V)}{σ0:L2.St}{H1:Hp}{tt:TT}{te:TE}
end
section
variable{K:W.Frag}{H:Hp}
end
namespace B
end B
namespace B
end B
end SW
namespace SW
open PySem PySem.Spec PyProof.Rows L2
section
variable{X:Cx}{elts:List Expr}{k:Nat}{tp:Pos}
end
end SW
namespace SW
open PySem PySem.Spec PyProof.Rows L2
section
variable{prog:Program}{w:World}{A:Around}{E:Value->Shared->Prop}{s:Shared}
end
section
variable{X:Cx}
end
section
variable{X:Cx}
end
section
variable{X:Cx}
end
section
variable{X:Cx}
end
namespace B
end B
section
variable{X:Cx}
end
section
variable{X:Cx}
end
section
variable{t:Addr}{pc:Int}{ve:V}{mv:Int}{qn sp:Addr}
end
section
variable{H H':Hp}{md t sp qn qe:Addr}{ve:V}{f m:Int}{pc:Nat}{M:MT}{ss:Spots}{lsN lsE:List Addr}{F G:Addr->Prop}
end
section
variable{H H' H3:Hp}{md t sp qn qe q:Addr}{ve:V}{f m:Int}{pc:Nat}{M:MT}{ss:Spots}{lsN lsE ls:List Addr}{R:MRows}
end
section
variable{prog:Program}{w:World}{A:Around}{E:Value->Shared->Prop}{s:Shared}
end
section
variable{X:Cx}
end
end SW
set_option maxHeartbeats 4000000
namespace SW
open PySem PySem.Spec PyProof.Rows L2
end SW
set_option maxHeartbeats 4000000
namespace SW
open PySem PySem.Spec PyProof.Rows L2
end SW
set_option maxHeartbeats 2000000
namespace SW
open PySem PySem.Spec PyProof.Rows L2
end SW
set_option maxHeartbeats 2000000
namespace SW
open PySem PySem.Spec PyProof.Rows L2
section
variable{X:Cx}
end
section
variable{X:Cx}{pins:List (Addr×Obj)}{σ:L2.St}{H:Hp}{s:Shared}
end
section
variable{X:Cx}{pins:List (Addr×Obj)}{σ:L2.St}{H:Hp}{s:Shared}{kS D:Addr}{vs:List Value}{kz:List Int}{keys:Array Value}{e e1:Nat}{A:Around}{E:Value->Shared->Prop}{PP:PySem.Fin->Shared->Prop}
end
section
variable{X:Cx}{pins:List (Addr×Obj)}{σ:L2.St}{H:Hp}{s:Shared}{c P:Addr}{pos:Pos}{qual:Str}{params:Arguments}{body:Expr}{scope:Scope}{firstLine:Nat}{E:Value->Shared->Prop}{Q:Value->Shared->Prop}{A:Around}
end
section
variable{K:W.Frag}{P:Addr}
variable(hP:K.lookup P=some (W.tabObj #[]))
include hP
end
end SW
set_option maxHeartbeats 2000000
namespace SW
open PySem PySem.Spec PyProof.Rows L2
section
variable{C CT P b:Addr}{H H':Hp}{p:Addr}{f m:Int}{pc:Nat}{M:MT}{tc:Int}{F:Addr->Prop}{R:MRows}{pos:Pos}{qual:Str}
end
noncomputable def placeA(n:Nat)(cur:Int):Int:=pt cur 16 % (n:Int)
theorem placeA_lt{n:Nat}(h:0 < n)(c:Int):0<=placeA n c/\placeA n c < n:=⟨Int.emod_nonneg _ (by omega),Int.emod_lt_of_pos _ (by omega)⟩
end SW
set_option maxHeartbeats 2000000
namespace SW
open PySem PySem.Spec PyProof.Rows L2
end SW
set_option maxHeartbeats 2000000
namespace SW
open PySem PySem.Spec PyProof.Rows L2
section
variable{K:W.Frag}{H:Hp}{x y:V}{n:Nat}
end
section
variable{H:Hp}{Q:VK}{E:XK}{p:Addr}
end
section
variable{f m:Int}{pc:Nat}
end
end SW
set_option maxHeartbeats 2000000
namespace SW
open PySem PySem.Spec PyProof.Rows L2
section
variable{K:W.Frag}{H:Hp}
end
end SW
set_option maxHeartbeats 2000000
namespace SW
open PySem PySem.Spec PyProof.Rows L2
theorem two_pos(k:Nat):(0:Int) < 2 ^ k:=Int.pow_pos (by decide)
theorem pt_split(m:Int)(j:Nat):∀ k:Nat,pt m (j+k)=pt m j*2 ^ k+pt (m / 2 ^ j) k
 | 0=>by show pt m j=pt m j*1+0;omega
 | k+1=>by
   show pt m (j+k)*2+m / 2 ^ (j+k) % 2=pt m j*2 ^ (k+1)+(pt (m / 2 ^ j) k*2+m / 2 ^ j / 2 ^ k % 2);rw[pt_split m j k,Int.ediv_ediv_of_nonneg (Int.le_of_lt (two_pos j)),← Int.pow_add,Int.pow_succ,Int.add_mul,Int.mul_assoc];omega
theorem mod_two(m:Int)(k:Nat):m % 2 ^ (k+1)=m / 2 ^ k % 2*2 ^ k+m % 2 ^ k:=by
 have hT:=two_pos k;have h1:=Int.emod_add_mul_ediv m (2 ^ k);have h2:=Int.emod_add_mul_ediv (m / 2 ^ k) 2;have h3:=Int.emod_nonneg m (Int.ne_of_gt hT);have h4:=Int.emod_lt_of_pos m hT;have h5:=bit01 (m / 2 ^ k);rw[Int.pow_succ];generalize (2:Int) ^ k=T at *;generalize m % T=r at *;generalize m / T=q at *;generalize q / 2=q' at *;generalize q % 2=b at *;have e:m=(b*T+r)+T*2*q':=by
  rw[← h1,← h2,Int.mul_add,Int.mul_comm T b,← Int.mul_assoc];omega
 rw[e,Int.add_mul_emod_self_left];refine Int.emod_eq_of_lt ?_ ?_
 · rcases h5 with h | h <;> rw[h] <;> omega
 rcases h5 with h | h <;> rw[h] <;> omega
theorem pt_inv(m:Int):∀ k:Nat,pt (pt m k) k=m % 2 ^ k
 | 0=>by show(0:Int)=m % 1;omega
 | k+1=>by
   have h:=pt_split (pt m (k+1)) 1 k;rw[Nat.add_comm 1 k]at h;rw[h,mod_two];have e1:pt (pt m (k+1)) 1=m / 2 ^ k % 2:=by
    show 0*2+pt m (k+1) / 2 ^ 0 % 2=_;rw[Int.pow_zero,Int.ediv_one,pt_mod];omega
   have e2:pt m (k+1) / 2 ^ 1=pt m k:=by rw[Int.pow_succ,Int.pow_zero,Int.one_mul];exact pt_half m k
   rw[e1,e2,pt_inv m k]
theorem pt_place{n k:Nat}(m:Int):pt m (k+n) % 2 ^ n=pt (m / 2 ^ k) n:=by
 rw[pt_split];obtain⟨h0,h1⟩:=pt_range (m / 2 ^ k) n;rw[Int.add_comm,Int.add_mul_emod_self_right];exact Int.emod_eq_of_lt h0 h1
theorem pt_even(q:Int)(n:Nat):pt (2*q) (n+1)=pt q n:=by
 have h:=pt_split (2*q) 1 n;rw[Nat.add_comm 1 n]at h;rw[h,Int.pow_succ,Int.pow_zero,Int.one_mul];have e1:pt (2*q) 1=0:=by
  show 0*2+2*q / 2 ^ 0 % 2=0;rw[Int.pow_zero,Int.ediv_one];omega
 have e2:2*q / 2=q:=by omega
 rw[e1,e2];omega
theorem pt_odd(q:Int)(n:Nat):pt (2*q+1) (n+1)=2 ^ n+pt q n:=by
 have h:=pt_split (2*q+1) 1 n;rw[Nat.add_comm 1 n]at h;rw[h,Int.pow_succ,Int.pow_zero,Int.one_mul];have e1:pt (2*q+1) 1=1:=by
  show 0*2+(2*q+1) / 2 ^ 0 % 2=1;rw[Int.pow_zero,Int.ediv_one];omega
 have e2:(2*q+1) / 2=q:=by omega
 rw[e1,e2];omega
theorem isSize.pow{s:Nat}(h:isSize s):∃ n:Nat,2<=n/\n<=12/\s=2 ^ n:=by
 unfold isSize at h;simp only[List.mem_cons,List.not_mem_nil,or_false]at h;rcases h with h | h | h | h | h | h | h | h | h | h | h
 · exact⟨2,by decide,by decide,by omega⟩
 · exact⟨3,by decide,by decide,by omega⟩
 · exact⟨4,by decide,by decide,by omega⟩
 · exact⟨5,by decide,by decide,by omega⟩
 · exact⟨6,by decide,by decide,by omega⟩
 · exact⟨7,by decide,by decide,by omega⟩
 · exact⟨8,by decide,by decide,by omega⟩
 · exact⟨9,by decide,by decide,by omega⟩
 · exact⟨10,by decide,by decide,by omega⟩
 · exact⟨11,by decide,by decide,by omega⟩
 exact⟨12,by decide,by decide,by omega⟩
structure Bits(s:Int)(c wd fi p:Int):Prop where
 w1:65536 / s=wd
 w2:wd / 2*2=wd
 w0:0 < wd / 2
 w3:65536 / (s*2)=wd / 2
 f1:fi=c - c % wd
 f0:0<=fi/\fi+wd<=65536
 p1:pt fi 16 % s=p
 p2:pt fi 16 % (2*s)=p
 p3:pt (fi+wd / 2) 16 % (2*s)=p+s
 p4:pt p 16=fi
 p5:pt (p+s) 16=fi+wd / 2
theorem Bits.of{s:Nat}{c:Int}(h:isSize s)(c0:0<=c)(c1:c < 65536):Bits s c (65536 / s) (c - c % (65536 / s)) (placeA s c):=by
 obtain⟨n,n2,n12,rfl⟩:=h.pow;obtain⟨k,hk⟩:∃ k:Nat,15=k+n:=⟨15 - n,by omega⟩
 have e16:16=(k+1)+n:=by omega
 have e16':16=k+(n+1):=by omega
 have e16'':16=n+(k+1):=by omega
 have e16d:16=(n+1)+k:=by omega
 have cast:((2 ^ n:Nat):Int)=2 ^ n:=by exact_mod_cast rfl
 have hS:=two_pos n;have hK:=two_pos k;have all:(2:Int) ^ k*2*2 ^ n=65536:=by
  rw[← Int.pow_succ,← Int.pow_add,← e16];rfl
 unfold placeA;rw[cast];have w1:(65536:Int) / 2 ^ n=2 ^ k*2:=by rw[← all];exact Int.mul_ediv_cancel _ (Int.ne_of_gt hS)
 have w3:(65536:Int) / (2 ^ n*2)=2 ^ k:=by
  rw[← all,show(2:Int) ^ k*2*2 ^ n=2 ^ k*(2 ^ n*2) by rw[Int.mul_assoc,Int.mul_comm 2 (2 ^ n)]]
  exact Int.mul_ediv_cancel _ (by omega)
 have hwd:(2:Int) ^ k*2 / 2=2 ^ k:=by omega
 -- q: the walk's place by points
 have hfi:c - c % (2 ^ k*2)=c / (2 ^ k*2)*(2 ^ k*2):=by
  have:=Int.emod_add_mul_ediv c (2 ^ k*2);rw[Int.mul_comm (c / (2 ^ k*2))];omega
 have hq0:0<=c / (2 ^ k*2):=Int.ediv_nonneg c0 (by omega)
 have hq1:c / (2 ^ k*2) < 2 ^ n:=Int.ediv_lt_of_lt_mul (by omega) (by rw[Int.mul_comm,all];exact c1)
 have pl:pt c 16 % 2 ^ n=pt (c / (2 ^ k*2)) n:=by rw[e16,pt_place,Int.pow_succ]
 rw[w1,hfi,pl];generalize c / (2 ^ k*2)=q at *;have pr:=pt_range q n;have inv:pt (pt q n) n=q:=by rw[pt_inv];exact Int.emod_eq_of_lt hq0 hq1
 have d1:q*(2 ^ k*2) / (2 ^ k*2)=q:=Int.mul_ediv_cancel _ (by omega)
 have d2:q*(2 ^ k*2) / 2 ^ k=2*q:=by
  rw[show q*(2 ^ k*2)=2*q*2 ^ k by rw[Int.mul_comm (2 ^ k) 2,← Int.mul_assoc,Int.mul_comm q 2]]
  exact Int.mul_ediv_cancel _ (Int.ne_of_gt hK)
 have d3:(q*(2 ^ k*2)+2 ^ k) / 2 ^ k=2*q+1:=by
  rw[show q*(2 ^ k*2)+2 ^ k=(2*q+1)*2 ^ k by rw[Int.add_mul,Int.one_mul,Int.mul_comm (2 ^ k) 2,← Int.mul_assoc,Int.mul_comm q 2]]
  exact Int.mul_ediv_cancel _ (Int.ne_of_gt hK)
 have s2:(2:Int)*2 ^ n=2 ^ (n+1):=by rw[Int.pow_succ,Int.mul_comm]
 have u:=pt_range (2*q+1) (n+1);refine⟨w1,by rw[hwd],by rw[hwd];exact hK,by rw[w3,hwd],hfi.symm,⟨Int.mul_nonneg hq0 (by omega),?_⟩,?_,?_,?_,?_,?_⟩
 · have h1:(q+1)*(2 ^ k*2)<=2 ^ n*(2 ^ k*2):=Int.mul_le_mul_of_nonneg_right (by omega) (by omega)
   rw[Int.mul_comm (2 ^ n),all,Int.add_mul,Int.one_mul]at h1;exact h1
 · rw[e16,pt_place,Int.pow_succ,d1]
 · rw[s2,e16',pt_place,d2,pt_even]
 · rw[hwd,s2,e16',pt_place,d3,pt_odd,Int.add_comm]
 · rw[e16'',pt_more pr.1 pr.2,inv,Int.pow_succ]
 rw[hwd,Int.add_comm (pt q n),← pt_odd,e16d,pt_more u.1 u.2,pt_inv,Int.emod_eq_of_lt (by omega) (by rw[Int.pow_succ];omega),Int.add_mul,Int.one_mul,Int.mul_comm (2 ^ k) 2,← Int.mul_assoc,Int.mul_comm q 2]
end SW
set_option maxHeartbeats 2000000
namespace SW
open PySem PySem.Spec PyProof.Rows L2
theorem pt_low(m:Int)(n:Nat):pt (m % 2 ^ n) n=pt m n:=by
 rw[← pt_inv m n,pt_inv (pt m n) n];obtain⟨h0,h1⟩:=pt_range m n;exact Int.emod_eq_of_lt h0 h1
theorem pt_in{s:Nat}(h:isSize s∨s=8192){k:Int}(k0:0<=k):pt (k % s) 16<=pt k 16/\pt k 16<=pt (k % s) 16+65536 / s - 1:=by
 obtain⟨n,n13,rfl⟩:∃ n:Nat,n<=13/\s=2 ^ n:=by
  rcases h with h | h
  · obtain⟨n,_,n12,e⟩:=h.pow
    exact⟨n,by omega,e⟩
  exact⟨13,by decide,by omega⟩
 obtain⟨j,hj⟩:∃ j:Nat,16=n+j:=⟨16 - n,by omega⟩
 have cast:((2 ^ n:Nat):Int)=2 ^ n:=by exact_mod_cast rfl
 rw[cast];have hS:=two_pos n;have all:(65536:Int)=2 ^ j*2 ^ n:=by rw[← Int.pow_add,Nat.add_comm,← hj];rfl
 have w:(65536:Int) / 2 ^ n=2 ^ j:=by rw[all];exact Int.mul_ediv_cancel _ (Int.ne_of_gt hS)
 rw[w,hj,pt_split k n j,pt_more (Int.emod_nonneg _ (Int.ne_of_gt hS)) (Int.emod_lt_of_pos _ hS),pt_low];obtain⟨h0,h1⟩:=pt_range (k / 2 ^ n) j;omega
section
variable{f m:Int}{M:MT}{cur:Int}
end
end SW
set_option maxHeartbeats 2000000
namespace SW
open PySem PySem.Spec PyProof.Rows L2
section
variable{O:KeyOrd}{ky:Keyed->O.α}
noncomputable def Le(ky:Keyed->O.α)(x y:Keyed):Prop:=O.kle (ky x) (ky y)
noncomputable def Srd(ky:Keyed->O.α)(l:List Keyed):Prop:=l.Pairwise (Le ky)
theorem Le.trans{x y z:Keyed}(a:Le ky x y)(b:Le ky y z):Le ky x z:=KeyOrd.kle_trans a b
theorem Le.of_lt{x y:Keyed}(h:O.blt (ky x) (ky y)=true):Le ky x y:=KeyOrd.kle_of_klt h
theorem Le.of_not{x y:Keyed}(h:O.blt (ky x) (ky y)=false):Le ky y x:=h
theorem Le.rfl'(x:Keyed):Le ky x x:=KeyOrd.kle_refl _
theorem Srd.app{l r:List Keyed}:Srd ky (l++r) ↔ Srd ky l/\Srd ky r /\ ∀ x∈l,∀ y∈r,Le ky x y:=List.pairwise_append
theorem Srd.drop{l:List Keyed}(h:Srd ky l)(i:Nat):Srd ky (l.drop i):=List.Pairwise.sublist (List.drop_sublist _ _) h
theorem Srd.take{l:List Keyed}(h:Srd ky l)(i:Nat):Srd ky (l.take i):=List.Pairwise.sublist (List.take_sublist _ _) h
theorem Srd.get{l:List Keyed}(h:Srd ky l){i j:Nat}{x y:Keyed}(hij:i<=j)(hx:l[i]?=some x)(hy:l[j]?=some y):Le ky x y:=by
 obtain⟨h1,rfl⟩:=List.getElem?_eq_some_iff.mp hx;obtain⟨h2,rfl⟩:=List.getElem?_eq_some_iff.mp hy;rcases Nat.lt_or_eq_of_le hij with z | rfl
 · exact List.pairwise_iff_getElem.mp h i j h1 h2 z
 exact Le.rfl' _
theorem mem_drop_get{l:List Keyed}{i:Nat}{y:Keyed}(h:y∈l.drop i):∃ j,i<=j/\l[j]?=some y:=by
 obtain⟨k,hk⟩:=List.getElem?_of_mem h;rw[List.getElem?_drop]at hk;exact⟨i+k,by omega,hk⟩
theorem mem_take_get{l:List Keyed}{i:Nat}{y:Keyed}(h:y∈l.take i):∃ j,j < i/\l[j]?=some y:=by
 obtain⟨k,hk⟩:=List.getElem?_of_mem h;have hl:=(List.getElem?_eq_some_iff.mp hk).1;rw[List.length_take]at hl;rw[List.getElem?_take_of_lt (by omega)]at hk
 exact⟨k,by omega,hk⟩
structure JL(ky:Keyed->O.α)(a b o:List Keyed)(i j:Nat):Prop where
 pm:o.Perm (a.take i++b.take j)
 so:Srd ky o
 bd:∀ x∈o,∀ y,y∈a.drop i∨y∈b.drop j->Le ky x y
theorem take_add{l:List Keyed}(i k:Nat):l.take (i+k)=l.take i++(l.drop i).take k:=by rw[List.take_add]
theorem JL.a{a b o:List Keyed}{i j:Nat}(J:JL ky a b o i j)(sa:Srd ky a)(k:Nat)(h:∀ x∈(a.drop i).take k,∀ y∈b.drop j,Le ky x y):JL ky a b (o++(a.drop i).take k) (i+k) j:=by
 have sd:=sa.drop i;rw[← List.take_append_drop k (a.drop i)]at sd;obtain⟨s1,s2,s3⟩:=Srd.app.mp sd;refine⟨?_,Srd.app.mpr ⟨J.so,s1,fun x hx y hy=>J.bd x hx y (.inl (List.mem_of_mem_take hy))⟩,fun x hx y hy=>?_⟩
 · rw[take_add]
   refine(J.pm.append_right _).trans ?_;rw[List.append_assoc,List.append_assoc];exact(List.Perm.append_left _ List.perm_append_comm)
 rcases List.mem_append.mp hx with z | z
 · refine J.bd x z y (hy.imp (fun u=>?_) id)
   rw[← List.drop_drop]at u;exact List.mem_of_mem_drop u
 rcases hy with u | u
 · rw[← List.drop_drop]at u
   exact s3 x z y u
 exact h x z y u
theorem JL.b{a b o:List Keyed}{i j:Nat}(J:JL ky a b o i j)(sb:Srd ky b)(k:Nat)(h:∀ x∈(b.drop j).take k,∀ y∈a.drop i,Le ky x y):JL ky a b (o++(b.drop j).take k) i (j+k):=by
 have sd:=sb.drop j;rw[← List.take_append_drop k (b.drop j)]at sd;obtain⟨s1,s2,s3⟩:=Srd.app.mp sd;refine⟨?_,Srd.app.mpr ⟨J.so,s1,fun x hx y hy=>J.bd x hx y (.inr (List.mem_of_mem_take hy))⟩,fun x hx y hy=>?_⟩
 · rw[take_add,← List.append_assoc]
   exact J.pm.append_right _
 rcases List.mem_append.mp hx with z | z
 · refine J.bd x z y (hy.imp id (fun u=>?_))
   rw[← List.drop_drop]at u;exact List.mem_of_mem_drop u
 rcases hy with u | u
 · exact h x z y u
 rw[← List.drop_drop]at u;exact s3 x z y u
noncomputable def Mgd(ky:Keyed->O.α)(a b r:List Keyed):Prop:=r.Perm (a++b)/\Srd ky r
theorem JL.all{a b o:List Keyed}{i j:Nat}(J:JL ky a b o i j):(o++a.drop i++b.drop j).Perm (a++b):=by
 have h1:(o++a.drop i++b.drop j).Perm (a.take i++b.take j++(a.drop i++b.drop j)):=by
  rw[List.append_assoc];exact J.pm.append_right _
 refine h1.trans ?_;have h2:(a.take i++b.take j++(a.drop i++b.drop j)).Perm (a.take i++a.drop i++(b.take j++b.drop j)):=by
  rw[List.append_assoc,List.append_assoc];refine List.Perm.append_left _ ?_;rw[← List.append_assoc,← List.append_assoc];exact List.Perm.append_right _ List.perm_append_comm
 rw[List.take_append_drop,List.take_append_drop]at h2;exact h2
theorem JL.fin1{a b o:List Keyed}{i j:Nat}(J:JL ky a b o i j)(sa:Srd ky a)(sb:Srd ky b)(h:a.length<=i∨b.length<=j):Mgd ky a b (o++a.drop i++b.drop j):=by
 refine⟨J.all,?_⟩;rcases h with h | h
 · rw[List.drop_of_length_le h,List.append_nil]
   exact Srd.app.mpr ⟨J.so,sb.drop j,fun x hx y hy=>J.bd x hx y (.inr hy)⟩
 rw[List.drop_of_length_le h,List.append_nil];exact Srd.app.mpr ⟨J.so,sa.drop i,fun x hx y hy=>J.bd x hx y (.inl hy)⟩
theorem JL.fin2{a b o:List Keyed}{i j:Nat}(J:JL ky a b o i j)(sa:Srd ky a)(sb:Srd ky b)(h:∀ x∈b,∀ y∈a.drop i,Le ky x y):Mgd ky a b (o++b.drop j++a.drop i):=by
 refine⟨List.Perm.trans ?_ J.all,?_⟩
 · rw[List.append_assoc,List.append_assoc]
   exact List.Perm.append_left _ List.perm_append_comm
 refine Srd.app.mpr ⟨Srd.app.mpr ⟨J.so,sb.drop j,fun x hx y hy=>J.bd x hx y (.inr hy)⟩,sa.drop i,fun x hx y hy=>?_⟩;rcases List.mem_append.mp hx with z | z
 · exact J.bd x z y (.inl hy)
 exact h x (List.mem_of_mem_drop z) y hy
theorem drop_one{l:List Keyed}{i:Nat}{x:Keyed}(h:l[i]?=some x):(l.drop i).take 1=[x]:=by
 obtain⟨hi,rfl⟩:=List.getElem?_eq_some_iff.mp h;rw[List.drop_eq_getElem_cons hi]
 rfl
structure JH(ky:Keyed->O.α)(a b o:List Keyed)(i j:Nat):Prop where
 pm:o.Perm (a.drop i++b.drop j)
 so:Srd ky o.reverse
 bd:∀ y∈o,∀ x,x∈a.take i∨x∈b.take j->Le ky x y
theorem drop_sub{l:List Keyed}{i k:Nat}(h:k<=i):l.drop k=(l.take i).drop k++l.drop i:=by
 conv=>lhs;rw[← List.take_append_drop i l]
 by_cases z:i<=l.length
 · rw[List.drop_append_of_le_length (by rw[List.length_take];omega)]
 have e:l.drop i=[]:=List.drop_of_length_le (by omega)
 rw[e,List.append_nil,List.append_nil]
theorem JH.a{a b o:List Keyed}{i j:Nat}(J:JH ky a b o i j)(sa:Srd ky a)(k:Nat)(hk:k<=i)(h:∀ y∈(a.take i).drop k,∀ x∈b.take j,Le ky x y):JH ky a b (o++((a.take i).drop k).reverse) k j:=by
 have sd:=sa.take i;rw[← List.take_append_drop k (a.take i)]at sd;obtain⟨s1,s2,s3⟩:=Srd.app.mp sd;have e:(a.take i).take k=a.take k:=by rw[List.take_take,Nat.min_eq_left hk]
 rw[e]at s1 s3;refine⟨?_,?_,fun y hy x hx=>?_⟩
 · rw[drop_sub (l:=a) hk]
   refine(J.pm.append_right _).trans ?_;refine(List.Perm.append_left _ (List.reverse_perm _)).trans ?_;rw[List.append_assoc];refine List.perm_append_comm.trans ?_;rw[List.append_assoc,List.append_assoc];exact List.perm_append_comm.trans (by rw[List.append_assoc])
 · rw[List.reverse_append,List.reverse_reverse]
   refine Srd.app.mpr ⟨s2,J.so,fun x hx y hy=>J.bd y (List.mem_reverse.mp hy) x (.inl (List.mem_of_mem_drop hx))⟩
 rcases List.mem_append.mp hy with z | z
 · refine J.bd y z x (hx.imp (fun u=>?_) id)
   exact(List.take_sublist_take_left hk).subset u
 rw[List.mem_reverse]at z;rcases hx with u | u
 · exact s3 x u y z
 exact h y z x u
theorem JH.b{a b o:List Keyed}{i j:Nat}(J:JH ky a b o i j)(sb:Srd ky b)(k:Nat)(hk:k<=j)(h:∀ y∈(b.take j).drop k,∀ x∈a.take i,Le ky x y):JH ky a b (o++((b.take j).drop k).reverse) i k:=by
 have sd:=sb.take j;rw[← List.take_append_drop k (b.take j)]at sd;obtain⟨s1,s2,s3⟩:=Srd.app.mp sd;have e:(b.take j).take k=b.take k:=by rw[List.take_take,Nat.min_eq_left hk]
 rw[e]at s1 s3;refine⟨?_,?_,fun y hy x hx=>?_⟩
 · rw[drop_sub (l:=b) hk]
   refine(J.pm.append_right _).trans ?_;refine(List.Perm.append_left _ (List.reverse_perm _)).trans ?_;rw[List.append_assoc];exact List.Perm.append_left _ List.perm_append_comm
 · rw[List.reverse_append,List.reverse_reverse]
   refine Srd.app.mpr ⟨s2,J.so,fun x hx y hy=>J.bd y (List.mem_reverse.mp hy) x (.inr (List.mem_of_mem_drop hx))⟩
 rcases List.mem_append.mp hy with z | z
 · refine J.bd y z x (hx.imp id (fun u=>?_))
   exact(List.take_sublist_take_left hk).subset u
 rw[List.mem_reverse]at z;rcases hx with u | u
 · exact h y z x u
 exact s3 x u y z
theorem JH.all{a b o:List Keyed}{i j:Nat}(J:JH ky a b o i j):(a.take i++b.take j++o.reverse).Perm (a++b):=by
 have h1:(a.take i++b.take j++o.reverse).Perm (a.take i++b.take j++(a.drop i++b.drop j)):=List.Perm.append_left _ ((List.reverse_perm _).trans J.pm);refine h1.trans ?_;have h2:(a.take i++b.take j++(a.drop i++b.drop j)).Perm (a.take i++a.drop i++(b.take j++b.drop j)):=by
  rw[List.append_assoc,List.append_assoc];refine List.Perm.append_left _ ?_;rw[← List.append_assoc,← List.append_assoc];exact List.Perm.append_right _ List.perm_append_comm
 rw[List.take_append_drop,List.take_append_drop]at h2;exact h2
theorem JH.fin1{a b o:List Keyed}{i j:Nat}(J:JH ky a b o i j)(sa:Srd ky a)(sb:Srd ky b)(h:i=0∨j=0):Mgd ky a b (a.take i++b.take j++o.reverse):=by
 refine⟨J.all,?_⟩;rcases h with rfl | rfl
 · rw[List.take_zero,List.nil_append]
   exact Srd.app.mpr ⟨sb.take j,J.so,fun x hx y hy=>J.bd y (List.mem_reverse.mp hy) x (.inr hx)⟩
 rw[List.take_zero,List.append_nil];exact Srd.app.mpr ⟨sa.take i,J.so,fun x hx y hy=>J.bd y (List.mem_reverse.mp hy) x (.inl hx)⟩
theorem JH.fin2{a b o:List Keyed}{i j:Nat}(J:JH ky a b o i j)(sa:Srd ky a)(sb:Srd ky b)(h:∀ x∈b.take j,∀ y∈a,Le ky x y):Mgd ky a b (b.take j++a.take i++o.reverse):=by
 refine⟨List.Perm.trans ?_ J.all,?_⟩
 · exact List.Perm.append_right _ List.perm_append_comm
 refine Srd.app.mpr ⟨Srd.app.mpr ⟨sb.take j,sa.take i,fun x hx y hy=>h x hx y (List.mem_of_mem_take hy)⟩,J.so,fun x hx y hy=>?_⟩;rw[List.mem_reverse]at hy;rcases List.mem_append.mp hx with z | z
 · exact J.bd y hy x (.inr z)
 exact J.bd y hy x (.inl z)
theorem take_one{l:List Keyed}{i:Nat}{x:Keyed}(h:l[i]?=some x):(l.take (i+1)).drop i=[x]:=by
 obtain⟨hi,rfl⟩:=List.getElem?_eq_some_iff.mp h;rw[List.drop_take,List.drop_eq_getElem_cons hi,show i+1 - i=1 by omega]
 rfl
end
section
variable{prog:Program}{w:World}{A:Around}{E:Value->Shared->Prop}{s:Shared}
noncomputable def gallopX:Bool->Keyed->Array Keyed->Nat->Nat->Nat->StateT SortSt Sem (Option Nat):=sortPriv% PySem.Builtin.gallop
theorem gallopX_eq(lf:Bool)(ky:Keyed)(xs:Array Keyed)(b n h:Nat):gallopX lf ky xs b n h=(do
 let bey (i:Nat):StateT SortSt Sem (Option Bool):=do
  let x ← elem' xs (b+i)
  if lf then lt' x ky else return(← lt' ky x).map (!·)
 let mut la:=0
 let mut of:=1
 let mut lo:=0
 let mut hi:=0
 let some rg ← bey h | return none
 if rg then
  let mx:=n - h
  for _ in [0:n] do
   if of ≥ mx then break
   let some mo ← bey (h+of) | return none
   if !mo then break
   la:=of
   of:=2*of+1
  lo:=h+la+1
  hi:=h+min of mx
 else
  let mx:=h+1
  for _ in [0:n] do
   if of ≥ mx then break
   let some fo ← bey (h - of) | return none
   if fo then break
   la:=of
   of:=2*of+1
  lo:=h+1 - min of mx
  hi:=h - la
 for _ in [0:n] do
  if lo ≥ hi then break
  let m:=lo+(hi - lo) / 2
  let some mo ← bey m | return none
  if mo then lo:=m+1 else hi:=m
 return some hi):=rfl
noncomputable abbrev beyX(lf:Bool)(ky:Keyed)(xs:Array Keyed)(i:Nat):StateT SortSt Sem (Option Bool):=do
 let x ← elem' xs i
 if lf=true then lt' x ky else return(← lt' ky x).map (!·)
theorem wpS_bin{n:Nat}{st:SortSt}{p:Nat->Bool}{Q:Option (Option Nat)×Nat×Nat->SortSt->Prop}{f:Nat->Option (Option Nat)×Nat×Nat->StateT SortSt Sem (ForInStep (Option (Option Nat)×Nat×Nat))}{lo hi:Nat}
 (hm:∀ i j,i<=j->j < n->p j=true->p i=true)
 (f0:∀ x l r,l ≥ r->f x (none,l,r)=pure (ForInStep.done (none,l,r)))
 (f1:∀ x l r (Q':ForInStep (Option (Option Nat)×Nat×Nat)->SortSt->Prop),l < r->r<=n->Q' (if p (l+(r - l) / 2)=true then .yield (none,l+(r - l) / 2+1,r)else .yield (none,l,l+(r - l) / 2)) st->wpS (model prog w) A E s (f x (none,l,r)) Q' st)
 (h1:lo<=hi) (h2:hi<=n) (h3:∀ i,i < lo->p i=true) (h4:∀ i,hi<=i->i < n->p i=false)
 (q:∀ k,k<=n->(∀ i,i < k->p i=true)->(∀ i,k<=i->i < n->p i=false)->Q (none,k,k) st) :
 wpS (model prog w) A E s (forIn [:n] ((none,lo,hi):Option (Option Nat)×Nat×Nat) f) Q st:=by
 refine wpS_forRange (I:=fun x c st'=>st'=st /\ ∃ l r,c=(none,l,r)/\l<=r/\r<=n/\r - l<=n - x/\(∀ i,i < l->p i=true)/\(∀ i,r<=i->i < n->p i=false)) ?_ ?_ ⟨rfl,lo,hi,rfl,h1,h2,by omega,h3,h4⟩
 · rintro x c st' _ hx ⟨rfl,l,r,rfl,a1,a2,a3,a4,a5⟩
   by_cases g:l ≥ r
   · rw[f0 x l r g]
     obtain rfl:l=r:=by omega
     exact wpS_pure (q l a2 a4 a5)
   refine f1 x l r _ (by omega) a2 ?_
   cases e:p (l+(r - l) / 2)with
   | true=>exact⟨rfl,l+(r - l) / 2+1,r,rfl,by omega,a2,by omega,fun i hi=>hm i _ (by omega) (by omega) e,a5⟩
   | false=>
     refine⟨rfl,l,l+(r - l) / 2,rfl,by omega,by omega,by omega,a4,fun i hi hn=>?_⟩
     cases e2:p i with
     | false=>rfl
     | true=>rw[hm _ i hi hn e2]at e;cases e
 rintro c st' ⟨rfl,l,r,rfl,a1,a2,a3,a4,a5⟩;obtain rfl:l=r:=by omega
 exact q l a2 a4 a5
theorem wpS_gallop{lf:Bool}{ky:Keyed}{xs:Array Keyed}{b n h:Nat}{st:SortSt}{Q:Option Nat->SortSt->Prop}(p:Nat->Bool)
 (hb:∀ i,i < n -> ∀ Q':Option Bool->SortSt->Prop,Q' (some (p i)) st->wpS (model prog w) A E s (beyX lf ky xs (b+i)) Q' st)
 (hm:∀ i j,i<=j->j < n->p j=true->p i=true) (hh:h < n)
 (q:∀ k,k<=n->(∀ i,i < k->p i=true)->(∀ i,k<=i->i < n->p i=false)->Q (some k) st) :
 wpS (model prog w) A E s (gallopX lf ky xs b n h) Q st:=by
 rw[gallopX_eq]
 dsimp only
 refine wpS_bind (hb h hh _ ?_)
 dsimp only
 cases e:p h with
 | true=>
   rw[if_pos rfl];refine wpS_bind (wpS_mono (wpS_forRange (I:=fun x c st'=>st'=st /\ ∃ la of,c=(none,la,of)/\x+1<=of/\la < of/\h+la < n/\p (h+la)=true)
    (Q:=fun c st'=>st'=st /\ ∃ la of,c=(none,la,of)/\la < of/\h+la < n/\p (h+la)=true/\(of ≥ n - h∨h+of < n/\p (h+of)=false)) ?_ ?_ ⟨rfl,0,1,rfl,by omega,by omega,by omega,e⟩) ?_)
   · rintro x c st' _ hx ⟨rfl,la,of,rfl,a1,a2,a3,a4⟩
     dsimp only
     by_cases g:of ≥ n - h
     · rw[if_pos g]
       exact wpS_pure ⟨rfl,la,of,rfl,a2,a3,a4,.inl g⟩
     rw[if_neg g];refine wpS_bind (hb (h+of) (by omega) _ ?_)
     cases e2:p (h+of)with
     | true=>exact wpS_pure ⟨rfl,of,2*of+1,rfl,by omega,by omega,by omega,e2⟩
     | false=>exact wpS_pure ⟨rfl,la,of,rfl,a2,a3,a4,.inr ⟨by omega,e2⟩⟩
   · rintro c st' ⟨rfl,la,of,rfl,a1,a2,a3,a4⟩
     exact⟨rfl,la,of,rfl,a2,a3,a4,.inl (by omega)⟩
   rintro c st' ⟨rfl,la,of,rfl,a2,a3,a4,a5⟩
   dsimp only
   refine wpS_bind (wpS_bin (p:=p) hm (fun x l r g=>if_pos g) (fun x l r Q' g g2 z=>?_) ?_ (by omega) (fun i hi=>hm i (h+la) (by omega) a3 a4) (fun i hi hn=>?_) fun k k1 k2 k3=>wpS_pure (q k k1 k2 k3))
   · show wpS _ _ _ _ (ite _ _ _) _ _
     rw[if_neg (Nat.not_le.mpr g)];refine wpS_bind (hb (l+(r - l) / 2) (by omega) _ ?_)
     dsimp only
     revert z
     cases p (l+(r - l) / 2) <;> exact fun z=>wpS_pure z
   · rcases a5 with z | ⟨z,_⟩ <;> omega
   rcases a5 with z | ⟨z,y⟩
   · omega
   cases e2:p i with
   | false=>rfl
   | true=>rw[hm (h+of) i (by omega) hn e2]at y;cases y
 | false=>
   rw[if_neg (by simp)]
   refine wpS_bind (wpS_mono (wpS_forRange (I:=fun x c st'=>st'=st /\ ∃ la of,c=(none,la,of)/\x+1<=of/\la < of/\la<=h/\p (h - la)=false)
    (Q:=fun c st'=>st'=st /\ ∃ la of,c=(none,la,of)/\la < of/\la<=h/\p (h - la)=false/\(of ≥ h+1∨of<=h/\p (h - of)=true)) ?_ ?_ ⟨rfl,0,1,rfl,by omega,by omega,by omega,e⟩) ?_)
   · rintro x c st' _ hx ⟨rfl,la,of,rfl,a1,a2,a3,a4⟩
     dsimp only
     by_cases g:of ≥ h+1
     · rw[if_pos g]
       exact wpS_pure ⟨rfl,la,of,rfl,a2,a3,a4,.inl g⟩
     rw[if_neg g];refine wpS_bind (hb (h - of) (by omega) _ ?_)
     cases e2:p (h - of)with
     | false=>exact wpS_pure ⟨rfl,of,2*of+1,rfl,by omega,by omega,by omega,e2⟩
     | true=>exact wpS_pure ⟨rfl,la,of,rfl,a2,a3,a4,.inr ⟨by omega,e2⟩⟩
   · rintro c st' ⟨rfl,la,of,rfl,a1,a2,a3,a4⟩
     exact⟨rfl,la,of,rfl,a2,a3,a4,.inl (by omega)⟩
   rintro c st' ⟨rfl,la,of,rfl,a2,a3,a4,a5⟩
   dsimp only
   refine wpS_bind (wpS_bin (p:=p) hm (fun x l r g=>if_pos g) (fun x l r Q' g g2 z=>?_) (by omega) (by omega) (fun i hi=>?_) (fun i hi hn=>?_) fun k k1 k2 k3=>wpS_pure (q k k1 k2 k3))
   · show wpS _ _ _ _ (ite _ _ _) _ _
     rw[if_neg (Nat.not_le.mpr g)];refine wpS_bind (hb (l+(r - l) / 2) (by omega) _ ?_)
     dsimp only
     revert z
     cases p (l+(r - l) / 2) <;> exact fun z=>wpS_pure z
   · rcases a5 with z | ⟨z,y⟩
     · omega
     exact hm i (h - of) (by omega) (by omega) y
   cases e2:p i with
   | false=>rfl
   | true=>rw[hm (h - la) i hi hn e2]at a4;cases a4
end
end SW
namespace SW
open PySem PySem.Spec PyProof.Rows L2
noncomputable def setGalX:Nat->StateT SortSt Sem Unit:=sortPriv% PySem.Builtin.setMinGallop
theorem setGalX_eq(g:Nat):setGalX g=modify fun z=>SortSt.mk' (kindOf z) (arrOf z) (pendingOf z) g (failedOf z):=rfl
noncomputable abbrev MSt:=Option (Array Keyed)×Array Keyed×Nat×Nat×Nat×Nat×Nat
noncomputable abbrev MS2:=Option (Array Keyed)×Array Keyed×Nat×Nat×Nat×Nat
noncomputable abbrev MS1:=Option (Array Keyed)×Array Keyed×Nat×Nat×Nat
section
variable(p q:Array Keyed)
noncomputable def fin1L(o:Array Keyed)(i j:Nat):Array Keyed:=o++p.extract i p.size++q.extract j q.size
noncomputable def fin2L(o:Array Keyed)(i j:Nat):Array Keyed:=o++q.extract j q.size++p.extract i p.size
noncomputable def loC(o:Array Keyed)(i j mg k l:Nat):StateT SortSt Sem (ForInStep MSt):=do
 let x ← elem' p i
 if(i+1+1 == p.size)=true then pure (.done (some (fin2L p q (o.push x) (i+1) j),o.push x,i+1,j,mg,k,l))
 else if(decide (k < 7) && decide (l < 7))=true then pure (.done (none,o.push x,i+1,j,mg,k,l))else pure (.yield (none,o.push x,i+1,j,mg,k,l))
noncomputable def loB(o:Array Keyed)(i j mg k bc:Nat):StateT SortSt Sem (ForInStep MSt):=do
 let y ← elem' q j
 if(j+1 == q.size)=true then pure (.done (some (fin1L p q (o.push y) i (j+1)),o.push y,i,j+1,mg,k,bc))
 else do
  let v ← elem' p i
  let z ← gallopX true v q (j+1) (q.size - (j+1)) 0
  match z with
  | some l=>
    if l > 0 then
     if(j+1+l == q.size)=true then pure (.done (some (fin1L p q (o.push y++q.extract (j+1) (j+1+l)) i (j+1+l)),o.push y++q.extract (j+1) (j+1+l),i,j+1+l,mg,k,l))
     else loC p q (o.push y++q.extract (j+1) (j+1+l)) i (j+1+l) mg k l
    else loC p q (o.push y) i (j+1) mg k l
  | _=>pure (.done (some (fin1L p q (o.push y) i (j+1)),o.push y,i,j+1,mg,k,bc))
noncomputable def loG(o:Array Keyed)(i j mg ac bc:Nat):StateT SortSt Sem (ForInStep MSt):=do
 setGalX mg
 let y ← elem' q j
 let z ← gallopX false y p i (p.size - i) 0
 match z with
 | some k=>
   if k > 0 then
    if(i+k+1 == p.size)=true then pure (.done (some (fin2L p q (o++p.extract i (i+k)) (i+k) j),o++p.extract i (i+k),i+k,j,mg,k,bc))
    else if(i+k == p.size)=true then pure (.done (some (fin1L p q (o++p.extract i (i+k)) (i+k) j),o++p.extract i (i+k),i+k,j,mg,k,bc))
    else loB p q (o++p.extract i (i+k)) (i+k) j mg k bc
   else loB p q o i j mg k bc
 | _=>pure (.done (some (fin1L p q o i j),o,i,j,mg,ac,bc))
noncomputable def loL(c:MSt):StateT SortSt Sem (ForInStep MSt):=
 if c.2.2.2.2.1 > 1 then loG p q c.2.1 c.2.2.1 c.2.2.2.1 (c.2.2.2.2.1 - 1) c.2.2.2.2.2.1 c.2.2.2.2.2.2 else loG p q c.2.1 c.2.2.1 c.2.2.2.1 c.2.2.2.2.1 c.2.2.2.2.2.1 c.2.2.2.2.2.2
noncomputable def loA(mg:Nat)(c:MS2):StateT SortSt Sem (ForInStep MS2):=do
 let y ← elem' q c.2.2.2.1
 let v ← elem' p c.2.2.1
 let z ← lt' y v
 match z with
 | some bw=>
   if bw=true then do
    let y ← elem' q c.2.2.2.1
    if(c.2.2.2.1+1 == q.size)=true then pure (.done (some (fin1L p q (c.2.1.push y) c.2.2.1 (c.2.2.2.1+1)),c.2.1.push y,c.2.2.1,c.2.2.2.1+1,0,c.2.2.2.2.2+1))
    else if c.2.2.2.2.2+1 ≥ mg then pure (.done (none,c.2.1.push y,c.2.2.1,c.2.2.2.1+1,0,c.2.2.2.2.2+1))else pure (.yield (none,c.2.1.push y,c.2.2.1,c.2.2.2.1+1,0,c.2.2.2.2.2+1))
   else do
    let v ← elem' p c.2.2.1
    if(c.2.2.1+1+1 == p.size)=true then pure (.done (some (fin2L p q (c.2.1.push v) (c.2.2.1+1) c.2.2.2.1),c.2.1.push v,c.2.2.1+1,c.2.2.2.1,c.2.2.2.2.1+1,0))
    else if c.2.2.2.2.1+1 ≥ mg then pure (.done (none,c.2.1.push v,c.2.2.1+1,c.2.2.2.1,c.2.2.2.2.1+1,0))else pure (.yield (none,c.2.1.push v,c.2.2.1+1,c.2.2.2.1,c.2.2.2.2.1+1,0))
 | _=>pure (.done (some (fin1L p q c.2.1 c.2.2.1 c.2.2.2.1),c.2))
noncomputable def loO(c:MS1):StateT SortSt Sem (ForInStep MS1):=do
 let c1 ← forIn [:p.size+q.size] ((none,c.2.1,c.2.2.1,c.2.2.2.1,0,0):MS2) fun _=>loA p q c.2.2.2.2
 match c1.1 with
 | some r=>pure (.done (some r,c1.2.1,c1.2.2.1,c1.2.2.2.1,c.2.2.2.2))
 | none=>do
   liftM (rule "list.sort.gallop")
   let c2 ← forIn [:p.size+q.size] ((none,c1.2.1,c1.2.2.1,c1.2.2.2.1,c.2.2.2.2+1,c1.2.2.2.2.1,c1.2.2.2.2.2):MSt) fun _=>loL p q
   match c2.1 with
   | some r=>pure (.done (some r,c2.2.1,c2.2.2.1,c2.2.2.2.1,c2.2.2.2.2.1))
   | none=>do
     setGalX (c2.2.2.2.2.1+1)
     pure (.yield (none,c2.2.1,c2.2.2.1,c2.2.2.2.1,c2.2.2.2.2.1+1))
noncomputable def mergeLoX:Array Keyed->Array Keyed->StateT SortSt Sem (Array Keyed):=sortPriv% PySem.Builtin.mergeLo
theorem mergeLoX_eq:mergeLoX p q=(do
 liftM (rule "list.sort.merge-lo")
 let y ← elem' q 0
 if(1 == q.size)=true then pure (fin1L p q #[y] 0 1)
 else if(0+1 == p.size)=true then pure (fin2L p q #[y] 0 1)
 else do
  let z ← get
  let c ← forIn [:p.size+q.size] ((none,#[y],0,1,gallopOf z):MS1) fun _=>loO p q
  match c.1 with
  | some r=>pure r
  | none=>liftM (unsupported "internal:list.sort.merge-bound")):=by kernel_rfl
end
structure SmS(st st':SortSt):Prop where
 k:kindOf st'=kindOf st
 a:arrOf st'=arrOf st
 p:pendingOf st'=pendingOf st
 f:failedOf st'=failedOf st
theorem SmS.rfl'(st:SortSt):SmS st st:=⟨rfl,rfl,rfl,rfl⟩
theorem SmS.gal{st st':SortSt}(h:SmS st st')(g:Nat):SmS st (SortSt.mk' (kindOf st') (arrOf st') (pendingOf st') g (failedOf st')):=⟨h.k,h.a,h.p,h.f⟩
section
variable{prog:Program}{w:World}{A:Around}{E:Value->Shared->Prop}{s:Shared}{O:KeyOrd}{ky:Keyed->O.α}{good:Keyed->Prop}{kd:SortKind}
noncomputable def LtOk(prog:Program)(w:World)(A:Around)(E:Value->Shared->Prop)(s:Shared)(O:KeyOrd)(ky:Keyed->O.α)(good:Keyed->Prop)(kd:SortKind):Prop:=
 ∀(x y:Keyed) (st:SortSt) (Q:Option Bool->SortSt->Prop),good x->good y->kindOf st=kd->Q (some (O.blt (ky x) (ky y))) st->wpS (model prog w) A E s (lt' x y) Q st
theorem wpS_elem{xs:Array Keyed}{i:Nat}{x:Keyed}{st:SortSt}{Q:Keyed->SortSt->Prop}(h:xs[i]?=some x)(q:Q x st):wpS (model prog w) A E s (elem' xs i) Q st:=by
 rw[elem'_eq,h];exact wpS_pure q
theorem wpS_bey(hL:LtOk prog w A E s O ky good kd){lf:Bool}{key x:Keyed}{xs:Array Keyed}{i:Nat}{st:SortSt}{Q:Option Bool->SortSt->Prop}(hk:kindOf st=kd)(hx:xs[i]?=some x)(g1:good key)(g2:good x)
 (q:Q (some (if lf=true then O.blt (ky x) (ky key)else !O.blt (ky key) (ky x))) st):wpS (model prog w) A E s (beyX lf key xs i) Q st:=by
 unfold beyX;refine wpS_bind (wpS_elem hx ?_);cases lf with
 | true=>exact hL x key st _ g2 g1 hk q
 | false=>exact wpS_bind (hL key x st _ g1 g2 hk (wpS_pure q))
theorem wpS_gal(hL:LtOk prog w A E s O ky good kd){lf:Bool}{key:Keyed}{xs:Array Keyed}{b n h:Nat}{st:SortSt}{Q:Option Nat->SortSt->Prop}(hk:kindOf st=kd)(g1:good key)(gx:∀ x∈xs.toList,good x)
 (sx:∀ i j x y,b<=i->i<=j->j < b+n->xs[i]?=some x->xs[j]?=some y->Le ky x y) (hn:b+n<=xs.size) (hh:h < n)
 (q:∀ k,k<=n->(∀ i x,b<=i->i < b+k->xs[i]?=some x->(lf=true->O.blt (ky x) (ky key)=true)/\(lf=false->Le ky x key)) ->
  (∀ i x,b+k<=i->i < b+n->xs[i]?=some x->(lf=true->Le ky key x)/\(lf=false->O.blt (ky key) (ky x)=true))->Q (some k) st) :
 wpS (model prog w) A E s (gallopX lf key xs b n h) Q st:=by
 have at_:∀ i,i < n -> ∃ x,xs[b+i]?=some x/\good x:=fun i hi=>by
  have hi':b+i < xs.size:=by omega
  exact⟨xs[b+i],Array.getElem?_eq_getElem hi',gx _ (by simp)⟩
 have P:∀ i,∃ v:Bool,∀ x,xs[b+i]?=some x->v=(if lf=true then O.blt (ky x) (ky key)else !O.blt (ky key) (ky x)):=fun i=>by
  cases e:xs[b+i]? with
  | none=>exact⟨true,fun x h=>by cases h⟩
  | some x=>exact⟨_,fun y h=>by cases h;rfl⟩
 obtain⟨p,hp⟩:∃ p:Nat->Bool,∀ i x,xs[b+i]?=some x->p i=(if lf=true then O.blt (ky x) (ky key)else !O.blt (ky key) (ky x)):=⟨fun i=>(P i).choose,fun i=>(P i).choose_spec⟩;clear P;refine wpS_gallop p (fun i hi Q' z=>?_) (fun i j hij hj e=>?_) hh fun k k1 k2 k3=>q k k1 (fun i x h1 h2 e=>?_) fun i x h1 h2 e=>?_
 · obtain⟨x,ex,gxx⟩:=at_ i hi
   exact wpS_bey hL hk ex g1 gxx (by rw[← hp i x ex];exact z)
 · obtain⟨x,ex,_⟩:=at_ i (by omega)
   obtain⟨y,ey,_⟩:=at_ j hj;have le:=sx (b+i) (b+j) x y (by omega) (by omega) (by omega) ex ey
   rw[hp i x ex];rw[hp j y ey]at e;cases lf with
   | true=>
     have e:O.blt (ky y) (ky key)=true:=e;exact KeyOrd.klt_of_kle_of_klt le e
   | false=>
     have e:(!O.blt (ky key) (ky y))=true:=e;have e:O.kle (ky y) (ky key):=by unfold KeyOrd.kle;simpa using e
     have:=KeyOrd.kle_trans le e;show(!O.blt (ky key) (ky x))=true;rw[show O.blt (ky key) (ky x)=false from this]
     rfl
 · obtain⟨i',rfl⟩:∃ i',i=b+i':=⟨i - b,by omega⟩
   have:=k2 i' (by omega)
   rw[hp i' x e]at this
   constructor
   · rintro rfl;exact this
   rintro rfl;have e:(!O.blt (ky key) (ky x))=true:=this;show O.blt (ky key) (ky x)=false
   simpa using e
 obtain⟨i',rfl⟩:∃ i',i=b+i':=⟨i - b,by omega⟩
 have:=k3 i' (by omega) (by omega)
 rw[hp i' x e]at this
 constructor
 · rintro rfl;exact this
 rintro rfl;have e:(!O.blt (ky key) (ky x))=false:=this
 simpa using e
theorem wpS_ite{α:Type}{c:Prop}[Decidable c]{m n:StateT SortSt Sem α}{Q:α -> SortSt->Prop}{st:SortSt}(h1:c->wpS (model prog w) A E s m Q st)(h2:¬ c->wpS (model prog w) A E s n Q st):wpS (model prog w) A E s (if c then m else n) Q st:=by
 by_cases h:c
 · rw[if_pos h];exact h1 h
 rw[if_neg h];exact h2 h
theorem wpS_setG{st st0:SortSt}{g:Nat}{Q:Unit->SortSt->Prop}(S:SmS st st0)(h:∀ st',SmS st st'->Q () st'):wpS (model prog w) A E s (setGalX g) Q st0:=by
 rw[setGalX_eq];exact wpS_modify (h _ (S.gal g))
theorem of_beq{a b:Nat}(h:(a == b)=true):a=b:=by simpa using h
theorem of_nbeq{a b:Nat}(h:¬ (a == b)=true):¬ a=b:=by simpa using h
theorem ext_list(p:Array Keyed)(i j:Nat):(p.extract i j).toList=(p.toList.drop i).take (j - i):=by
 rw[Array.toList_extract,List.extract_eq_take_drop]
theorem ext_end(p:Array Keyed)(i:Nat):(p.extract i p.size).toList=p.toList.drop i:=by
 rw[ext_list,List.take_of_length_le (by rw[List.length_drop,Array.length_toList];exact Nat.le_refl _)]
theorem at_list{p:Array Keyed}{i:Nat}{x:Keyed}(h:p[i]?=some x):p.toList[i]?=some x:=by rw[Array.getElem?_toList];exact h
theorem list_at{p:Array Keyed}{i:Nat}{x:Keyed}(h:p.toList[i]?=some x):p[i]?=some x:=by rw[← Array.getElem?_toList];exact h
theorem Srd.at{p:Array Keyed}(h:Srd ky p.toList){i j:Nat}{x y:Keyed}(hij:i<=j)(hx:p[i]?=some x)(hy:p[j]?=some y):Le ky x y:=h.get hij (at_list hx) (at_list hy)
theorem JL.a1{p q:Array Keyed}{o:Array Keyed}{i j:Nat}{x y:Keyed}(J:JL ky p.toList q.toList o.toList i j)(sp:Srd ky p.toList)(sq:Srd ky q.toList)(hx:p[i]?=some x)(hy:q[j]?=some y)(h:Le ky x y):JL ky p.toList q.toList (o.push x).toList (i+1) j:=by
 have:=J.a sp 1 (fun z hz u hu=>by
  rw[drop_one (at_list hx),List.mem_singleton]at hz;obtain⟨k,hk,e⟩:=mem_drop_get hu;subst hz;exact h.trans (sq.get hk (at_list hy) e))
 rw[drop_one (at_list hx)]at this;rw[Array.toList_push];exact this
theorem JL.b1{p q:Array Keyed}{o:Array Keyed}{i j:Nat}{x y:Keyed}(J:JL ky p.toList q.toList o.toList i j)(sp:Srd ky p.toList)(sq:Srd ky q.toList)(hx:p[i]?=some x)(hy:q[j]?=some y)(h:Le ky y x):JL ky p.toList q.toList (o.push y).toList i (j+1):=by
 have:=J.b sq 1 (fun z hz u hu=>by
  rw[drop_one (at_list hy),List.mem_singleton]at hz;obtain⟨k,hk,e⟩:=mem_drop_get hu;subst hz;exact h.trans (sp.get hk (at_list hx) e))
 rw[drop_one (at_list hy)]at this;rw[Array.toList_push];exact this
theorem some_at{p:Array Keyed}{i:Nat}(h:i < p.size):∃ x,p[i]?=some x/\x∈p.toList:=⟨p[i],Array.getElem?_eq_getElem h,by simp⟩
theorem JL.aK{p q:Array Keyed}{o:Array Keyed}{i j k:Nat}{y:Keyed}(J:JL ky p.toList q.toList o.toList i j)(sp:Srd ky p.toList)(sq:Srd ky q.toList)(hy:q[j]?=some y)(h:∀ m x,i<=m->m < i+k->p[m]?=some x->Le ky x y):JL ky p.toList q.toList (o++p.extract i (i+k)).toList (i+k) j:=by
 have:=J.a sp k (fun z hz u hu=>by
  obtain⟨m,hm,e⟩:=mem_take_get hz;rw[List.getElem?_drop]at e;obtain⟨n,hn,e2⟩:=mem_drop_get hu;exact(h (i+m) z (by omega) (by omega) (list_at e)).trans (sq.get hn (at_list hy) e2))
 rw[Array.toList_append,ext_list,Nat.add_sub_cancel_left];exact this
theorem JL.bK{p q:Array Keyed}{o:Array Keyed}{i j k:Nat}{x:Keyed}(J:JL ky p.toList q.toList o.toList i j)(sp:Srd ky p.toList)(sq:Srd ky q.toList)(hx:p[i]?=some x)(h:∀ m y,j<=m->m < j+k->q[m]?=some y->Le ky y x):JL ky p.toList q.toList (o++q.extract j (j+k)).toList i (j+k):=by
 have:=J.b sq k (fun z hz u hu=>by
  obtain⟨m,hm,e⟩:=mem_take_get hz;rw[List.getElem?_drop]at e;obtain⟨n,hn,e2⟩:=mem_drop_get hu;exact(h (j+m) z (by omega) (by omega) (list_at e)).trans (sp.get hn (at_list hx) e2))
 rw[Array.toList_append,ext_list,Nat.add_sub_cancel_left];exact this
structure LoF(prog:Program)(w:World)(A:Around)(E:Value->Shared->Prop)(s:Shared){O:KeyOrd}(ky:Keyed->O.α)(good:Keyed->Prop)(kd:SortKind)(p q:Array Keyed)(st:SortSt)(Q:Array Keyed->SortSt->Prop):Prop where
 hL:LtOk prog w A E s O ky good kd
 hk:kindOf st=kd
 gp:∀ x∈p.toList,good x
 gq:∀ x∈q.toList,good x
 sp:Srd ky p.toList
 sq:Srd ky q.toList
 f1:∀(o:Array Keyed) (i j:Nat) (st':SortSt),SmS st st'->JL ky p.toList q.toList o.toList i j->(p.size<=i∨q.size<=j)->Q (fin1L p q o i j) st'
 f2:∀(o:Array Keyed) (i j:Nat) (st':SortSt),SmS st st'->JL ky p.toList q.toList o.toList i j->i+1=p.size->Q (fin2L p q o i j) st'
structure LoI(ky:Keyed->O.α)(p q:Array Keyed)(st:SortSt)(B:Nat)(o:Array Keyed)(i j:Nat)(st':SortSt):Prop where
 S:SmS st st'
 J:JL ky p.toList q.toList o.toList i j
 a1:i+1 < p.size
 a2:j < q.size
 a3:B<=i+j
variable{p q:Array Keyed}{st st':SortSt}{Q:Array Keyed->SortSt->Prop}{B:Nat}
noncomputable def LoD(ky:Keyed->O.α)(p q:Array Keyed)(st:SortSt)(Q:Array Keyed->SortSt->Prop)(B:Nat)(c:MSt)(st':SortSt):Prop:=(∃ r z,c=(some r,z)/\Q r st') ∨ ∃ o i j mg ac bc,c=(none,o,i,j,mg,ac,bc)/\LoI ky p q st B o i j st'
noncomputable def LoR(ky:Keyed->O.α)(p q:Array Keyed)(st:SortSt)(Q:Array Keyed->SortSt->Prop)(B:Nat)(r:ForInStep MSt)(st':SortSt):Prop:=match r with
 | .done c=>LoD ky p q st Q B c st'
 | .yield c=>∃ o i j mg ac bc,c=(none,o,i,j,mg,ac,bc)/\LoI ky p q st B o i j st'
theorem wpS_loC(F:LoF prog w A E s ky good kd p q st Q){o:Array Keyed}{i j mg k l:Nat}{v:Keyed}(I:LoI ky p q st B o i j st')(ev:p[i]?=some v)(h:∀ y,q[j]?=some y->Le ky v y):wpS (model prog w) A E s (loC p q o i j mg k l) (LoR ky p q st Q B) st':=by
 obtain⟨y,ey,_⟩:=some_at I.a2;have J:=I.J.a1 F.sp F.sq ev ey (h y ey);have a3:=I.a3;refine wpS_bind (wpS_elem ev ?_);refine wpS_ite (fun c=>wpS_pure (.inl ⟨_,_,rfl,F.f2 _ _ _ _ I.S J (of_beq c)⟩)) (fun c=>?_);have K:LoI ky p q st B (o.push v) (i+1) j st':=⟨I.S,J,Nat.lt_of_le_of_ne I.a1 (of_nbeq c),I.a2,Nat.le_trans a3 (by omega)⟩
 exact wpS_ite (fun _=>wpS_pure (.inr ⟨_,_,_,_,_,_,rfl,K⟩)) fun _=>wpS_pure ⟨_,_,_,_,_,_,rfl,K⟩
theorem wpS_loB(F:LoF prog w A E s ky good kd p q st Q){o:Array Keyed}{i j mg k bc:Nat}{y:Keyed}(I:LoI ky p q st B o i j st')(ey:q[j]?=some y)(h:∀ v,p[i]?=some v->Le ky y v):wpS (model prog w) A E s (loB p q o i j mg k bc) (LoR ky p q st Q B) st':=by
 obtain⟨v,ev,mv⟩:=some_at (Nat.lt_of_succ_lt I.a1);have J:=I.J.b1 F.sp F.sq ev ey (h v ev);have a1:=I.a1;have a2:=I.a2;have a3:=I.a3;refine wpS_bind (wpS_elem ey ?_);refine wpS_ite (fun c=>wpS_pure (.inl ⟨_,_,rfl,F.f1 _ _ _ _ I.S J (.inr (Nat.le_of_eq (of_beq c).symm))⟩)) (fun c=>?_);have a4:j+1 < q.size:=Nat.lt_of_le_of_ne I.a2 (of_nbeq c);refine wpS_bind (wpS_elem ev (wpS_bind (wpS_gal F.hL (I.S.k.trans F.hk) (F.gp _ mv) F.gq (fun i' j' x y _ h2 _ ex ey=>F.sq.at h2 ex ey) (by omega) (by omega) fun l l1 l2 l3=>?_)))
 have l4:∀ y,q[j+1+l]?=some y->Le ky v y:=fun y e=>(l3 (j+1+l) y (Nat.le_refl _) (by have:=(Array.getElem?_eq_some_iff.mp e).1;omega) e).1 rfl
 refine wpS_ite (fun g=>?_) (fun g=>?_)
 · have J4:=J.bK (k:=l) F.sp F.sq ev fun m x h1 h2 e=>Le.of_lt ((l2 m x h1 h2 e).1 rfl)
   refine wpS_ite (fun c=>wpS_pure (.inl ⟨_,_,rfl,F.f1 _ _ _ _ I.S J4 (.inr (Nat.le_of_eq (of_beq c).symm))⟩)) (fun c=>?_);have:=of_nbeq c;exact wpS_loC F ⟨I.S,J4,a1,by omega,by omega⟩ ev l4
 obtain rfl:l=0:=Nat.eq_zero_of_not_pos g;exact wpS_loC F ⟨I.S,J,a1,a4,Nat.le_succ_of_le a3⟩ ev l4
theorem wpS_loG(F:LoF prog w A E s ky good kd p q st Q){o:Array Keyed}{i j mg ac bc:Nat}(I:LoI ky p q st B o i j st'):wpS (model prog w) A E s (loG p q o i j mg ac bc) (LoR ky p q st Q B) st':=by
 obtain⟨y,ey,my⟩:=some_at I.a2;have a1:=I.a1;have a3:=I.a3;refine wpS_bind (wpS_setG I.S fun st3 S3=>?_);refine wpS_bind (wpS_elem ey (wpS_bind (wpS_gal F.hL (S3.k.trans F.hk) (F.gq _ my) F.gp (fun i' j' x y _ h2 _ ex ey=>F.sp.at h2 ex ey) (by omega) (by omega) fun k k1 k2 k3=>?_)))
 have k4:∀ v,p[i+k]?=some v->Le ky y v:=fun v e=>Le.of_lt ((k3 (i+k) v (Nat.le_refl _) (by have:=(Array.getElem?_eq_some_iff.mp e).1;omega) e).2 rfl)
 refine wpS_ite (fun g=>?_) (fun g=>?_)
 · have J:=I.J.aK (k:=k) F.sp F.sq ey fun m x h1 h2 e=>(k2 m x h1 h2 e).2 rfl
   refine wpS_ite (fun c=>wpS_pure (.inl ⟨_,_,rfl,F.f2 _ _ _ _ S3 J (of_beq c)⟩)) (fun c=>?_);refine wpS_ite (fun c5=>wpS_pure (.inl ⟨_,_,rfl,F.f1 _ _ _ _ S3 J (.inl (Nat.le_of_eq (of_beq c5).symm))⟩)) (fun c5=>?_);have n1:=of_nbeq c;have n2:=of_nbeq c5;exact wpS_loB F ⟨S3,J,by omega,I.a2,by omega⟩ ey k4
 obtain rfl:k=0:=Nat.eq_zero_of_not_pos g;exact wpS_loB F ⟨S3,I.J,a1,I.a2,a3⟩ ey k4
theorem wpS_loL(F:LoF prog w A E s ky good kd p q st Q){o:Array Keyed}{i j mg ac bc:Nat}(I:LoI ky p q st B o i j st'):wpS (model prog w) A E s (loL p q (none,o,i,j,mg,ac,bc)) (LoR ky p q st Q B) st':=
 wpS_ite (fun _=>wpS_loG F I) fun _=>wpS_loG F I
noncomputable def LoE(ky:Keyed->O.α)(p q:Array Keyed)(st:SortSt)(Q:Array Keyed->SortSt->Prop)(B:Nat)(r:ForInStep MS2)(st':SortSt):Prop:=match r with
 | .done c=>(∃ r z,c=(some r,z)/\Q r st') ∨ ∃ o i j ac bc,c=(none,o,i,j,ac,bc)/\LoI ky p q st B o i j st'
 | .yield c=>∃ o i j ac bc,c=(none,o,i,j,ac,bc)/\LoI ky p q st B o i j st'
theorem wpS_loA(F:LoF prog w A E s ky good kd p q st Q){o:Array Keyed}{i j mg ac bc:Nat}(I:LoI ky p q st B o i j st'):wpS (model prog w) A E s (loA p q mg (none,o,i,j,ac,bc)) (LoE ky p q st Q (B+1)) st':=by
 obtain⟨y,ey,my⟩:=some_at I.a2;obtain⟨v,ev,mv⟩:=some_at (Nat.lt_of_succ_lt I.a1);refine wpS_bind (wpS_elem ey (wpS_bind (wpS_elem ev (wpS_bind (F.hL y v st' _ (F.gq _ my) (F.gp _ mv) (I.S.k.trans F.hk) ?_)))));cases eb:O.blt (ky y) (ky v)with
 | true=>
   refine wpS_bind (wpS_elem ey ?_);have J:=I.J.b1 F.sp F.sq ev ey (Le.of_lt eb);refine wpS_ite (fun c=>wpS_pure (.inl ⟨_,_,rfl,F.f1 _ _ _ _ I.S J (.inr (Nat.le_of_eq (of_beq c).symm))⟩)) (fun c=>?_);have K:LoI ky p q st (B+1) (o.push y) i (j+1) st':=⟨I.S,J,I.a1,Nat.lt_of_le_of_ne I.a2 (of_nbeq c),Nat.succ_le_succ I.a3⟩;exact wpS_ite (fun _=>wpS_pure (.inr ⟨_,_,_,_,_,rfl,K⟩)) fun _=>wpS_pure ⟨_,_,_,_,_,rfl,K⟩
 | false=>
   refine wpS_bind (wpS_elem ev ?_);have J:=I.J.a1 F.sp F.sq ev ey (Le.of_not eb);refine wpS_ite (fun c=>wpS_pure (.inl ⟨_,_,rfl,F.f2 _ _ _ _ I.S J (of_beq c)⟩)) (fun c=>?_);have a3:=I.a3;have K:LoI ky p q st (B+1) (o.push v) (i+1) j st':=⟨I.S,J,Nat.lt_of_le_of_ne I.a1 (of_nbeq c),I.a2,by omega⟩
   exact wpS_ite (fun _=>wpS_pure (.inr ⟨_,_,_,_,_,rfl,K⟩)) fun _=>wpS_pure ⟨_,_,_,_,_,rfl,K⟩
noncomputable def LoX(ky:Keyed->O.α)(p q:Array Keyed)(st:SortSt)(Q:Array Keyed->SortSt->Prop)(B:Nat)(r:ForInStep MS1)(st':SortSt):Prop:=match r with
 | .done c=>∃ r z,c=(some r,z)/\Q r st'
 | .yield c=>∃ o i j mg,c=(none,o,i,j,mg)/\LoI ky p q st B o i j st'
theorem LoI.mono{B C:Nat}{o:Array Keyed}{i j:Nat}(I:LoI ky p q st B o i j st')(h:C<=B):LoI ky p q st C o i j st':=⟨I.S,I.J,I.a1,I.a2,Nat.le_trans h I.a3⟩
theorem wpS_loO(F:LoF prog w A E s ky good kd p q st Q){o:Array Keyed}{i j mg:Nat}(I:LoI ky p q st B o i j st'):wpS (model prog w) A E s (loO p q (none,o,i,j,mg)) (LoX ky p q st Q (B+1)) st':=by
 have tt:0 < p.size+q.size:=Nat.add_pos_right _ (Nat.lt_of_le_of_lt (Nat.zero_le _) I.a2);refine wpS_bind (wpS_mono (wpS_forRange (I:=fun x c st'=>∃ o i j ac bc,c=(none,o,i,j,ac,bc)/\LoI ky p q st (B+x) o i j st')
  (Q:=fun c st'=>(∃ r z,c=(some r,z)/\Q r st') ∨ ∃ o i j ac bc,c=(none,o,i,j,ac,bc)/\LoI ky p q st (B+1) o i j st') ?_ ?_ ⟨o,i,j,0,0,rfl,I⟩) ?_)
 · rintro x c st2 _ _ ⟨o,i,j,ac,bc,rfl,I⟩
   refine wpS_mono (wpS_loA F I) fun r st3 h=>?_;cases r with
   | done c=>exact h.imp id fun⟨o,i,j,ac,bc,e,I⟩=>⟨o,i,j,ac,bc,e,I.mono (by omega)⟩
   | yield c=>exact h
 · rintro c st2 ⟨o,i,j,ac,bc,rfl,I⟩
   exact .inr ⟨o,i,j,ac,bc,rfl,I.mono (by omega)⟩
 rintro c st2 (⟨r,z,rfl,hq⟩ | ⟨o,i,j,ac,bc,rfl,I⟩)
 · exact wpS_pure ⟨_,_,rfl,hq⟩
 refine wpS_bind (wpS_lift (wpAny_rule ⟨rfl,?_⟩));refine wpS_bind (wpS_mono (wpS_forRange (I:=fun x c st'=>∃ o i j mg ac bc,c=(none,o,i,j,mg,ac,bc)/\LoI ky p q st (B+1) o i j st') (Q:=LoD ky p q st Q (B+1)) ?_ (fun c st' h=>.inr h) ⟨o,i,j,_,ac,bc,rfl,I⟩) ?_)
 · rintro x c st3 _ _ ⟨o,i,j,mg,ac,bc,rfl,I⟩
   refine wpS_mono (wpS_loL F I) fun r st4 h=>?_;cases r with
   | done c=>exact h
   | yield c=>exact h
 rintro c st3 (⟨r,z,rfl,hq⟩ | ⟨o,i,j,mg,ac,bc,rfl,I⟩)
 · exact wpS_pure ⟨_,_,rfl,hq⟩
 exact wpS_bind (wpS_setG I.S fun st4 S4=>wpS_pure ⟨o,i,j,_,rfl,S4,I.J,I.a1,I.a2,I.a3⟩)
theorem wpS_mergeLo(hL:LtOk prog w A E s O ky good kd)(hk:kindOf st=kd)(gp:∀ x∈p.toList,good x)(gq:∀ x∈q.toList,good x)(sp:Srd ky p.toList)(sq:Srd ky q.toList)(p0:0 < p.size)(q0:0 < q.size)
 (h0:∀ x y,p[0]?=some x->q[0]?=some y->Le ky y x) (hl:∀ x∈q.toList,∀ y,p[p.size - 1]?=some y->Le ky x y) (hQ:∀ r st',SmS st st'->Mgd ky p.toList q.toList r.toList->Q r st') :
 wpS (model prog w) A E s (mergeLoX p q) Q st:=by
 have F:LoF prog w A E s ky good kd p q st Q:=⟨hL,hk,gp,gq,sp,sq,fun o i j st' S J h=>hQ _ _ S (by
  unfold fin1L;rw[Array.toList_append,Array.toList_append,ext_end,ext_end];exact J.fin1 sp sq (by rw[Array.length_toList,Array.length_toList];exact h)),fun o i j st' S J h=>hQ _ _ S (by
  unfold fin2L;rw[Array.toList_append,Array.toList_append,ext_end,ext_end];refine J.fin2 sp sq fun x hx y hy=>?_;obtain⟨k,k1,k2⟩:=mem_drop_get hy;have k3:=(List.getElem?_eq_some_iff.mp k2).1;rw[Array.length_toList]at k3;obtain rfl:k=p.size - 1:=by omega
  exact hl x hx y (list_at k2))⟩
 rw[mergeLoX_eq];refine wpS_bind (wpS_lift (wpAny_rule ⟨rfl,?_⟩));obtain⟨y0,e0,m0⟩:=some_at q0;obtain⟨x0,d0,_⟩:=some_at p0;refine wpS_bind (wpS_elem e0 ?_);have J0:JL ky p.toList q.toList (#[y0]:Array Keyed).toList 0 1:=by
  have:JL ky p.toList q.toList (#[]:Array Keyed).toList 0 0:=⟨by rw[List.take_zero,List.take_zero];exact List.Perm.refl _,List.Pairwise.nil,fun x hx=>nomatch hx⟩
  exact this.b1 sp sq d0 e0 (h0 _ _ d0 e0)
 refine wpS_ite (fun c=>wpS_pure (F.f1 _ _ _ _ (SmS.rfl' st) J0 (.inr (Nat.le_of_eq (of_beq c).symm)))) (fun c1=>?_);refine wpS_ite (fun c=>wpS_pure (F.f2 _ _ _ _ (SmS.rfl' st) J0 (of_beq c))) (fun c2=>?_);have n1:=of_nbeq c1;have n2:=of_nbeq c2;refine wpS_bind (wpS_get (wpS_bind (wpS_mono (wpS_forRange (I:=fun x c st'=>∃ o i j mg,c=(none,o,i,j,mg)/\LoI ky p q st (x+1) o i j st') (Q:=fun c st'=>∃ r z,c=(some r,z)/\Q r st') ?_ ?_ ⟨_,0,1,_,rfl,SmS.rfl' st,J0,by omega,by omega,Nat.le_refl _⟩) ?_)))
 · rintro x c st1 _ hx ⟨o,i,j,mg,rfl,I⟩
   refine wpS_mono (wpS_loO F I) fun r st4 h=>?_;cases r with
   | done c=>exact h
   | yield c=>exact h
 · rintro c st' ⟨o,i,j,mg,rfl,I⟩
   have:=I.a1;have:=I.a2;have:=I.a3;omega
 rintro c st' ⟨r,z,rfl,hq⟩;exact wpS_pure hq
end
noncomputable abbrev HSt:=Option (Array Keyed)×Nat×Nat×Array Keyed×Nat×Nat×Nat
noncomputable abbrev HS2:=Option (Array Keyed)×Nat×Nat×Array Keyed×Nat×Nat
noncomputable abbrev HS1:=Option (Array Keyed)×Nat×Nat×Array Keyed×Nat
section
variable(p q:Array Keyed)
noncomputable def fin1H(o:Array Keyed)(i j:Nat):Array Keyed:=p.extract 0 i++q.extract 0 j++o.reverse
noncomputable def fin2H(o:Array Keyed)(i j:Nat):Array Keyed:=q.extract 0 j++p.extract 0 i++o.reverse
noncomputable def hiC(o:Array Keyed)(i j mg k l:Nat):StateT SortSt Sem (ForInStep HSt):=do
 let x ← elem' p (i - 1)
 if(i - 1 == 0)=true then pure (.done (some (fin1H p q (o.push x) (i - 1) j),i - 1,j,o.push x,mg,k,l))
 else if(decide (k < 7) && decide (l < 7))=true then pure (.done (none,i - 1,j,o.push x,mg,k,l))else pure (.yield (none,i - 1,j,o.push x,mg,k,l))
noncomputable def hiB(o:Array Keyed)(i j mg k bc:Nat):StateT SortSt Sem (ForInStep HSt):=do
 let y ← elem' q (j - 1)
 if(j - 1 == 1)=true then pure (.done (some (fin2H p q (o.push y) i (j - 1)),i,j - 1,o.push y,mg,k,bc))
 else do
  let v ← elem' p (i - 1)
  let z ← gallopX true v q 0 (j - 1) (j - 1 - 1)
  match z with
  | some t=>
    if j - 1 - t > 0 then
     if(t == 1)=true then pure (.done (some (fin2H p q (o.push y++(q.extract t (j - 1)).reverse) i t),i,t,o.push y++(q.extract t (j - 1)).reverse,mg,k,j - 1 - t))
     else if(t == 0)=true then pure (.done (some (fin1H p q (o.push y++(q.extract t (j - 1)).reverse) i t),i,t,o.push y++(q.extract t (j - 1)).reverse,mg,k,j - 1 - t))
     else hiC p q (o.push y++(q.extract t (j - 1)).reverse) i t mg k (j - 1 - t)
    else hiC p q (o.push y) i (j - 1) mg k (j - 1 - t)
  | _=>pure (.done (some (fin1H p q (o.push y) i (j - 1)),i,j - 1,o.push y,mg,k,bc))
noncomputable def hiG(o:Array Keyed)(i j mg ac bc:Nat):StateT SortSt Sem (ForInStep HSt):=do
 setGalX mg
 let y ← elem' q (j - 1)
 let z ← gallopX false y p 0 i (i - 1)
 match z with
 | some t=>
   if i - t > 0 then
    if(t == 0)=true then pure (.done (some (fin1H p q (o++(p.extract t i).reverse) t j),t,j,o++(p.extract t i).reverse,mg,i - t,bc))
    else hiB p q (o++(p.extract t i).reverse) t j mg (i - t) bc
   else hiB p q o i j mg (i - t) bc
 | _=>pure (.done (some (fin1H p q o i j),i,j,o,mg,ac,bc))
noncomputable def hiL(c:HSt):StateT SortSt Sem (ForInStep HSt):=
 if c.2.2.2.2.1 > 1 then hiG p q c.2.2.2.1 c.2.1 c.2.2.1 (c.2.2.2.2.1 - 1) c.2.2.2.2.2.1 c.2.2.2.2.2.2 else hiG p q c.2.2.2.1 c.2.1 c.2.2.1 c.2.2.2.2.1 c.2.2.2.2.2.1 c.2.2.2.2.2.2
noncomputable def hiA(mg:Nat)(c:HS2):StateT SortSt Sem (ForInStep HS2):=do
 let y ← elem' q (c.2.2.1 - 1)
 let v ← elem' p (c.2.1 - 1)
 let z ← lt' y v
 match z with
 | some aw=>
   if aw=true then do
    let v ← elem' p (c.2.1 - 1)
    if(c.2.1 - 1 == 0)=true then pure (.done (some (fin1H p q (c.2.2.2.1.push v) (c.2.1 - 1) c.2.2.1),c.2.1 - 1,c.2.2.1,c.2.2.2.1.push v,c.2.2.2.2.1+1,0))
    else if c.2.2.2.2.1+1 ≥ mg then pure (.done (none,c.2.1 - 1,c.2.2.1,c.2.2.2.1.push v,c.2.2.2.2.1+1,0))else pure (.yield (none,c.2.1 - 1,c.2.2.1,c.2.2.2.1.push v,c.2.2.2.2.1+1,0))
   else do
    let y ← elem' q (c.2.2.1 - 1)
    if(c.2.2.1 - 1 == 1)=true then pure (.done (some (fin2H p q (c.2.2.2.1.push y) c.2.1 (c.2.2.1 - 1)),c.2.1,c.2.2.1 - 1,c.2.2.2.1.push y,0,c.2.2.2.2.2+1))
    else if c.2.2.2.2.2+1 ≥ mg then pure (.done (none,c.2.1,c.2.2.1 - 1,c.2.2.2.1.push y,0,c.2.2.2.2.2+1))else pure (.yield (none,c.2.1,c.2.2.1 - 1,c.2.2.2.1.push y,0,c.2.2.2.2.2+1))
 | _=>pure (.done (some (fin1H p q c.2.2.2.1 c.2.1 c.2.2.1),c.2))
noncomputable def hiO(c:HS1):StateT SortSt Sem (ForInStep HS1):=do
 let c1 ← forIn [:p.size+q.size] ((none,c.2.1,c.2.2.1,c.2.2.2.1,0,0):HS2) fun _=>hiA p q c.2.2.2.2
 match c1.1 with
 | some r=>pure (.done (some r,c1.2.1,c1.2.2.1,c1.2.2.2.1,c.2.2.2.2))
 | none=>do
   liftM (rule "list.sort.gallop")
   let c2 ← forIn [:p.size+q.size] ((none,c1.2.1,c1.2.2.1,c1.2.2.2.1,c.2.2.2.2+1,c1.2.2.2.2.1,c1.2.2.2.2.2):HSt) fun _=>hiL p q
   match c2.1 with
   | some r=>pure (.done (some r,c2.2.1,c2.2.2.1,c2.2.2.2.1,c2.2.2.2.2.1))
   | none=>do
     setGalX (c2.2.2.2.2.1+1)
     pure (.yield (none,c2.2.1,c2.2.2.1,c2.2.2.2.1,c2.2.2.2.2.1+1))
noncomputable def mergeHiX:Array Keyed->Array Keyed->StateT SortSt Sem (Array Keyed):=sortPriv% PySem.Builtin.mergeHi
theorem mergeHiX_eq:mergeHiX p q=(do
 liftM (rule "list.sort.merge-hi")
 let x ← elem' p (p.size - 1)
 if(p.size - 1 == 0)=true then pure (fin1H p q #[x] (p.size - 1) q.size)
 else if(q.size == 1)=true then pure (fin2H p q #[x] (p.size - 1) q.size)
 else do
  let z ← get
  let c ← forIn [:p.size+q.size] ((none,p.size - 1,q.size,#[x],gallopOf z):HS1) fun _=>hiO p q
  match c.1 with
  | some r=>pure r
  | none=>liftM (unsupported "internal:list.sort.merge-bound")):=by kernel_rfl
end
section
variable{prog:Program}{w:World}{A:Around}{E:Value->Shared->Prop}{s:Shared}{O:KeyOrd}{ky:Keyed->O.α}{good:Keyed->Prop}{kd:SortKind}
theorem rev_ext(p:Array Keyed)(t i:Nat):(p.extract t i).reverse.toList=((p.toList.take i).drop t).reverse:=by
 rw[Array.toList_reverse,ext_list,List.drop_take]
theorem ext_0(p:Array Keyed)(i:Nat):(p.extract 0 i).toList=p.toList.take i:=by
 rw[ext_list,List.drop_zero,Nat.sub_zero]
theorem mem_td_get{l:List Keyed}{i t:Nat}{y:Keyed}(h:y∈(l.take i).drop t):∃ j,t<=j/\j < i/\l[j]?=some y:=by
 obtain⟨k,k1,k2⟩:=mem_drop_get h;have hl:=(List.getElem?_eq_some_iff.mp k2).1;rw[List.length_take]at hl;rw[List.getElem?_take_of_lt (by omega)]at k2
 exact⟨k,k1,by omega,k2⟩
theorem JH.aK{p q:Array Keyed}{o:Array Keyed}{i j t:Nat}{y:Keyed}(J:JH ky p.toList q.toList o.toList i j)(sp:Srd ky p.toList)(sq:Srd ky q.toList)(ht:t<=i)(hy:q[j - 1]?=some y)(h:∀ m x,t<=m->m < i->p[m]?=some x->Le ky y x):JH ky p.toList q.toList (o++(p.extract t i).reverse).toList t j:=by
 have:=J.a sp t ht (fun z hz u hu=>by
  obtain⟨m,m1,m2,e⟩:=mem_td_get hz;obtain⟨n,hn,e2⟩:=mem_take_get hu;exact(sq.get (by omega) e2 (at_list hy)).trans (h m z m1 m2 (list_at e)))
 rw[Array.toList_append,rev_ext];exact this
theorem JH.bK{p q:Array Keyed}{o:Array Keyed}{i j t:Nat}{x:Keyed}(J:JH ky p.toList q.toList o.toList i j)(sp:Srd ky p.toList)(sq:Srd ky q.toList)(ht:t<=j)(hx:p[i - 1]?=some x)(h:∀ m y,t<=m->m < j->q[m]?=some y->Le ky x y):JH ky p.toList q.toList (o++(q.extract t j).reverse).toList i t:=by
 have:=J.b sq t ht (fun z hz u hu=>by
  obtain⟨m,m1,m2,e⟩:=mem_td_get hz;obtain⟨n,hn,e2⟩:=mem_take_get hu;exact(sp.get (by omega) e2 (at_list hx)).trans (h m z m1 m2 (list_at e)))
 rw[Array.toList_append,rev_ext];exact this
theorem ext_1{p:Array Keyed}{i:Nat}{x:Keyed}(h:p[i]?=some x):(p.extract i (i+1)).reverse.toList=[x]:=by
 rw[rev_ext,take_one (at_list h)]
 rfl
theorem JH.a1{p q:Array Keyed}{o:Array Keyed}{i j:Nat}{x y:Keyed}(J:JH ky p.toList q.toList o.toList i j)(sp:Srd ky p.toList)(sq:Srd ky q.toList)(hi:1<=i)(hx:p[i - 1]?=some x)(hy:q[j - 1]?=some y)(h:Le ky y x):JH ky p.toList q.toList (o.push x).toList (i - 1) j:=by
 have:=J.aK (t:=i - 1) sp sq (by omega) hy fun m z m1 m2 e=>by
  obtain rfl:m=i - 1:=by omega
  rw[hx]at e;cases e;exact h
 have e:=ext_1 hx;rw[Nat.sub_add_cancel hi]at e;rw[Array.toList_append,e]at this;rw[Array.toList_push];exact this
theorem JH.b1{p q:Array Keyed}{o:Array Keyed}{i j:Nat}{x y:Keyed}(J:JH ky p.toList q.toList o.toList i j)(sp:Srd ky p.toList)(sq:Srd ky q.toList)(hj:1<=j)(hx:p[i - 1]?=some x)(hy:q[j - 1]?=some y)(h:Le ky x y):JH ky p.toList q.toList (o.push y).toList i (j - 1):=by
 have:=J.bK (t:=j - 1) sp sq (by omega) hx fun m z m1 m2 e=>by
  obtain rfl:m=j - 1:=by omega
  rw[hy]at e;cases e;exact h
 have e:=ext_1 hy;rw[Nat.sub_add_cancel hj]at e;rw[Array.toList_append,e]at this;rw[Array.toList_push];exact this
structure HiF(prog:Program)(w:World)(A:Around)(E:Value->Shared->Prop)(s:Shared){O:KeyOrd}(ky:Keyed->O.α)(good:Keyed->Prop)(kd:SortKind)(p q:Array Keyed)(st:SortSt)(Q:Array Keyed->SortSt->Prop):Prop where
 hL:LtOk prog w A E s O ky good kd
 hk:kindOf st=kd
 gp:∀ x∈p.toList,good x
 gq:∀ x∈q.toList,good x
 sp:Srd ky p.toList
 sq:Srd ky q.toList
 f1:∀(o:Array Keyed) (i j:Nat) (st':SortSt),SmS st st'->JH ky p.toList q.toList o.toList i j->(i=0∨j=0)->Q (fin1H p q o i j) st'
 f2:∀(o:Array Keyed) (i j:Nat) (st':SortSt),SmS st st'->JH ky p.toList q.toList o.toList i j->j=1->Q (fin2H p q o i j) st'
structure HiI(ky:Keyed->O.α)(p q:Array Keyed)(st:SortSt)(B:Nat)(o:Array Keyed)(i j:Nat)(st':SortSt):Prop where
 S:SmS st st'
 J:JH ky p.toList q.toList o.toList i j
 a1:1<=i
 a2:2<=j
 z1:i<=p.size
 z2:j<=q.size
 a3:i+j+B<=p.size+q.size
variable{p q:Array Keyed}{st st':SortSt}{Q:Array Keyed->SortSt->Prop}{B:Nat}
noncomputable def HiD(ky:Keyed->O.α)(p q:Array Keyed)(st:SortSt)(Q:Array Keyed->SortSt->Prop)(B:Nat)(c:HSt)(st':SortSt):Prop:=(∃ r z,c=(some r,z)/\Q r st') ∨ ∃ i j o mg ac bc,c=(none,i,j,o,mg,ac,bc)/\HiI ky p q st B o i j st'
noncomputable def HiR(ky:Keyed->O.α)(p q:Array Keyed)(st:SortSt)(Q:Array Keyed->SortSt->Prop)(B:Nat)(r:ForInStep HSt)(st':SortSt):Prop:=match r with
 | .done c=>HiD ky p q st Q B c st'
 | .yield c=>∃ i j o mg ac bc,c=(none,i,j,o,mg,ac,bc)/\HiI ky p q st B o i j st'
theorem wpS_hiC(F:HiF prog w A E s ky good kd p q st Q){o:Array Keyed}{i j mg k l:Nat}{v:Keyed}(I:HiI ky p q st B o i j st')(ev:p[i - 1]?=some v)(h:∀ y,q[j - 1]?=some y->Le ky y v):wpS (model prog w) A E s (hiC p q o i j mg k l) (HiR ky p q st Q B) st':=by
 have a1:=I.a1;have a2:=I.a2;have z1:=I.z1;have z2:=I.z2;have a3:=I.a3;obtain⟨y,ey,_⟩:=some_at (p:=q) (i:=j - 1) (by omega)
 have J:=I.J.a1 F.sp F.sq a1 ev ey (h y ey);refine wpS_bind (wpS_elem ev ?_);refine wpS_ite (fun c=>wpS_pure (.inl ⟨_,_,rfl,F.f1 _ _ _ _ I.S J (.inl (of_beq c))⟩)) (fun c=>?_);have n:=of_nbeq c;have K:HiI ky p q st B (o.push v) (i - 1) j st':=⟨I.S,J,by omega,a2,by omega,z2,by omega⟩
 exact wpS_ite (fun _=>wpS_pure (.inr ⟨_,_,_,_,_,_,rfl,K⟩)) fun _=>wpS_pure ⟨_,_,_,_,_,_,rfl,K⟩
theorem wpS_hiB(F:HiF prog w A E s ky good kd p q st Q){o:Array Keyed}{i j mg k bc:Nat}{y:Keyed}(I:HiI ky p q st B o i j st')(ey:q[j - 1]?=some y)(h:∀ v,p[i - 1]?=some v->Le ky v y):wpS (model prog w) A E s (hiB p q o i j mg k bc) (HiR ky p q st Q B) st':=by
 have a1:=I.a1;have a2:=I.a2;have z1:=I.z1;have z2:=I.z2;have a3:=I.a3;obtain⟨v,ev,mv⟩:=some_at (p:=p) (i:=i - 1) (by omega)
 have J:=I.J.b1 F.sp F.sq (Nat.le_of_succ_le a2) ev ey (h v ev);refine wpS_bind (wpS_elem ey ?_);refine wpS_ite (fun c=>wpS_pure (.inl ⟨_,_,rfl,F.f2 _ _ _ _ I.S J (of_beq c)⟩)) (fun c=>?_);have n:=of_nbeq c;refine wpS_bind (wpS_elem ev (wpS_bind (wpS_gal F.hL (I.S.k.trans F.hk) (F.gp _ mv) F.gq (fun i' j' x y _ h2 _ ex ey=>F.sq.at h2 ex ey) (by omega) (by omega) fun l l1 l2 l3=>?_)))
 have l4:1<=l -> ∀ y,q[l - 1]?=some y->Le ky y v:=fun h y e=>Le.of_lt ((l2 (l - 1) y (Nat.zero_le _) (by omega) e).1 rfl)
 refine wpS_ite (fun g=>?_) (fun g=>?_)
 · have J4:=J.bK (t:=l) F.sp F.sq l1 ev fun m x h1 h2 e=>(l3 m x (by omega) (by omega) e).1 rfl
   refine wpS_ite (fun c=>wpS_pure (.inl ⟨_,_,rfl,F.f2 _ _ _ _ I.S J4 (of_beq c)⟩)) (fun c6=>?_);refine wpS_ite (fun c=>wpS_pure (.inl ⟨_,_,rfl,F.f1 _ _ _ _ I.S J4 (.inr (of_beq c))⟩)) (fun c9=>?_);have n6:=of_nbeq c6;have n9:=of_nbeq c9;exact wpS_hiC F ⟨I.S,J4,a1,by omega,z1,by omega,by omega⟩ ev (l4 (by omega))
 obtain rfl:l=j - 1:=by omega
 exact wpS_hiC F ⟨I.S,J,a1,by omega,z1,by omega,by omega⟩ ev (l4 (by omega))
theorem wpS_hiG(F:HiF prog w A E s ky good kd p q st Q){o:Array Keyed}{i j mg ac bc:Nat}(I:HiI ky p q st B o i j st'):wpS (model prog w) A E s (hiG p q o i j mg ac bc) (HiR ky p q st Q B) st':=by
 have a1:=I.a1;have a2:=I.a2;have z1:=I.z1;have z2:=I.z2;have a3:=I.a3;obtain⟨y,ey,my⟩:=some_at (p:=q) (i:=j - 1) (by omega)
 refine wpS_bind (wpS_setG I.S fun st3 S3=>?_);refine wpS_bind (wpS_elem ey (wpS_bind (wpS_gal F.hL (S3.k.trans F.hk) (F.gq _ my) F.gp (fun i' j' x y _ h2 _ ex ey=>F.sp.at h2 ex ey) (by omega) (by omega) fun t k1 k2 k3=>?_)))
 have k4:1<=t -> ∀ v,p[t - 1]?=some v->Le ky v y:=fun h v e=>(k2 (t - 1) v (Nat.zero_le _) (by omega) e).2 rfl
 refine wpS_ite (fun g=>?_) (fun g=>?_)
 · have J:=I.J.aK (t:=t) F.sp F.sq k1 ey fun m x h1 h2 e=>Le.of_lt ((k3 m x (by omega) (by omega) e).2 rfl)
   refine wpS_ite (fun c=>wpS_pure (.inl ⟨_,_,rfl,F.f1 _ _ _ _ S3 J (.inl (of_beq c))⟩)) (fun c=>?_);have n:=of_nbeq c;exact wpS_hiB F ⟨S3,J,by omega,a2,by omega,z2,by omega⟩ ey (k4 (by omega))
 obtain rfl:t=i:=by omega
 exact wpS_hiB F ⟨S3,I.J,a1,a2,z1,z2,a3⟩ ey (k4 a1)
theorem wpS_hiL(F:HiF prog w A E s ky good kd p q st Q){o:Array Keyed}{i j mg ac bc:Nat}(I:HiI ky p q st B o i j st'):wpS (model prog w) A E s (hiL p q (none,i,j,o,mg,ac,bc)) (HiR ky p q st Q B) st':=
 wpS_ite (fun _=>wpS_hiG F I) fun _=>wpS_hiG F I
noncomputable def HiE(ky:Keyed->O.α)(p q:Array Keyed)(st:SortSt)(Q:Array Keyed->SortSt->Prop)(B:Nat)(r:ForInStep HS2)(st':SortSt):Prop:=match r with
 | .done c=>(∃ r z,c=(some r,z)/\Q r st') ∨ ∃ i j o ac bc,c=(none,i,j,o,ac,bc)/\HiI ky p q st B o i j st'
 | .yield c=>∃ i j o ac bc,c=(none,i,j,o,ac,bc)/\HiI ky p q st B o i j st'
theorem wpS_hiA(F:HiF prog w A E s ky good kd p q st Q){o:Array Keyed}{i j mg ac bc:Nat}(I:HiI ky p q st B o i j st'):wpS (model prog w) A E s (hiA p q mg (none,i,j,o,ac,bc)) (HiE ky p q st Q (B+1)) st':=by
 have a1:=I.a1;have a2:=I.a2;have z1:=I.z1;have z2:=I.z2;have a3:=I.a3;obtain⟨y,ey,my⟩:=some_at (p:=q) (i:=j - 1) (by omega)
 obtain⟨v,ev,mv⟩:=some_at (p:=p) (i:=i - 1) (by omega)
 refine wpS_bind (wpS_elem ey (wpS_bind (wpS_elem ev (wpS_bind (F.hL y v st' _ (F.gq _ my) (F.gp _ mv) (I.S.k.trans F.hk) ?_)))));cases eb:O.blt (ky y) (ky v)with
 | true=>
   refine wpS_bind (wpS_elem ev ?_);have J:=I.J.a1 F.sp F.sq a1 ev ey (Le.of_lt eb);refine wpS_ite (fun c=>wpS_pure (.inl ⟨_,_,rfl,F.f1 _ _ _ _ I.S J (.inl (of_beq c))⟩)) (fun c=>?_);have n:¬ i - 1=0:=of_nbeq c;have K:HiI ky p q st (B+1) (o.push v) (i - 1) j st':=⟨I.S,J,by omega,a2,by omega,z2,by omega⟩
   exact wpS_ite (fun _=>wpS_pure (.inr ⟨_,_,_,_,_,rfl,K⟩)) fun _=>wpS_pure ⟨_,_,_,_,_,rfl,K⟩
 | false=>
   refine wpS_bind (wpS_elem ey ?_);have J:=I.J.b1 F.sp F.sq (Nat.le_of_succ_le a2) ev ey (Le.of_not eb);refine wpS_ite (fun c=>wpS_pure (.inl ⟨_,_,rfl,F.f2 _ _ _ _ I.S J (of_beq c)⟩)) (fun c=>?_);have n:¬ j - 1=1:=of_nbeq c;have K:HiI ky p q st (B+1) (o.push y) i (j - 1) st':=⟨I.S,J,a1,by omega,z1,by omega,by omega⟩
   exact wpS_ite (fun _=>wpS_pure (.inr ⟨_,_,_,_,_,rfl,K⟩)) fun _=>wpS_pure ⟨_,_,_,_,_,rfl,K⟩
noncomputable def HiX(ky:Keyed->O.α)(p q:Array Keyed)(st:SortSt)(Q:Array Keyed->SortSt->Prop)(B:Nat)(r:ForInStep HS1)(st':SortSt):Prop:=match r with
 | .done c=>∃ r z,c=(some r,z)/\Q r st'
 | .yield c=>∃ i j o mg,c=(none,i,j,o,mg)/\HiI ky p q st B o i j st'
theorem HiI.mono{B C:Nat}{o:Array Keyed}{i j:Nat}(I:HiI ky p q st B o i j st')(h:C<=B):HiI ky p q st C o i j st':=⟨I.S,I.J,I.a1,I.a2,I.z1,I.z2,Nat.le_trans (Nat.add_le_add_left h _) I.a3⟩
theorem wpS_hiO(F:HiF prog w A E s ky good kd p q st Q){o:Array Keyed}{i j mg:Nat}(I:HiI ky p q st B o i j st'):wpS (model prog w) A E s (hiO p q (none,i,j,o,mg)) (HiX ky p q st Q (B+1)) st':=by
 have tt:0 < p.size+q.size:=Nat.add_pos_left (Nat.lt_of_lt_of_le I.a1 I.z1) _;refine wpS_bind (wpS_mono (wpS_forRange (I:=fun x c st'=>∃ i j o ac bc,c=(none,i,j,o,ac,bc)/\HiI ky p q st (B+x) o i j st')
  (Q:=fun c st'=>(∃ r z,c=(some r,z)/\Q r st') ∨ ∃ i j o ac bc,c=(none,i,j,o,ac,bc)/\HiI ky p q st (B+1) o i j st') ?_ ?_ ⟨i,j,o,0,0,rfl,I⟩) ?_)
 · rintro x c st2 _ _ ⟨i,j,o,ac,bc,rfl,I⟩
   refine wpS_mono (wpS_hiA F I) fun r st3 h=>?_;cases r with
   | done c=>exact h.imp id fun⟨i,j,o,ac,bc,e,I⟩=>⟨i,j,o,ac,bc,e,I.mono (by omega)⟩
   | yield c=>exact h
 · rintro c st2 ⟨i,j,o,ac,bc,rfl,I⟩
   exact .inr ⟨i,j,o,ac,bc,rfl,I.mono (by omega)⟩
 rintro c st2 (⟨r,z,rfl,hq⟩ | ⟨i,j,o,ac,bc,rfl,I⟩)
 · exact wpS_pure ⟨_,_,rfl,hq⟩
 refine wpS_bind (wpS_lift (wpAny_rule ⟨rfl,?_⟩));refine wpS_bind (wpS_mono (wpS_forRange (I:=fun x c st'=>∃ i j o mg ac bc,c=(none,i,j,o,mg,ac,bc)/\HiI ky p q st (B+1) o i j st') (Q:=HiD ky p q st Q (B+1)) ?_ (fun c st' h=>.inr h) ⟨i,j,o,_,ac,bc,rfl,I⟩) ?_)
 · rintro x c st3 _ _ ⟨i,j,o,mg,ac,bc,rfl,I⟩
   refine wpS_mono (wpS_hiL F I) fun r st4 h=>?_;cases r with
   | done c=>exact h
   | yield c=>exact h
 rintro c st3 (⟨r,z,rfl,hq⟩ | ⟨i,j,o,mg,ac,bc,rfl,I⟩)
 · exact wpS_pure ⟨_,_,rfl,hq⟩
 exact wpS_bind (wpS_setG I.S fun st4 S4=>wpS_pure ⟨i,j,o,_,rfl,S4,I.J,I.a1,I.a2,I.z1,I.z2,I.a3⟩)
theorem wpS_mergeHi(hL:LtOk prog w A E s O ky good kd)(hk:kindOf st=kd)(gp:∀ x∈p.toList,good x)(gq:∀ x∈q.toList,good x)(sp:Srd ky p.toList)(sq:Srd ky q.toList)(p0:0 < p.size)(q0:0 < q.size)
 (h0:∀ y,q[0]?=some y -> ∀ x∈p.toList,Le ky y x) (hl:∀ x y,p[p.size - 1]?=some x->q[q.size - 1]?=some y->Le ky y x) (hQ:∀ r st',SmS st st'->Mgd ky p.toList q.toList r.toList->Q r st') :
 wpS (model prog w) A E s (mergeHiX p q) Q st:=by
 have F:HiF prog w A E s ky good kd p q st Q:=⟨hL,hk,gp,gq,sp,sq,fun o i j st' S J h=>hQ _ _ S (by
  unfold fin1H;rw[Array.toList_append,Array.toList_append,ext_0,ext_0,Array.toList_reverse];exact J.fin1 sp sq h),fun o i j st' S J h=>hQ _ _ S (by
  unfold fin2H;rw[Array.toList_append,Array.toList_append,ext_0,ext_0,Array.toList_reverse];refine J.fin2 sp sq fun x hx y hy=>?_;obtain⟨k,k1,k2⟩:=mem_take_get hx;obtain rfl:k=0:=by omega
  exact h0 x (list_at k2) y hy)⟩
 rw[mergeHiX_eq];refine wpS_bind (wpS_lift (wpAny_rule ⟨rfl,?_⟩));obtain⟨x0,d0,m0⟩:=some_at (p:=p) (i:=p.size - 1) (by omega)
 obtain⟨y0,e0,_⟩:=some_at (p:=q) (i:=q.size - 1) (by omega)
 refine wpS_bind (wpS_elem d0 ?_);have J0:JH ky p.toList q.toList (#[x0]:Array Keyed).toList (p.size - 1) q.size:=by
  have:JH ky p.toList q.toList (#[]:Array Keyed).toList p.size q.size:=⟨by rw[List.drop_of_length_le (by simp),List.drop_of_length_le (by simp)];exact List.Perm.refl _,List.Pairwise.nil,fun x hx=>nomatch hx⟩
  exact this.a1 sp sq p0 d0 e0 (hl _ _ d0 e0)
 refine wpS_ite (fun c=>wpS_pure (F.f1 _ _ _ _ (SmS.rfl' st) J0 (.inl (of_beq c)))) (fun c1=>?_);refine wpS_ite (fun c=>wpS_pure (F.f2 _ _ _ _ (SmS.rfl' st) J0 (of_beq c))) (fun c2=>?_);have n1:=of_nbeq c1;have n2:=of_nbeq c2;refine wpS_bind (wpS_get (wpS_bind (wpS_mono (wpS_forRange (I:=fun x c st'=>∃ i j o mg,c=(none,i,j,o,mg)/\HiI ky p q st (x+1) o i j st') (Q:=fun c st'=>∃ r z,c=(some r,z)/\Q r st') ?_ ?_ ⟨_,_,_,_,rfl,SmS.rfl' st,J0,by omega,by omega,by omega,Nat.le_refl _,by omega⟩) ?_)))
 · rintro x c st1 _ hx ⟨i,j,o,mg,rfl,I⟩
   refine wpS_mono (wpS_hiO F I) fun r st4 h=>?_;cases r with
   | done c=>exact h
   | yield c=>exact h
 · rintro c st' ⟨i,j,o,mg,rfl,I⟩
   have:=I.a1;have:=I.a3;omega
 rintro c st' ⟨r,z,rfl,hq⟩;exact wpS_pure hq
end
theorem mergeAtX_eq(i:Nat):mergeAt' i=(do
 let z ← get
 let(some (sa,na,pw),some (sb,nb,_)):=((pendingOf z)[i]?,(pendingOf z)[i+1]?) | unsupported "internal:list.sort.pending"
 set (setPending z (((pendingOf z).setIfInBounds i (sa,na+nb,pw)).eraseIdxIfInBounds (i+1)))
 let some k ← gallopX false (← elem' (arrOf z) sb) (arrOf z) sa na 0 | return false
 let(sa,na):=(sa+k,na - k)
 if na == 0 then return true
 let some nb ← gallopX true (← elem' (arrOf z) (sa+na - 1)) (arrOf z) sb nb (nb - 1) | return false
 if nb == 0 then return true
 let x:=(arrOf z).extract sa sb
 let y:=(arrOf z).extract sb (sb+nb)
 let mm ← if na<=nb then mergeLoX x y else mergeHiX x y
 modify fun u=>setArr u (mm.toList.zipIdx.foldl (fun a (e,j)=>a.setIfInBounds (sa+j) e) (arrOf u))
 return(failedOf (← get)).isNone):=rfl
noncomputable def rlay:Nat->List (List Keyed)->List (Nat×Nat)
 | _,[]=>[]
 | s,r::rs=>(s,r.length)::rlay (s+r.length) rs
theorem rlay_app:∀(u v:List (List Keyed)) (s:Nat),rlay s (u++v)=rlay s u++rlay (s+u.flatten.length) v
 | [],v,s=>by simp[rlay]
 | r::u,v,s=>by
   show(s,r.length)::rlay (s+r.length) (u++v)=(s,r.length)::(rlay (s+r.length) u++_);rw[rlay_app u v,List.flatten_cons,List.length_append,Nat.add_assoc]
theorem rlay_len:∀(u:List (List Keyed)) (s:Nat),(rlay s u).length=u.length
 | [],s=>rfl
 | r::u,s=>by show(rlay _ u).length+1=_;rw[rlay_len u];rfl
theorem wr_at(b:Nat):∀(m:List Keyed) (n:Nat) (xs:Array Keyed),b+n+m.length<=xs.size->((m.zipIdx n).foldl (fun a (e,j)=>a.setIfInBounds (b+j) e) xs).toList=xs.toList.take (b+n)++m++xs.toList.drop (b+n+m.length)
 | [],n,xs,h=>by simp
 | x::m,n,xs,h=>by
   rw[List.zipIdx_cons,List.foldl_cons];rw[List.length_cons]at h;have ih:=wr_at b m (n+1) (xs.setIfInBounds (b+n) x) (by rw[Array.size_setIfInBounds];omega)
   rw[ih,Array.toList_setIfInBounds];have hl:b+n < xs.toList.length:=by rw[Array.length_toList];omega
   have e1:(xs.toList.set (b+n) x).take (b+(n+1))=xs.toList.take (b+n)++[x]:=by
    rw[show b+(n+1)=(b+n)+1 by omega,List.take_add_one,List.take_set_of_le (Nat.le_refl _),List.getElem?_set_self hl]
    rfl
   have e2:(xs.toList.set (b+n) x).drop (b+(n+1)+m.length)=xs.toList.drop (b+n+(x::m).length):=by
    rw[List.drop_set_of_lt (by omega),List.length_cons]
    congr 1
    omega
   rw[e1,e2];simp
section
variable{prog:Program}{w:World}{A:Around}{E:Value->Shared->Prop}{s:Shared}{O:KeyOrd}{ky:Keyed->O.α}{good:Keyed->Prop}{kd:SortKind}
theorem wpS_set{α:Type}{st z:SortSt}{Q:PUnit->SortSt->Prop}(h:Q ⟨⟩ z):wpS (model prog w) A E s (set z:StateT SortSt Sem PUnit) Q st:=by
 unfold wpS;exact wpAny_pure ⟨rfl,h⟩
structure PD(ky:Keyed->O.α)(good:Keyed->Prop)(kd:SortKind)(a₀:Array Keyed)(st:SortSt)(rs:List (List Keyed))(rest:List Keyed):Prop where
 pm:(arrOf st).Perm a₀
 kd:kindOf st=kd
 fl:failedOf st=none
 eq:(arrOf st).toList=rs.flatten++rest
 pd:(pendingOf st).toList.map (fun t=>(t.1,t.2.1))=rlay 0 rs
 so:∀ r∈rs,Srd ky r/\r≠[]
 gd:∀ x∈(arrOf st).toList,good x
theorem mid_get{pre a post:List Keyed}{i:Nat}(h1:pre.length<=i)(h2:i < pre.length+a.length):(pre++a++post)[i]?=a[i - pre.length]?:=by
 rw[List.append_assoc,List.getElem?_append_right h1,List.getElem?_append_left (by omega)]
theorem pend_of{ps:List (Nat×Nat×Nat)}{u v:List (List Keyed)}{a b:List Keyed}(h:ps.map (fun t=>(t.1,t.2.1))=rlay 0 (u++a::b::v)) :
 ∃ pu pv pw pw2,ps=pu++(u.flatten.length,a.length,pw)::(u.flatten.length+a.length,b.length,pw2)::pv/\pu.length=u.length/\pu.map (fun t=>(t.1,t.2.1))=rlay 0 u/\pv.map (fun t=>(t.1,t.2.1))=rlay (u.flatten.length+a.length+b.length) v:=by
 rw[rlay_app,Nat.zero_add]at h;obtain⟨pu,pr,rfl,h1,h2⟩:=List.map_eq_append_iff.mp h;have h2:pr.map (fun t=>(t.1,t.2.1))=(u.flatten.length,a.length)::(u.flatten.length+a.length,b.length)::rlay (u.flatten.length+a.length+b.length) v:=h2;obtain⟨ta,pr2,rfl,h3,h4⟩:=List.map_eq_cons_iff.mp h2;obtain⟨tb,pv,rfl,h5,h6⟩:=List.map_eq_cons_iff.mp h4;obtain⟨ta1,ta2,ta3⟩:=ta;obtain⟨tb1,tb2,tb3⟩:=tb;cases h3;cases h5;refine⟨pu,pv,ta3,tb3,rfl,?_,h1,h6⟩;have:=congrArg List.length h1;rw[List.length_map,rlay_len]at this;exact this
theorem PD.merge{a₀:Array Keyed}{st st':SortSt}{u v:List (List Keyed)}{a b r rest:List Keyed}{pw:Nat}(P:PD ky good kd a₀ st (u++a::b::v) rest)(k1:kindOf st'=kindOf st)(f1:failedOf st'=failedOf st)
 (e1:(arrOf st').toList=u.flatten++r++(v.flatten++rest)) (pm:r.Perm (a++b)) (so:Srd ky r) (hp:∀ pu pv pa pb,(pendingOf st).toList=pu++pa::pb::pv->pu.length=u.length->(pendingOf st').toList=pu++(u.flatten.length,a.length+b.length,pw)::pv):PD ky good kd a₀ st' (u++r::v) rest:=by
 obtain⟨pu,pv,w1,w2,ep,lp,m1,m2⟩:=pend_of P.pd;have ex:(arrOf st).toList=u.flatten++(a++b)++(v.flatten++rest):=by rw[P.eq];simp
 have pml:(arrOf st').toList.Perm (arrOf st).toList:=by
  rw[e1,ex];exact List.Perm.append_right _ (List.Perm.append_left _ pm)
 have hl:r.length=a.length+b.length:=by rw[pm.length_eq,List.length_append]
 refine⟨(Array.perm_iff_toList_perm.mpr pml).trans P.pm,k1.trans P.kd,f1.trans P.fl,by rw[e1];simp,?_,fun z hz=>?_,fun x hx=>P.gd x (pml.mem_iff.mp hx)⟩
 · rw[hp pu pv _ _ ep lp,List.map_append,m1,List.map_cons,m2,rlay_app,Nat.zero_add]
   show _++(u.flatten.length,a.length+b.length)::_=_++(u.flatten.length,r.length)::rlay (u.flatten.length+r.length) v;rw[hl,Nat.add_assoc]
 rcases List.mem_append.mp hz with y | y
 · exact P.so z (List.mem_append_left _ y)
 rcases List.mem_cons.mp y with rfl | y
 · refine⟨so,fun e=>?_⟩
   subst e;have:=(P.so a (by simp)).2
   have:=List.length_pos_iff.mpr this;simp at hl;omega
 exact P.so z (by simp[y])
theorem wpS_mergeAt(hL:LtOk prog w A E s O ky good kd){a₀:Array Keyed}{st:SortSt}{u v:List (List Keyed)}{a b rest:List Keyed}{Q:Bool->SortSt->Prop}(P:PD ky good kd a₀ st (u++a::b::v) rest)
 (q:∀ r st',PD ky good kd a₀ st' (u++r::v) rest->Q true st'):wpS (model prog w) A E s (mergeAt' u.length) Q st:=by
 obtain⟨pu,pv,pw,pw2,ep,lp,_,_⟩:=pend_of P.pd;have ga:(pendingOf st)[u.length]?=some (u.flatten.length,a.length,pw):=by
  rw[← Array.getElem?_toList,ep,← lp,List.getElem?_append_right (Nat.le_refl _),Nat.sub_self];rfl
 have gb:(pendingOf st)[u.length+1]?=some (u.flatten.length+a.length,b.length,pw2):=by
  rw[← Array.getElem?_toList,ep,← lp,List.getElem?_append_right (by omega),show pu.length+1 - pu.length=1 by omega];rfl
 have hp:∀ pu' pv' pa pb,(pendingOf st).toList=pu'++pa::pb::pv'->pu'.length=u.length->(((pendingOf st).setIfInBounds u.length (u.flatten.length,a.length+b.length,pw)).eraseIdxIfInBounds (u.length+1)).toList=pu'++(u.flatten.length,a.length+b.length,pw)::pv':=fun pu' pv' pa pb e l=>by
  rw[Array.toList_eraseIdxIfInBounds,Array.toList_setIfInBounds,e,← l,List.set_append_right _ _ (Nat.le_refl _),Nat.sub_self,List.set_cons_zero,List.eraseIdx_append_of_length_le (by omega),show pu'.length+1 - pu'.length=1 by omega]
  rfl
 have sa:=(P.so a (by simp)).1
 have na:=List.length_pos_iff.mpr (P.so a (by simp)).2
 have sb:=(P.so b (by simp)).1
 have nb:=List.length_pos_iff.mpr (P.so b (by simp)).2
 have ex:(arrOf st).toList=u.flatten++(a++b)++(v.flatten++rest):=by rw[P.eq];simp
 have eA:∀ i,i < a.length->(arrOf st)[u.flatten.length+i]?=a[i]?:=fun i hi=>by
  rw[← Array.getElem?_toList,ex,mid_get (by omega) (by rw[List.length_append];omega),Nat.add_sub_cancel_left,List.getElem?_append_left hi]
 have eB:∀ i,i < b.length->(arrOf st)[u.flatten.length+a.length+i]?=b[i]?:=fun i hi=>by
  rw[← Array.getElem?_toList,ex,mid_get (by omega) (by rw[List.length_append];omega),show u.flatten.length+a.length+i - u.flatten.length=a.length+i by omega,List.getElem?_append_right (by omega),Nat.add_sub_cancel_left]
 have size:u.flatten.length+a.length+b.length<=(arrOf st).size:=by
  rw[← Array.length_toList,ex];simp only[List.length_append];omega
 obtain⟨b0,eb0⟩:∃ x,b[0]?=some x:=⟨_,List.getElem?_eq_getElem nb⟩;obtain⟨al,eal⟩:∃ x,a[a.length - 1]?=some x:=⟨_,List.getElem?_eq_getElem (by omega)⟩
 have gd:=P.gd;have kk:=P.kd;have gb0:good b0:=gd _ (by rw[ex];have:=List.mem_of_getElem? eb0;simp[this])
 have gal:good al:=gd _ (by rw[ex];have:=List.mem_of_getElem? eal;simp[this])
 have b0le:∀ y∈b,Le ky b0 y:=fun y hy=>by
  obtain⟨j,hj⟩:=List.getElem?_of_mem hy;exact sb.get (Nat.zero_le _) eb0 hj
 have leal:∀ x∈a,Le ky x al:=fun x hx=>by
  obtain⟨j,hj⟩:=List.getElem?_of_mem hx;have:=(List.getElem?_eq_some_iff.mp hj).1;exact sa.get (by omega) hj eal
 rw[mergeAtX_eq];refine wpS_bind (wpS_get ?_);rw[ga,gb]
 dsimp only
 refine wpS_bind (wpS_set (α:=Unit) ?_);have done_:∀ r,r.Perm (a++b)->Srd ky r->r=a++b->Q true (setPending st (((pendingOf st).setIfInBounds u.length (u.flatten.length,a.length+b.length,pw)).eraseIdxIfInBounds (u.length+1))):=fun r pm so e=>by
  subst e;exact q _ _ (P.merge (st':=setPending st _) rfl rfl ex pm so hp)
 refine wpS_bind (wpS_elem (by have:=eB 0 nb;rw[Nat.add_zero]at this;rw[this,eb0]) ?_)
 refine wpS_bind (wpS_gal hL kk gb0 gd (fun i j x y h1 h2 h3 e1 e2=>?_) (by omega) na fun k k1 k2 k3=>?_)
 · rw[show i=u.flatten.length+(i - u.flatten.length) by omega,eA _ (by omega)]at e1
   rw[show j=u.flatten.length+(j - u.flatten.length) by omega,eA _ (by omega)]at e2
   exact sa.get (by omega) e1 e2
 have A1:∀ x∈a.take k,Le ky x b0:=fun x hx=>by
  obtain⟨m,m1,m2⟩:=mem_take_get hx;have:=(List.getElem?_eq_some_iff.mp m2).1;exact(k2 (u.flatten.length+m) x (by omega) (by omega) (by rw[eA m (by omega)];exact m2)).2 rfl
 have A2:∀ x∈a.drop k,Le ky b0 x:=fun x hx=>by
  obtain⟨m,m1,m2⟩:=mem_drop_get hx;have:=(List.getElem?_eq_some_iff.mp m2).1;exact Le.of_lt ((k3 (u.flatten.length+m) x (by omega) (by omega) (by rw[eA m (by omega)];exact m2)).2 rfl)
 dsimp only
 refine wpS_ite (fun c=>wpS_pure ?_) (fun c=>?_)
 · have c:=of_beq c
   refine done_ (a++b) (List.Perm.refl _) (Srd.app.mpr ⟨sa,sb,fun x hx y hy=>(A1 x ?_).trans (b0le y hy)⟩) rfl;rw[List.take_of_length_le (by omega)]
   exact hx
 have c:=of_nbeq c;refine wpS_bind (wpS_elem (by rw[show u.flatten.length+k+(a.length - k) - 1=u.flatten.length+(a.length - 1) by omega,eA _ (by omega)];exact eal) ?_)
 refine wpS_bind (wpS_gal hL kk gal gd (fun i j x y h1 h2 h3 e1 e2=>?_) (by omega) (by omega) fun l l1 l2 l3=>?_)
 · rw[show i=u.flatten.length+a.length+(i - (u.flatten.length+a.length)) by omega,eB _ (by omega)]at e1
   rw[show j=u.flatten.length+a.length+(j - (u.flatten.length+a.length)) by omega,eB _ (by omega)]at e2
   exact sb.get (by omega) e1 e2
 have B1:∀ x∈b.take l,Le ky x al:=fun x hx=>by
  obtain⟨m,m1,m2⟩:=mem_take_get hx;have:=(List.getElem?_eq_some_iff.mp m2).1;exact Le.of_lt ((l2 (u.flatten.length+a.length+m) x (by omega) (by omega) (by rw[eB m (by omega)];exact m2)).1 rfl)
 have B2:∀ x∈b.drop l,Le ky al x:=fun x hx=>by
  obtain⟨m,m1,m2⟩:=mem_drop_get hx;have:=(List.getElem?_eq_some_iff.mp m2).1;exact(l3 (u.flatten.length+a.length+m) x (by omega) (by omega) (by rw[eB m (by omega)];exact m2)).1 rfl
 dsimp only
 refine wpS_ite (fun c=>wpS_pure ?_) (fun c2=>?_)
 · have c:=of_beq c
   subst c;exact done_ (a++b) (List.Perm.refl _) (Srd.app.mpr ⟨sa,sb,fun x hx y hy=>(leal x hx).trans (B2 y hy)⟩) rfl
 have c2:=of_nbeq c2;have dr:∀ k,(arrOf st).toList.drop (u.flatten.length+k)=(a++b++(v.flatten++rest)).drop k:=fun k=>by
  rw[ex,List.append_assoc,List.drop_append,List.drop_of_length_le (by omega),Nat.add_sub_cancel_left,List.nil_append]
 have ep1:((arrOf st).extract (u.flatten.length+k) (u.flatten.length+a.length)).toList=a.drop k:=by
  rw[ext_list,dr,List.append_assoc,List.drop_append_of_le_length k1,show u.flatten.length+a.length - (u.flatten.length+k)=(a.drop k).length by rw[List.length_drop];omega,List.take_append_of_le_length (Nat.le_refl _),List.take_length]
 have ep2:((arrOf st).extract (u.flatten.length+a.length) (u.flatten.length+a.length+l)).toList=b.take l:=by
  rw[ext_list,dr,List.append_assoc,List.drop_append_of_le_length (Nat.le_refl _),List.drop_length,List.nil_append,Nat.add_sub_cancel_left,List.take_append_of_le_length l1]
 have sp:Srd ky (a.drop k):=sa.drop k;have sq:Srd ky (b.take l):=sb.take l;have zp:0 < (a.drop k).length:=by rw[List.length_drop];omega
 have zq:0 < (b.take l).length:=by rw[List.length_take];omega
 have lastp:∀ y,(a.drop k)[(a.drop k).length - 1]?=some y->y=al:=fun y e=>by
  rw[List.getElem?_drop,List.length_drop,show k+(a.length - k - 1)=a.length - 1 by omega,eal]at e
  exact(Option.some.inj e).symm
 have firstq:∀ y,(b.take l)[0]?=some y->y=b0:=fun y e=>by
  rw[List.getElem?_take_of_lt (by omega),eb0]at e
  exact(Option.some.inj e).symm
 have gp:∀ x∈a.drop k,good x:=fun x hx=>gd _ (by rw[ex];have:=List.mem_of_mem_drop hx;simp[this])
 have gq:∀ x∈b.take l,good x:=fun x hx=>gd _ (by rw[ex];have:=List.mem_of_mem_take hx;simp[this])
 have fin_:∀(mm:Array Keyed) (st':SortSt),SmS (setPending st (((pendingOf st).setIfInBounds u.length (u.flatten.length,a.length+b.length,pw)).eraseIdxIfInBounds (u.length+1))) st'->Mgd ky (a.drop k) (b.take l) mm.toList ->
  Q true (setArr st' (mm.toList.zipIdx.foldl (fun a (e,j)=>a.setIfInBounds (u.flatten.length+k+j) e) (arrOf st'))):=fun mm st' S M=>by
  have lm:mm.toList.length=a.length - k+l:=by
   rw[M.1.length_eq,List.length_append,List.length_drop,List.length_take];omega
  refine q (a.take k++mm.toList++b.drop l) _ (P.merge (pw:=pw) (st':=setArr st' _) S.k S.f ?_ ?_ ?_ fun pu pv pa pb e l=>?_)
  · show(List.foldl _ (arrOf st') _).toList=_
    rw[S.a];show(List.foldl _ (arrOf st) _).toList=_;rw[wr_at (u.flatten.length+k) mm.toList 0 (arrOf st) (by omega),Nat.add_zero,lm,show u.flatten.length+k+(a.length - k+l)=u.flatten.length+(a.length+l) by omega,dr]
    have e1:(arrOf st).toList.take (u.flatten.length+k)=u.flatten++a.take k:=by
     rw[ex,List.append_assoc,List.take_append,List.take_of_length_le (by omega),Nat.add_sub_cancel_left,List.append_assoc,List.take_append_of_le_length k1]
    have e2:(a++b++(v.flatten++rest)).drop (a.length+l)=b.drop l++(v.flatten++rest):=by
     rw[List.append_assoc,List.drop_append,List.drop_of_length_le (by omega),Nat.add_sub_cancel_left,List.nil_append,List.drop_append_of_le_length l1]
    rw[e1,e2];simp only[List.append_assoc]
  · have h1:(a.take k++mm.toList++b.drop l).Perm (a.take k++(a.drop k++b.take l)++b.drop l):=List.Perm.append_right _ (List.Perm.append_left _ M.1)
    have h2:a.take k++(a.drop k++b.take l)++b.drop l=a++b:=by
     rw[← List.append_assoc,List.take_append_drop,List.append_assoc,List.take_append_drop]
    rw[h2]at h1;exact h1
  · have inM:∀ x∈mm.toList,x∈a.drop k∨x∈b.take l:=fun x hx=>List.mem_append.mp (M.1.mem_iff.mp hx)
    have sa2:=sa;rw[← List.take_append_drop k a]at sa2;have sb2:=sb;rw[← List.take_append_drop l b]at sb2;refine Srd.app.mpr ⟨Srd.app.mpr ⟨sa.take k,M.2,fun x hx y hy=>?_⟩,sb.drop l,fun x hx y hy=>?_⟩
    · rcases inM y hy with z | z
      · exact(Srd.app.mp sa2).2.2 x hx y z
      exact(A1 x hx).trans (b0le y (List.mem_of_mem_take z))
    rcases List.mem_append.mp hx with z | z
    · exact(leal x (List.mem_of_mem_take z)).trans (B2 y hy)
    rcases inM x z with z | z
    · exact(leal x (List.mem_of_mem_drop z)).trans (B2 y hy)
    exact(Srd.app.mp sb2).2.2 x z y hy
  show(pendingOf st').toList=_;rw[S.p];exact hp pu pv pa pb e (by assumption)
 refine wpS_ite (fun _=>?_) (fun _=>?_)
 · refine wpS_bind (wpS_mergeLo hL (by exact kk) (by rw[ep1];exact gp) (by rw[ep2];exact gq) (by rw[ep1];exact sp) (by rw[ep2];exact sq) (by rw[← Array.length_toList,ep1];exact zp) (by rw[← Array.length_toList,ep2];exact zq) (fun x y hx hy=>?_) (fun x hx y hy=>?_) fun mm st' S M=>?_)
   · have hx:=at_list hx
     have hy:=at_list hy;rw[ep1]at hx;rw[ep2]at hy;rw[firstq y hy];exact A2 x (List.mem_of_getElem? hx)
   · have hy:=at_list hy
     rw[← Array.length_toList,ep1]at hy;rw[ep2]at hx;rw[lastp y hy];exact B1 x hx
   rw[ep1,ep2]at M;refine wpS_bind (wpS_modify (wpS_bind (wpS_get ?_)));have:(failedOf st').isNone=true:=by rw[S.f];show(failedOf st).isNone=true;rw[P.fl];rfl
   show wpS _ _ _ _ (pure (failedOf st').isNone) _ _;rw[this];exact wpS_pure (fin_ mm st' S M)
 refine wpS_bind (wpS_mergeHi hL (by exact kk) (by rw[ep1];exact gp) (by rw[ep2];exact gq) (by rw[ep1];exact sp) (by rw[ep2];exact sq) (by rw[← Array.length_toList,ep1];exact zp) (by rw[← Array.length_toList,ep2];exact zq) (fun y hy x hx=>?_) (fun x y hx hy=>?_) fun mm st' S M=>?_)
 · have hy:=at_list hy
   rw[ep1]at hx;rw[ep2]at hy;rw[firstq y hy];exact A2 x hx
 · have hx:=at_list hx
   have hy:=at_list hy;rw[← Array.length_toList,ep1]at hx;rw[ep2]at hy;rw[lastp x hx];exact B1 y (List.mem_of_getElem? hy)
 rw[ep1,ep2]at M;refine wpS_bind (wpS_modify (wpS_bind (wpS_get ?_)));have:(failedOf st').isNone=true:=by rw[S.f];show(failedOf st).isNone=true;rw[P.fl];rfl
 show wpS _ _ _ _ (pure (failedOf st').isNone) _ _;rw[this];exact wpS_pure (fin_ mm st' S M)
end
noncomputable def kyK(κ:PyProof.Rows.KeyKind)(x:Keyed):κ.α:=(κ.keyOf x.1).getD κ.dflt
theorem KK_at{κ:PyProof.Rows.KeyKind}{xs:Array Keyed}{i:Nat}{x:Keyed}(h:xs[i]?=some x):KK κ xs i=kyK κ x:=by
 unfold KK kyK;rw[h]
noncomputable abbrev AS:=Option (Option Nat)×Nat
noncomputable abbrev DS:=Option (Option Nat)×Nat×Nat
noncomputable def ascF(lo:Nat)(c:AS):StateT SortSt Sem (ForInStep AS):=do
 let x ← ltAt' (lo+c.2) (lo+c.2 - 1)
 match x with
 | some sm=>if sm=true then pure (.done (none,c.2))else pure (.yield (none,c.2+1))
 | _=>pure (.done (some none,c.2))
noncomputable def tailF(lo n m:Nat):StateT SortSt Sem (Option Nat):=do
 reverseSlice' lo (lo+m)
 let c ← forIn [m:n] ((none,m):AS) fun _=>ascF lo
 match c.1 with
 | some r=>pure r
 | none=>pure (some c.2)
noncomputable def descF(lo:Nat)(c:DS):StateT SortSt Sem (ForInStep DS):=do
 let x ← ltAt' (lo+c.2.1) (lo+c.2.1 - 1)
 match x with
 | some sm=>
   if sm=true then
    if c.2.2 > 0 then do
     reverseSlice' (lo+c.2.1 - (c.2.2+1)) (lo+c.2.1)
     pure (.yield (none,c.2.1+1,0))
    else pure (.yield (none,c.2.1+1,0))
   else do
    let x ← ltAt' (lo+c.2.1 - 1) (lo+c.2.1)
    match x with
    | some la=>if la=true then pure (.done (none,c.2.1,c.2.2))else pure (.yield (none,c.2.1+1,c.2.2+1))
    | _=>pure (.done (some none,c.2.1,c.2.2))
 | _=>pure (.done (some none,c.2.1,c.2.2))
noncomputable def descP(lo n m:Nat):StateT SortSt Sem (Option Nat):=do
 liftM (rule "list.sort.descending-run")
 let c ← forIn [m+1:n] ((none,m+1,0):DS) fun _=>descF lo
 match c.1 with
 | some r=>pure r
 | none=>
   if c.2.2 > 0 then do
    reverseSlice' (lo+c.2.1 - (c.2.2+1)) (lo+c.2.1)
    tailF lo n c.2.1
   else tailF lo n c.2.1
theorem countX_eq(lo n:Nat):countRun' lo n=(do
 let c ← forIn [1:n] ((none,1):AS) fun _=>ascF lo
 match c.1 with
 | some r=>pure r
 | none=>
   if(c.2 == n)=true then pure (some c.2)
   else if c.2 > 1 then do
    let x ← ltAt' lo (lo+c.2 - 1)
    match x with
    | some ro=>if ro=true then pure (some c.2)else do
      reverseSlice' lo (lo+c.2)
      descP lo n c.2
    | _=>pure none
   else descP lo n c.2):=by kernel_rfl
section
variable{prog:Program}{w:World}{A:Around}{E:Value->Shared->Prop}{s:Shared}{κ:PyProof.Rows.KeyKind}{good:Keyed->Prop}{kd:SortKind}
structure SB(lo:Nat)(st0 st:SortSt):Prop where
 pm:(arrOf st).Perm (arrOf st0)
 kd:kindOf st=kindOf st0
 pd:pendingOf st=pendingOf st0
 fl:failedOf st=failedOf st0
 lw:∀ i,i < lo->(arrOf st)[i]?=(arrOf st0)[i]?
theorem SB.rfl'(lo:Nat)(st:SortSt):SB lo st st:=⟨Array.Perm.refl _,rfl,rfl,rfl,fun _ _=>rfl⟩
theorem SB.size{lo:Nat}{st0 st:SortSt}(h:SB lo st0 st):(arrOf st).size=(arrOf st0).size:=h.pm.size_eq
theorem SB.mir{lo i j:Nat}{st0 st:SortSt}(h:SB lo st0 st)(h1:lo<=i)(h2:j<=(arrOf st0).size):SB lo st0 (setArr st (mirror (arrOf st) i j ((j - i) / 2))):=
 ⟨(mirror_perm _ _ _ _).trans h.pm,h.kd,h.pd,h.fl,fun k hk=>by
   show(mirror (arrOf st) i j ((j - i) / 2))[k]?=_;rw[getElem?_mirror_all (by rw[h.size];exact h2),if_neg (by omega)]
   exact h.lw k hk⟩
theorem SB.bub{lo i j:Nat}{st0 st:SortSt}(h:SB lo st0 st)(h1:lo<=j)(hj:j<=i)(h2:i < (arrOf st0).size):SB lo st0 (setArr st (bubble (arrOf st) i (i - j))):=
 ⟨(bubble_perm _ _ _).trans h.pm,h.kd,h.pd,h.fl,fun k hk=>by
   show(bubble (arrOf st) i (i - j))[k]?=_;rw[getElem?_bubble (by rw[h.size];exact h2) _ (by omega),if_neg (by omega),if_neg (by omega)]
   exact h.lw k hk⟩
noncomputable def SoK(κ:PyProof.Rows.KeyKind)(xs:Array Keyed)(lo n:Nat):Prop:=∀ i j,lo<=i->i<=j->j < lo+n -> κ.kle (KK κ xs i) (KK κ xs j)
noncomputable def NiK(κ:PyProof.Rows.KeyKind)(xs:Array Keyed)(lo n:Nat):Prop:=∀ i j,lo<=i->i<=j->j < lo+n -> κ.kle (KK κ xs j) (KK κ xs i)
theorem wpS_ltX(hL:LtOk prog w A E s κ.toKeyOrd (kyK κ) good kd){lo:Nat}{st0 st:SortSt}{i j:Nat}{Q:Option Bool->SortSt->Prop}(S:SB lo st0 st)(hk:kindOf st0=kd)(gd:∀ x∈(arrOf st0).toList,good x)(hi:i < (arrOf st0).size)(hj:j < (arrOf st0).size)
 (q:Q (some (κ.blt (KK κ (arrOf st) i) (KK κ (arrOf st) j))) st):wpS (model prog w) A E s (ltAt' i j) Q st:=by
 obtain⟨x,ex,mx⟩:=some_at (p:=arrOf st) (i:=i) (by rw[S.size];exact hi)
 obtain⟨y,ey,my⟩:=some_at (p:=arrOf st) (i:=j) (by rw[S.size];exact hj)
 have mem:∀ x,x∈(arrOf st).toList->good x:=fun x hx=>gd x ((Array.perm_iff_toList_perm.mp S.pm).mem_iff.mp hx);rw[KK_at ex,KK_at ey]at q;rw[ltAt'_eq];refine wpS_bind (wpS_get ?_);exact wpS_bind (wpS_elem ex (wpS_bind (wpS_elem ey (hL x y st _ (mem x mx) (mem y my) (S.kd.trans hk) q))))
theorem SoK.more{xs:Array Keyed}{lo n:Nat}(h:SoK κ xs lo n)(hn:1<=n)(z:κ.blt (KK κ xs (lo+n)) (KK κ xs (lo+n - 1))=false):SoK κ xs lo (n+1):=fun i j h1 h2 h3=>by
 by_cases e:j=lo+n
 · subst e
   by_cases e2:i=lo+n
   · subst e2;exact KeyOrd.kle_refl _
   exact KeyOrd.kle_trans (h i (lo+n - 1) h1 (by omega) (by omega)) z
 exact h i j h1 h2 (by omega)
variable{lo n:Nat}{st0 st:SortSt}
structure CnF(prog:Program)(w:World)(A:Around)(E:Value->Shared->Prop)(s:Shared)(κ:PyProof.Rows.KeyKind)(good:Keyed->Prop)(kd:SortKind)(lo n:Nat)(st0:SortSt):Prop where
 hL:LtOk prog w A E s κ.toKeyOrd (kyK κ) good kd
 hk:kindOf st0=kd
 gd:∀ x∈(arrOf st0).toList,good x
 hn:lo+n<=(arrOf st0).size
theorem wpS_asc(F:CnF prog w A E s κ good kd lo n st0)(S:SB lo st0 st){a:Nat}{Q:AS->SortSt->Prop}(ha:1<=a)(han:a<=n)(hs:SoK κ (arrOf st) lo a)
 (q:∀ m,a<=m->m<=n->SoK κ (arrOf st) lo m->(m=n ∨ κ.blt (KK κ (arrOf st) (lo+m)) (KK κ (arrOf st) (lo+m - 1))=true)->Q (none,m) st) :
 wpS (model prog w) A E s (forIn [a:n] ((none,a):AS) fun _=>ascF lo) Q st:=by
 have hn:=F.hn;refine wpS_forRange (I:=fun x c st'=>st'=st/\c=(none,x)/\SoK κ (arrOf st) lo x) ?_ ?_ ⟨rfl,rfl,hs⟩
 · rintro x c st' hax hxn ⟨rfl,rfl,hs'⟩
   refine wpS_bind (wpS_ltX F.hL S F.hk F.gd (i:=lo+x) (by omega) (by show lo+x - 1 < _;omega) ?_)
   cases e:κ.blt (KK κ (arrOf st') (lo+x)) (KK κ (arrOf st') (lo+x - 1))with
   | true=>exact wpS_pure (q x hax (Nat.le_of_lt hxn) hs' (.inr e))
   | false=>exact wpS_pure ⟨rfl,rfl,hs'.more (Nat.le_trans ha hax) e⟩
 rintro c st' ⟨rfl,rfl,hs'⟩;rw[Nat.max_eq_right han]at hs' ⊢;exact q n han (Nat.le_refl _) hs' (.inl rfl)
theorem eq_mir{xs:Array Keyed}{i j:Nat}(hj:j<=xs.size)(h:∀ k,i<=k->k < j->KK κ xs k=KK κ xs (j - 1))(k:Nat):KK κ (mirror xs i j ((j - i) / 2)) k=KK κ xs k:=KK_mirror_equal hj h k
theorem wpS_tail(F:CnF prog w A E s κ good kd lo n st0)(S:SB lo st0 st){m:Nat}{Q:Option Nat->SortSt->Prop}(m1:1<=m)(m2:m<=n)(ni:NiK κ (arrOf st) lo m)(q:∀ m st',SB lo st0 st'->1<=m->m<=n->SoK κ (arrOf st') lo m->Q (some m) st'):wpS (model prog w) A E s (tailF lo n m) Q st:=by
 have hn:=F.hn;have le:lo+m<=(arrOf st).size:=by rw[S.size];omega
 have S2:=S.mir (i:=lo) (j:=lo+m) (Nat.le_refl _) (by omega)
 refine wpS_bind (wpS_reverse (wpS_bind (wpS_asc F S2 m1 m2 (fun i j a1 a2 a3=>?_) fun m' a1 a2 a3 _=>wpS_pure (q m' _ S2 (Nat.le_trans m1 a1) a2 a3))));show κ.kle (KK κ (mirror _ _ _ _) _) (KK κ (mirror _ _ _ _) _);rw[KK_mirror le,KK_mirror le,if_pos (by omega),if_pos (by omega)]
 exact ni _ _ (by omega) (by omega) (by omega)
theorem wpS_descP(F:CnF prog w A E s κ good kd lo n st0)(S:SB lo st0 st){m:Nat}{Q:Option Nat->SortSt->Prop}(m2:m+1<=n)(hs:NiK κ (arrOf st) lo (m+1))(q:∀ m st',SB lo st0 st'->1<=m->m<=n->SoK κ (arrOf st') lo m->Q (some m) st'):wpS (model prog w) A E s (descP lo n m) Q st:=by
 have hn:=F.hn;have fin_:∀(y nq:Nat) (st':SortSt),SB lo st0 st'->m+1<=y->y<=n->NiK κ (arrOf st') lo y->(∀ i,lo+y - (nq+1)<=i->i < lo+y->KK κ (arrOf st') i=KK κ (arrOf st') (lo+y - 1))->nq+1<=y ->
  wpS (model prog w) A E s (if nq > 0 then do
   reverseSlice' (lo+y - (nq+1)) (lo+y)
   tailF lo n y
  else tailF lo n y) Q st':=fun y nq st' S y1 y2 ni eq h3=>by
  have le:lo+y<=(arrOf st').size:=by rw[S.size];omega
  refine wpS_ite (fun g=>wpS_bind (wpS_reverse (wpS_tail F (S.mir (by omega) (by omega)) (Nat.le_trans (Nat.succ_le_succ (Nat.zero_le _)) y1) y2 (fun i j a1 a2 a3=>?_) q))) fun _=>wpS_tail F S (Nat.le_trans (Nat.succ_le_succ (Nat.zero_le _)) y1) y2 ni q
  show κ.kle (KK κ (mirror _ _ _ _) _) (KK κ (mirror _ _ _ _) _);rw[eq_mir le eq,eq_mir le eq];exact ni i j a1 a2 a3
 refine wpS_bind (wpS_lift (wpAny_rule ⟨rfl,?_⟩));refine wpS_bind (wpS_mono (wpS_forRange (I:=fun x c st'=>∃ nq,c=(none,x,nq)/\SB lo st0 st'/\NiK κ (arrOf st') lo x/\nq+1<=x/\(∀ i,lo+x - (nq+1)<=i->i < lo+x->KK κ (arrOf st') i=KK κ (arrOf st') (lo+x - 1)))
  (Q:=fun c st'=>∃ x nq,c=(none,x,nq)/\m+1<=x/\x<=n/\SB lo st0 st'/\NiK κ (arrOf st') lo x/\nq+1<=x/\(∀ i,lo+x - (nq+1)<=i->i < lo+x->KK κ (arrOf st') i=KK κ (arrOf st') (lo+x - 1))) ?_ ?_ ⟨0,rfl,S,hs,by omega,fun i h1 h2=>by congr 1;omega⟩) ?_)
 · rintro x c st' hax hxn ⟨nq,rfl,S',hs',hq,he⟩
   have le:lo+x<=(arrOf st').size:=by rw[S'.size];omega
   have up:∀ xs:Array Keyed,(∀ k,KK κ xs k=KK κ (arrOf st') k) -> κ.kle (KK κ (arrOf st') (lo+x)) (KK κ (arrOf st') (lo+x - 1))->NiK κ xs lo (x+1):=fun xs hk hle i j h1 h2 h3=>by
    rw[hk,hk];by_cases e:j=lo+x
    · subst e
      by_cases e2:i=lo+x
      · subst e2;exact KeyOrd.kle_refl _
      exact KeyOrd.kle_trans hle (hs' i (lo+x - 1) h1 (by omega) (by omega))
    exact hs' i j h1 h2 (by omega)
   have one:∀(xs:Array Keyed) i,lo+(x+1) - (0+1)<=i->i < lo+(x+1)->KK κ xs i=KK κ xs (lo+(x+1) - 1):=fun xs i h1 h2=>by congr 1;omega
   have i1:lo+x < (arrOf st0).size:=by omega
   have i2:lo+x - 1 < (arrOf st0).size:=by omega
   refine wpS_bind (wpS_ltX F.hL S' F.hk F.gd (i:=lo+x) i1 i2 ?_);cases e:κ.blt (KK κ (arrOf st') (lo+x)) (KK κ (arrOf st') (lo+x - 1))with
   | true=>
     refine wpS_ite (fun _=>wpS_ite (fun g=>?_) (fun g=>?_)) (fun z=>absurd rfl z)
     · exact wpS_bind (wpS_reverse (wpS_pure ⟨0,rfl,S'.mir (by show lo<=lo+x - (nq+1);omega) (by show lo+x<=_;omega),up _ (eq_mir le he) (KeyOrd.kle_of_klt e),by omega,one _⟩))
     exact wpS_pure ⟨0,rfl,S',up _ (fun _=>rfl) (KeyOrd.kle_of_klt e),by omega,one _⟩
   | false=>
     refine wpS_bind (wpS_ltX F.hL S' F.hk F.gd (i:=lo+x - 1) i2 i1 ?_);cases e2:κ.blt (KK κ (arrOf st') (lo+x - 1)) (KK κ (arrOf st') (lo+x))with
     | true=>exact wpS_pure ⟨x,nq,rfl,hax,Nat.le_of_lt hxn,S',hs',hq,he⟩
     | false=>
       have eqx:KK κ (arrOf st') (lo+x)=KK κ (arrOf st') (lo+x - 1):=κ.total _ _ e e2;refine wpS_pure ⟨nq+1,rfl,S',up _ (fun _=>rfl) e2,by omega,fun i h1 h2=>?_⟩
       rw[show lo+(x+1) - 1=lo+x by omega]
       by_cases ei:i=lo+x
       · subst ei;rfl
       rw[eqx];exact he i (by omega) (by omega)
 · rintro c st' ⟨nq,rfl,S',hs',hq,he⟩
   rw[Nat.max_eq_right m2]at hs' hq he ⊢;exact⟨n,nq,rfl,m2,Nat.le_refl _,S',hs',hq,he⟩
 rintro c st' ⟨x,nq,rfl,x1,x2,S',hs',hq,he⟩;exact fin_ x nq st' S' x1 x2 hs' he hq
theorem wpS_count(F:CnF prog w A E s κ good kd lo n st0){Q:Option Nat->SortSt->Prop}(h1:1<=n)(q:∀ m st',SB lo st0 st'->1<=m->m<=n->SoK κ (arrOf st') lo m->Q (some m) st'):wpS (model prog w) A E s (countRun' lo n) Q st0:=by
 have hn:=F.hn;rw[countX_eq];have S0:=SB.rfl' lo st0;refine wpS_bind (wpS_asc F S0 (Nat.le_refl 1) h1 (fun i j a1 a2 a3=>by
  obtain rfl:i=j:=by omega
  exact KeyOrd.kle_refl _) fun m m1 m2 hs hor=>?_)
 refine wpS_ite (fun c=>wpS_pure (q m st0 S0 m1 m2 hs)) (fun c=>?_);have c:¬ m=n:=of_nbeq c;have lt:=hor.resolve_left c;have le0:lo+m<=(arrOf st0).size:=by omega
 have m3:m+1<=n:=by omega
 refine wpS_ite (fun g=>?_) (fun g=>?_)
 · refine wpS_bind (wpS_ltX F.hL S0 F.hk F.gd (i:=lo) (by omega) (by show lo+m - 1 < _;omega) ?_)
   cases er:κ.blt (KK κ (arrOf st0) lo) (KK κ (arrOf st0) (lo+m - 1))with
   | true=>exact wpS_pure (q m st0 S0 m1 m2 hs)
   | false=>
     have all:∀ k,lo<=k->k < lo+m->KK κ (arrOf st0) k=KK κ (arrOf st0) (lo+m - 1):=fun k k1 k2=>
      KeyOrd.kle_antisymm (hs k (lo+m - 1) k1 (by omega) (by omega)) (KeyOrd.kle_trans (show κ.kle (KK κ (arrOf st0) (lo+m - 1)) (KK κ (arrOf st0) lo)from er) (hs lo k (Nat.le_refl _) k1 k2))
     refine wpS_bind (wpS_reverse (wpS_descP F (S0.mir (i:=lo) (j:=lo+m) (Nat.le_refl _) le0) m3 (fun i j a1 a2 a3=>?_) q));show κ.kle (KK κ (mirror _ _ _ _) _) (KK κ (mirror _ _ _ _) _);rw[eq_mir le0 all,eq_mir le0 all];by_cases e:j=lo+m
     · subst e
       by_cases e2:i=lo+m
       · subst e2;exact KeyOrd.kle_refl _
       rw[all i a1 (by omega)];exact KeyOrd.kle_of_klt lt
     rw[all i a1 (by omega),all j (by omega) (by omega)];exact KeyOrd.kle_refl _
 have g:¬ m > 1:=g;obtain rfl:m=1:=by omega
 refine wpS_descP F S0 m3 (fun i j a1 a2 a3=>?_) q;by_cases e:i=j
 · subst e;exact KeyOrd.kle_refl _
 obtain rfl:i=lo:=by omega
 obtain rfl:j=i+1:=by omega
 exact KeyOrd.kle_of_klt lt
theorem wpS_binS(F:CnF prog w A E s κ good kd lo n st0){ok:Nat}{Q:Bool->SortSt->Prop}(S:SB lo st0 st)(h1:ok<=n)(hs:SoK κ (arrOf st) lo ok)
 (q:∀ st',SB lo st0 st'->SoK κ (arrOf st') lo n->Q true st'):wpS (model prog w) A E s (binarySort' lo n ok) Q st:=by
 have hn:=F.hn;rw[binarySort'_eq]
 dsimp only
 refine wpS_bind (wpS_mono (wpS_forRange (I:=fun k c st'=>c=(none,())/\SB lo st0 st'/\SoK κ (arrOf st') lo (min k n)) (Q:=fun c st'=>c=(none,())/\SB lo st0 st'/\SoK κ (arrOf st') lo n) ?_ ?_ ?_) ?_)
 · rintro k c st' a1 a2 ⟨rfl,S',so⟩
   rw[show min k n=k by omega]at so
   refine wpS_bind (wpS_mono (wpS_forRange (I:=fun x c st2=>st2=st' /\ ∃ l r,c=(none,l,r)/\l<=r/\r<=k/\r - l<=k - x/\(∀ i,lo<=i->i < lo+l -> κ.kle (KK κ (arrOf st') i) (KK κ (arrOf st') (lo+k)))/\(∀ i,lo+r<=i->i < lo+k -> κ.klt (KK κ (arrOf st') (lo+k)) (KK κ (arrOf st') i)))
    (Q:=fun c st2=>st2=st' /\ ∃ l r,c=(none,l,r)/\l<=k/\(∀ i,lo<=i->i < lo+l -> κ.kle (KK κ (arrOf st') i) (KK κ (arrOf st') (lo+k)))/\(∀ i,lo+l<=i->i < lo+k -> κ.klt (KK κ (arrOf st') (lo+k)) (KK κ (arrOf st') i))) ?_ ?_ ?_) ?_)
   · rintro x c st2 _ hx ⟨rfl,l,r,rfl,b1,b2,b3,b4,b5⟩
     dsimp only
     refine wpS_ite (fun g=>?_) (fun g=>?_)
     · obtain rfl:l=r:=by omega
       exact wpS_pure ⟨rfl,l,l,rfl,b2,b4,b5⟩
     refine wpS_bind (wpS_ltX F.hL S' F.hk F.gd (by omega) (by omega) ?_)
     dsimp only
     cases e:κ.blt (KK κ (arrOf st2) (lo+k)) (KK κ (arrOf st2) (lo+(l+r) / 2))with
     | true=>exact wpS_pure ⟨rfl,l,(l+r) / 2,rfl,by omega,by omega,by omega,b4,fun i c1 c2=>KeyOrd.klt_of_klt_of_kle e (so _ _ (by omega) c1 (by omega))⟩
     | false=>exact wpS_pure ⟨rfl,(l+r) / 2+1,r,rfl,by omega,by omega,by omega,fun i c1 c2=>KeyOrd.kle_trans (so i (lo+(l+r) / 2) c1 (by omega) (by omega)) e,b5⟩
   · rintro c st2 ⟨rfl,l,r,rfl,b1,b2,b3,b4,b5⟩
     obtain rfl:l=r:=by omega
     exact⟨rfl,l,l,rfl,b2,b4,b5⟩
   · exact⟨rfl,0,k,rfl,by omega,by omega,by omega,fun i c1 c2=>by omega,fun i c1 c2=>by omega⟩
   rintro c st2 ⟨rfl,l,r,rfl,b2,b4,b5⟩
   dsimp only
   rw[moveDown'_eq];refine wpS_bind (wpS_modify (wpS_pure ⟨rfl,S'.bub (by omega) (by omega) (by omega),?_⟩))
   rw[show min (k+1) n=k+1 by omega]
   have hz:lo+k < (arrOf st2).size:=by rw[S'.size];omega
   intro i j c1 c2 c3;show κ.kle (KK κ (bubble (arrOf st2) (lo+k) (lo+k - (lo+l))) i) (KK κ (bubble (arrOf st2) (lo+k) (lo+k - (lo+l))) j);rw[KK_bubble hz (by omega),KK_bubble hz (by omega),show lo+k - (lo+k - (lo+l))=lo+l by omega]
   repeat' split
   all_goals first
    | (exfalso;omega)
    | exact KeyOrd.kle_refl _
    | exact b4 _ (by omega) (by omega)
    | exact KeyOrd.kle_of_klt (b5 _ (by omega) (by omega))
    | exact so _ _ (by omega) (by omega) (by omega)
 · rintro c st' ⟨e,S',so⟩
   rw[show min (max (max ok 1) n) n=n by omega]at so
   exact⟨e,S',so⟩
 · refine⟨rfl,S,fun i j c1 c2 c3=>?_⟩
   by_cases e:ok=0
   · obtain rfl:i=j:=by omega
     exact KeyOrd.kle_refl _
   exact hs i j c1 c2 (by omega)
 rintro c st' ⟨rfl,S',so⟩;exact wpS_pure (q st' S' so)
end
section
variable{prog:Program}{w:World}{A:Around}{E:Value->Shared->Prop}{s:Shared}{κ:PyProof.Rows.KeyKind}{good:Keyed->Prop}{kd:SortKind}{a₀:Array Keyed}{st st':SortSt}{rs:List (List Keyed)}{rest:List Keyed}
theorem flat_le:∀{rs:List (List Keyed)},(∀ r∈rs,r≠[])->rs.length<=rs.flatten.length
 | [],_=>Nat.le_refl _
 | r::rs,h=>by
   have h1:=List.length_pos_iff.mpr (h r (List.mem_cons_self ..));have h2:=flat_le fun z hz=>h z (List.mem_cons_of_mem _ hz);rw[List.flatten_cons,List.length_append,List.length_cons];omega
theorem PD.psize(P:PD (kyK κ) good kd a₀ st rs rest):(pendingOf st).size=rs.length:=by
 have:=congrArg List.length P.pd;rw[List.length_map,rlay_len,Array.length_toList]at this;exact this
theorem PD.asize(P:PD (kyK κ) good kd a₀ st rs rest):rs.flatten.length+rest.length=a₀.size:=by
 rw[← P.pm.size_eq,← Array.length_toList,P.eq,List.length_append]
theorem two_of{rs:List (List Keyed)}{i:Nat}(h:i+1 < rs.length):∃ u a b v,rs=u++a::b::v/\u.length=i:=by
 refine⟨rs.take i,rs[i],rs[i+1],rs.drop (i+2),?_,by rw[List.length_take];omega⟩
 conv=>lhs;rw[← List.take_append_drop i rs]
 rw[List.drop_eq_getElem_cons (by omega),List.drop_eq_getElem_cons (by omega)]
theorem wpS_merge(hL:LtOk prog w A E s κ.toKeyOrd (kyK κ) good kd){i:Nat}{Q:Bool->SortSt->Prop}(P:PD (kyK κ) good kd a₀ st rs rest)(h:i+1 < rs.length)
 (q:∀ rs' st',PD (kyK κ) good kd a₀ st' rs' rest->rs'.length+1=rs.length->Q true st'):wpS (model prog w) A E s (mergeAt' i) Q st:=by
 obtain⟨u,a,b,v,rfl,rfl⟩:=two_of h;exact wpS_mergeAt hL P fun r st' P'=>q _ st' P' (by simp only[List.length_append,List.length_cons];omega)
theorem PD.run(P:PD (kyK κ) good kd a₀ st rs rest){n:Nat}(S:SB rs.flatten.length st st')(so:SoK κ (arrOf st') rs.flatten.length n)(n1:1<=n)(n2:rs.flatten.length+n<=a₀.size) :
 ∃ r rest',PD (kyK κ) good kd a₀ st' rs (r++rest')/\r.length=n/\Srd (kyK κ) r/\r≠[]:=by
 have size:(arrOf st').toList.length=a₀.size:=by rw[Array.length_toList,S.size,P.pm.size_eq]
 have e1:(arrOf st').toList.take rs.flatten.length=rs.flatten:=by
  refine List.ext_getElem? fun i=>?_;by_cases h:i < rs.flatten.length
  · rw[List.getElem?_take_of_lt h,Array.getElem?_toList,S.lw i h,← Array.getElem?_toList,P.eq,List.getElem?_append_left h]
  rw[List.getElem?_take,if_neg h,List.getElem?_eq_none (by omega)]
 have lr:(((arrOf st').toList.drop rs.flatten.length).take n).length=n:=by
  rw[List.length_take,List.length_drop,size];omega
 refine⟨((arrOf st').toList.drop rs.flatten.length).take n,((arrOf st').toList.drop rs.flatten.length).drop n,⟨S.pm.trans P.pm,S.kd.trans P.kd,S.fl.trans P.fl,?_,by rw[S.pd];exact P.pd,P.so,fun x hx=>P.gd x ((Array.perm_iff_toList_perm.mp S.pm).mem_iff.mp hx)⟩,lr,?_,?_⟩
 · rw[List.take_append_drop]
   conv=>lhs;rw[← List.take_append_drop rs.flatten.length (arrOf st').toList]
   rw[e1]
 · refine List.pairwise_iff_getElem.mpr fun i j hi hj hij=>?_
   rw[lr]at hi hj;have at_:∀ k (hk:k < (((arrOf st').toList.drop rs.flatten.length).take n).length),KK κ (arrOf st') (rs.flatten.length+k)=kyK κ (((arrOf st').toList.drop rs.flatten.length).take n)[k]:=fun k hk=>by
    refine KK_at ?_;rw[← Array.getElem?_toList,← List.getElem?_drop,← List.getElem?_take_of_lt (show k < n by omega)]
    exact List.getElem?_eq_getElem hk
   show κ.kle _ _;rw[← at_ i (by omega),← at_ j (by omega)]
   exact so _ _ (by omega) (by omega) (by omega)
 intro e;rw[e]at lr;simp at lr;omega
theorem PD.push{r rest':List Keyed}{pw lo n:Nat}(P:PD (kyK κ) good kd a₀ st rs (r++rest'))(so:Srd (kyK κ) r)(ne:r≠[])(hlo:rs.flatten.length=lo)(hn:r.length=n):PD (kyK κ) good kd a₀ (setPending st ((pendingOf st).push (lo,n,pw))) (rs++[r]) rest':=by
 subst hn;refine⟨P.pm,P.kd,P.fl,(by show(arrOf st).toList=_;rw[P.eq];simp),?_,fun z hz=>?_,P.gd⟩
 · show((pendingOf st).push _).toList.map _=_
   rw[Array.toList_push,List.map_append,P.pd,rlay_app,Nat.zero_add,hlo]
   rfl
 rcases List.mem_append.mp hz with y | y
 · exact P.so z y
 rw[List.mem_singleton.mp y];exact⟨so,ne⟩
theorem PD.pow(P:PD (kyK κ) good kd a₀ st rs rest)(i pw:Nat):PD (kyK κ) good kd a₀ (setPending st ((pendingOf st).modify i fun x=>(x.fst,x.2.fst,pw))) rs rest:=by
 refine⟨P.pm,P.kd,P.fl,P.eq,?_,P.so,P.gd⟩;show((pendingOf st).modify i _).toList.map _=_;rw[← P.pd];refine List.ext_getElem? fun k=>?_;rw[List.getElem?_map,List.getElem?_map,Array.getElem?_toList,Array.getElem?_toList,Array.getElem?_modify];split
 · cases (pendingOf st)[k]? <;> rfl
 rfl
noncomputable def mgF(size pw:Nat):StateT SortSt Sem (ForInStep (Option Unit×Unit)):=do
 let z ← get
 match if(pendingOf z).size > 1 then(pendingOf z)[(pendingOf z).size - 2]? else none with
 | some (_,_,od)=>
   if od<=pw then pure (.done (none,()))
   else do
    let b ← mergeAt' ((pendingOf z).size - 2)
    if(!b)=true then pure (.done (some (),()))else pure (.yield (none,()))
 | _=>pure (.done (none,()))
noncomputable def pushF(size lo n:Nat):StateT SortSt Sem (ForInStep (Option Unit×Nat)):=do
 let z ← get
 match(pendingOf z).back? with
 | some (s1,n1,_)=>do
   let c ← forIn [:size] ((none,()):Option Unit×Unit) fun _ _=>mgF size (power' size (2*s1+n1) (2*s1+n1+n1+n) size)
   match c.1 with
   | some r=>pure (.done (some r,lo))
   | none=>do
     modify fun s=>setPending s ((pendingOf s).modify ((pendingOf s).size - 1) fun x=>(x.fst,x.2.fst,power' size (2*s1+n1) (2*s1+n1+n1+n) size))
     modify fun s=>setPending s ((pendingOf s).push (lo,n,0))
     pure (.yield (none,lo+n))
 | _=>do
   modify fun s=>setPending s ((pendingOf s).push (lo,n,0))
   pure (.yield (none,lo+n))
noncomputable def runF(size:Nat)(c:Option Unit×Nat):StateT SortSt Sem (ForInStep (Option Unit×Nat)):=
 if c.2 ≥ size then pure (.done (none,c.2))
 else do
  let x ← countRun' c.2 (size - c.2)
  match x with
  | some found=>
    if found < minRun' size size 0 then do
     liftM (rule "list.sort.binary-insertion")
     let b ← binarySort' c.2 (min (size - c.2) (minRun' size size 0)) found
     if(!b)=true then pure (.done (some (),c.2))else pushF size c.2 (min (size - c.2) (minRun' size size 0))
    else pushF size c.2 found
  | _=>pure (.done (some (),c.2))
noncomputable def endF:StateT SortSt Sem (ForInStep (Option Unit×Unit)):=do
 let z ← get
 if(pendingOf z).size<=1 then pure (.done (none,()))
 else do
  let b ← mergeAt' (if Option.any (fun x=>decide (x < (pendingOf z)[(pendingOf z).size - 2+1]?.elim 0 fun x=>x.snd.fst)) (if(pendingOf z).size - 2 > 0 then Option.map (fun x=>x.snd.fst) (pendingOf z)[(pendingOf z).size - 2 - 1]? else none)=true then(pendingOf z).size - 2 - 1 else(pendingOf z).size - 2)
  if(!b)=true then pure (.done (some (),()))else pure (.yield (none,()))
theorem runsX_eq:sortRuns'=(do
 let z ← get
 let c ← forIn [:(arrOf z).size] ((none,0):Option Unit×Nat) fun _=>runF (arrOf z).size
 match c.1 with
 | some r=>pure r
 | none=>do
   let c ← forIn [:(arrOf z).size] ((none,()):Option Unit×Unit) fun _ _=>endF
   match c.1 with
   | some r=>pure r
   | none=>pure ()):=by kernel_rfl
theorem Srd.one:∀{rs:List (List Keyed)},(∀ r∈rs,Srd (kyK κ) r)->rs.length<=1->Srd (kyK κ) rs.flatten
 | [],_,_=>List.Pairwise.nil
 | [r],h,_=>by rw[List.flatten_singleton];exact h r (List.mem_singleton.mpr rfl)
 | _::_::_,_,h=>by simp at h
noncomputable def RnI(κ:PyProof.Rows.KeyKind)(good:Keyed->Prop)(kd:SortKind)(a₀:Array Keyed)(x:Nat)(c:Option Unit×Nat)(st':SortSt):Prop:=∃ lo rs rest,c=(none,lo)/\PD (kyK κ) good kd a₀ st' rs rest/\rs.flatten.length=lo/\(x<=lo∨a₀.size<=lo)
theorem wpS_push(hL:LtOk prog w A E s κ.toKeyOrd (kyK κ) good kd){r rest':List Keyed}{n x:Nat}{Q:ForInStep (Option Unit×Nat)->SortSt->Prop}(PR:PD (kyK κ) good kd a₀ st rs (r++rest'))(lr:r.length=n)(so:Srd (kyK κ) r)(ne:r≠[])(pr:x<=rs.flatten.length∨a₀.size<=rs.flatten.length)
 (q:∀ c st',RnI κ good kd a₀ (x+1) c st'->Q (.yield c) st'):wpS (model prog w) A E s (pushF a₀.size rs.flatten.length n) Q st:=by
 have n1:1<=n:=by rw[← lr];exact List.length_pos_iff.mpr ne
 have fl:∀{rs4:List (List Keyed)},rs4.flatten.length=rs.flatten.length->(rs4++[r]).flatten.length=rs.flatten.length+n:=fun h=>by
  rw[List.flatten_append,List.length_append,h];simp[lr]
 refine wpS_bind (wpS_get ?_);cases eb:(pendingOf st).back? with
 | none=>exact wpS_bind (wpS_modify (wpS_pure (q _ _ ⟨_,_,_,rfl,PR.push so ne rfl lr,fl rfl,by omega⟩)))
 | some bk=>
   obtain⟨s1,n2,pw1⟩:=bk;refine wpS_bind (wpS_mono (wpS_forRange (I:=fun x c st4=>c=(none,()) /\ ∃ rs4,PD (kyK κ) good kd a₀ st4 rs4 (r++rest')) (Q:=fun c st4=>c=(none,()) /\ ∃ rs4,PD (kyK κ) good kd a₀ st4 rs4 (r++rest')) ?_ (fun _ _ h=>h) ⟨rfl,rs,PR⟩) ?_)
   · rintro x4 c st4 _ _ ⟨rfl,rs4,P4⟩
     refine wpS_bind (wpS_get ?_);by_cases g:(pendingOf st4).size > 1
     · rw[if_pos g,Array.getElem?_eq_getElem (show(pendingOf st4).size - 2 < (pendingOf st4).size by omega)]
       refine wpS_ite (fun _=>?_) (fun _=>?_)
       · exact wpS_pure ⟨rfl,rs4,P4⟩
       refine wpS_bind (wpS_merge hL P4 (by have:=P4.psize;omega) fun rs5 st5 P5 _=>?_)
       exact wpS_pure ⟨rfl,rs5,P5⟩
     rw[if_neg g];exact wpS_pure ⟨rfl,rs4,P4⟩
   rintro c st4 ⟨rfl,rs4,P4⟩;have h4:=P4.asize;have h5:=PR.asize;have e:rs4.flatten.length=rs.flatten.length:=by omega
   exact wpS_bind (wpS_modify (wpS_bind (wpS_modify (wpS_pure (q _ _ ⟨_,_,_,rfl,(P4.pow _ _).push so ne e lr,fl e,by omega⟩)))))
theorem wpS_runs(hL:LtOk prog w A E s κ.toKeyOrd (kyK κ) good kd){Q:Unit->SortSt->Prop}(hk:kindOf st=kd)(hf:failedOf st=none)(hp:pendingOf st=#[])(gd:∀ x∈(arrOf st).toList,good x)
 (q:∀ st',(arrOf st').Perm (arrOf st)->failedOf st'=none->Srd (kyK κ) (arrOf st').toList->Q () st'):wpS (model prog w) A E s sortRuns' Q st:=by
 have P0:PD (kyK κ) good kd (arrOf st) st [] (arrOf st).toList:=⟨Array.Perm.refl _,hk,hf,rfl,by rw[hp];rfl,(fun r hr=>nomatch hr),gd⟩
 rw[runsX_eq];refine wpS_bind (wpS_get (wpS_bind (wpS_mono (wpS_forRange (I:=RnI κ good kd (arrOf st)) (Q:=fun c st'=>∃ lo rs,c=(none,lo)/\PD (kyK κ) good kd (arrOf st) st' rs []) ?_ ?_ ⟨0,[],_,rfl,P0,rfl,.inl (Nat.le_refl _)⟩) ?_)))
 · rintro x c st1 _ hx ⟨lo,rs,rest,rfl,P,rfl,pr⟩
   have sz:=P.asize;refine wpS_ite (fun g=>?_) (fun g=>?_)
   · have g:rs.flatten.length ≥ (arrOf st).size:=g
     obtain rfl:rest=[]:=List.length_eq_zero_iff.mp (by omega)
     exact wpS_pure ⟨_,rs,rfl,P⟩
   have g:¬ rs.flatten.length ≥ (arrOf st).size:=g;have es:(arrOf st1).size=(arrOf st).size:=P.pm.size_eq;refine wpS_bind (wpS_count ⟨hL,P.kd,P.gd,by show rs.flatten.length+_<=_;omega⟩ (by show 1<=_ - rs.flatten.length;omega) fun m st2 S2 m1 m2 so2=>?_)
   have m2:m<=(arrOf st).size - rs.flatten.length:=m2;refine wpS_ite (fun g2=>?_) (fun g2=>?_)
   · refine wpS_bind (wpS_lift (wpAny_rule ⟨rfl,?_⟩))
     have f1:m<=min ((arrOf st).size - rs.flatten.length) (minRun' (arrOf st).size (arrOf st).size 0):=by omega
     have f2:rs.flatten.length+min ((arrOf st).size - rs.flatten.length) (minRun' (arrOf st).size (arrOf st).size 0)<=(arrOf st).size:=by omega
     refine wpS_bind (wpS_binS ⟨hL,P.kd,P.gd,by rw[es];exact f2⟩ S2 f1 so2 fun st3 S3 so3=>?_)
     obtain⟨r,rest',PR,lr,so,ne⟩:=P.run S3 so3 (Nat.le_trans m1 f1) f2;exact wpS_push hL PR lr so ne pr fun c st' h=>h
   obtain⟨r,rest',PR,lr,so,ne⟩:=P.run S2 so2 m1 (by omega)
   exact wpS_push hL PR lr so ne pr fun c st' h=>h
 · rintro c st' ⟨lo,rs,rest,rfl,P,rfl,pr⟩
   have sz:=P.asize;obtain rfl:rest=[]:=List.length_eq_zero_iff.mp (by omega)
   exact⟨_,rs,rfl,P⟩
 rintro c st1 ⟨lo,rs,rfl,P⟩;have le:rs.length<=(arrOf st).size:=by
  have:=flat_le fun r hr=>(P.so r hr).2;have h2:=P.asize;rw[List.length_nil,Nat.add_zero]at h2;omega
 refine wpS_bind (wpS_mono (wpS_forRange (I:=fun x c st'=>c=(none,()) /\ ∃ rs,PD (kyK κ) good kd (arrOf st) st' rs []/\(rs.length<=1∨rs.length+x<=(arrOf st).size)) (Q:=fun c st'=>c=(none,()) /\ ∃ rs,PD (kyK κ) good kd (arrOf st) st' rs []/\rs.length<=1) ?_ ?_ ⟨rfl,rs,P,.inr (by omega)⟩) ?_)
 · rintro x c st2 _ hx ⟨rfl,rs2,P2,pr⟩
   have ps:=P2.psize;refine wpS_bind (wpS_get ?_);refine wpS_ite (fun g=>?_) (fun g=>?_)
   · exact wpS_pure ⟨rfl,rs2,P2,by omega⟩
   refine wpS_bind (wpS_merge hL P2 ?_ fun rs3 st3 P3 l3=>?_)
   · have le_:∀(c:Prop) [Decidable c] (n:Nat),(if c then n - 1 else n)<=n:=fun c _ n=>by split <;> omega
     exact Nat.lt_of_le_of_lt (Nat.succ_le_succ (le_ _ _)) (by omega)
   exact wpS_pure ⟨rfl,rs3,P3,by omega⟩
 · rintro c st2 ⟨rfl,rs2,P2,pr⟩
   exact⟨rfl,rs2,P2,by omega⟩
 rintro c st2 ⟨rfl,rs2,P2,l2⟩;refine wpS_pure (q st2 P2.pm P2.fl ?_);rw[P2.eq,List.append_nil];exact Srd.one (fun r hr=>(P2.so r hr).1) l2
end
section
variable{prog:Program}{w:World}{A:Around}{E:Value->Shared->Prop}{s:Shared}{κ:PyProof.Rows.KeyKind}{good:Keyed->Prop}{kd:SortKind}
noncomputable def kyV(κ:PyProof.Rows.KeyKind)(v:Value):κ.α:=(κ.keyOf v).getD κ.dflt
noncomputable def SrdV(κ:PyProof.Rows.KeyKind)(l:List Value):Prop:=l.Pairwise fun x y=>κ.kle (kyV κ x) (kyV κ y)
theorem out_of{vs:List Value}{xs:Array Keyed}(hp:xs.Perm (pairsOf vs))(hs:Srd (kyK κ) xs.toList):(xs.map (·.2)).toList.Perm vs/\SrdV κ (xs.map (·.2)).toList:=by
 have hl:xs.toList.Perm (vs.zip vs):=by rw[← pairsOf_toList];exact Array.perm_iff_toList_perm.mp hp
 have e1:(vs.zip vs).map Prod.snd=vs:=List.map_snd_zip (Nat.le_refl _);rw[Array.toList_map];refine⟨by have:=hl.map Prod.snd;rw[e1]at this;exact this,?_⟩
 refine List.pairwise_map.mpr (List.Pairwise.imp_of_mem (fun {x y} hx hy h=>?_) hs);have ex:=(mem_zip_self (hl.mem_iff.mp hx)).1;have ey:=(mem_zip_self (hl.mem_iff.mp hy)).1;have h:κ.kle (kyV κ x.1) (kyV κ y.1):=h;rw[ex,ey]at h;exact h
theorem Srd.short:∀{l:List Keyed},l.length < 2->Srd (kyK κ) l
 | [],_=>List.Pairwise.nil
 | [x],_=>List.pairwise_singleton _ _
 | _::_::_,h=>by simp at h;omega
noncomputable abbrev sortingH(h:Heap)(a:Addr)(vs:List Value):Heap:=((h.update a (Obj.mapSeq fun _=>#[])).push (seqObj "tuple" vs.toArray 0)).push (seqObj "list" #[] 0)
theorem list_sortG{a:Addr}{vs:List Value}{n:Nat}{P:PySem.Fin->Shared->Prop}(ho:s.heap.get? a=some (seqObj "list" vs.toArray n))(hz:vs.length<=sizeLine)
 (hK:2<=vs.length->wpAny (model prog w) A (keyKind' vs.toArray) (fun k s'=>s'={ s with heap:=sortingH s.heap a vs } /\ k=kd) E { s with heap:=sortingH s.heap a vs })
 (hL:LtOk prog w A E { s with heap:=sortingH s.heap a vs } κ.toKeyOrd (kyK κ) good kd) (gd:∀ v∈vs,good (v,v))
 (h:∀ out:Array Value,out.toList.Perm vs->SrdV κ out.toList->P (.done (.ret .none)) { s with heap:=sortedHeap s.heap a vs out }) :
 wpAny (model prog w) A (Builtin.«list.sort» ⟨[.ref a],[]⟩) P E s:=by
 rw[list_sort_plain];have ha:a < s.heap.objs.size:=Heap.lt_size ho;refine wpAny_bind (listItems_at ho rfl ?_);refine wpAny_bind (listUpdate_at ho rfl ?_ (by rw[List.size_toArray];exact hz))
 obtain⟨e1,h1⟩:∃ e1,(s.heap.update a (Obj.mapSeq fun _=>#[])).get? a=some (seqObj "list" #[] e1):=⟨_,get?_update_seq ho (fun _=>#[])⟩;refine wpAny_bind (seqEpoch_at h1 rfl ?_);refine wpAny_bind (wpAny_newTuple ?_ (by exact hz))
 refine wpAny_bind (wpAny_newList ?_);refine wpAny_holding ?_;have h6:(sortingH s.heap a vs).get? a=some (seqObj "list" #[] e1):=by
  rw[Heap.get?_push_ne _ _ _ (by rw[size_push',Heap.size_update];exact Nat.ne_of_lt (Nat.lt_succ_of_lt ha)),Heap.get?_push_ne _ _ _ (by rw[Heap.size_update];exact Nat.ne_of_lt ha)]
  exact h1
 show wpAny (model prog w) A _ P E { s with heap:=sortingH s.heap a vs }
 dsimp only
 have sz:vs.toArray.size=vs.length:=by simp
 have fin_:∀ xs:Array Keyed,xs.Perm (pairsOf vs)->Srd (kyK κ) xs.toList->P (.done (.ret .none)) { s with heap:=sortedHeap s.heap a vs (xs.map (·.2)) }:=fun xs p1 p2=>by
  obtain⟨q1,q2⟩:=out_of p1 p2;exact h _ q1 q2
 by_cases g:vs.toArray.size < 2
 · rw[if_pos g,if_pos g]
   refine wpAny_bind (wpAny_pure ?_);rw[StateT.run_pure];refine wpAny_bind (wpAny_pure ?_)
   dsimp only
   refine wpAny_bind (seqEpoch_at h6 rfl ?_);refine wpAny_bind (listUpdate_at h6 rfl ?_ (hsz2:=by rw[Array.size_map];show(pairsOf vs).size<=_;rw[pairsOf_size];omega))
   simp only[bne_self_eq_false,Bool.false_eq_true,if_false];refine wpAny_pure (fin_ (vs.toArray.zip vs.toArray) (Array.Perm.refl _) ?_);exact Srd.short (by rw[Array.length_toList];show(pairsOf vs).size < 2;rw[pairsOf_size];omega)
 rw[if_neg g,if_neg g];refine wpAny_bind (wpAny_mono (hK (by omega)) ?_ fun _ _ e=>e)
 rintro k s' ⟨rfl,rfl⟩;refine wpAny_bind (wpAny_mono (wpS_runs hL (st:=SortSt.mk' k (vs.toArray.zip vs.toArray) #[] 7 none)
  (Q:=fun _ st'=>(arrOf st').Perm (pairsOf vs)/\failedOf st'=none/\Srd (kyK κ) (arrOf st').toList) rfl rfl rfl (fun x hx=>?_) fun st' a1 a2 a3=>⟨a1,a2,a3⟩) ?_ fun _ _ e=>e)
 · have hx:x∈(pairsOf vs).toList:=hx
   rw[pairsOf_toList]at hx;obtain⟨e,m⟩:=mem_zip_self hx;obtain⟨x1,x2⟩:=x;cases e;exact gd _ m
 rintro⟨⟨⟩,st'⟩ s' ⟨rfl,hp,hf,hs⟩
 dsimp only
 refine wpAny_bind (seqEpoch_at h6 rfl ?_);refine wpAny_bind (listUpdate_at h6 rfl ?_ (hsz2:=by refine Nat.le_trans (Nat.le_of_eq ((Array.size_map ..).trans (hp.size_eq.trans (pairsOf_size _)))) ?_;omega))
 rw[hf];simp only[bne_self_eq_false,Bool.false_eq_true,if_false];exact wpAny_pure (fin_ _ hp hs)
theorem sortedC{r:Addr}{R:Heap->List Value->Prop}{κ:Heap->PyProof.Rows.KeyKind}{good:Heap->Keyed->Prop}{Q:Value->Shared->Prop}(hh:A.handled=none)
 (hC:∀(A':Around) (E':Value->Shared->Prop) (Q':List Value->Shared->Prop),A'.handled=none->(∀ h' tk acc,(∀ b o,s.heap.get? b=some o->h'.get? b=some o)->s.heap.objs.size<=h'.objs.size->R h' acc->acc.length<=sizeLine->Q' acc { s with heap:=h',toks:=tk })->wpAny (model prog w) A' (collect (.ref r)) Q' E' s)
 (hK:∀ h' acc (s':Shared),R h' acc->(∀ b o,h'.get? b=some o->s'.heap.get? b=some o)->2<=acc.length -> ∀ Q':SortKind->Shared->Prop,Q' kd s' -> ∀ A' E',wpAny (model prog w) A' (keyKind' acc.toArray) Q' E' s')
 (hL:∀ h' acc (s':Shared) A' E',R h' acc->(∀ b o,h'.get? b=some o->s'.heap.get? b=some o)->LtOk prog w A' E' s' (κ h').toKeyOrd (kyK (κ h')) (good h') kd) (gd:∀ h' acc,R h' acc -> ∀ v∈acc,good h' (v,v))
 (h:∀ h1 h' tk a acc (out:Array Value) e,R h1 acc->(∀ b o,s.heap.get? b=some o->h1.get? b=some o)->(∀ b o,h1.get? b=some o->h'.get? b=some o)->s.heap.objs.size<=h1.objs.size->h1.objs.size<=a->h'.get? a=some (seqObj "list" out e)->out.toList.Perm acc->SrdV (κ h1) out.toList->Q (.ref a) { s with heap:=h',toks:=tk }) :
 wpAny (model prog w) A (call (.builtin "sorted") [.ref r]) Q E s:=by
 refine Calls.call_function_entry kind_sorted plain_sorted entry_sorted (args_sorted1 _) ?_;unfold Builtin.«sorted»;refine wpAny_bind (m:=checkCount "sorted" 1 1 _) (wpAny_pure ?_);refine wpAny_bind (hC _ _ _ hh fun h' tk acc hk hsz hacc hl=>?_);refine wpAny_bind (wpAny_newList ?_ hl);have hoL:(h'.push (seqObj "list" acc.toArray 0)).get? h'.objs.size=some (seqObj "list" acc.toArray 0):=Heap.get?_push_size _ rfl;have kp:∀ b o,h'.get? b=some o->(sortingH (h'.push (seqObj "list" acc.toArray 0)) h'.objs.size acc).get? b=some o:=fun b o hb'=>by
  have lt:=Heap.lt_size hb';rw[Heap.get?_push_ne _ _ _ (by rw[size_push',Heap.size_update,size_push'];exact Nat.ne_of_lt (Nat.lt_succ_of_lt (Nat.lt_succ_of_lt lt))),Heap.get?_push_ne _ _ _ (by rw[Heap.size_update,size_push'];exact Nat.ne_of_lt (Nat.lt_succ_of_lt lt)),Heap.get?_update_other _ _ (Ne.symm (Nat.ne_of_lt lt))]
  exact Heap.get?_push_of_some _ hb'
 refine wpAny_bind (wpAny_holding (wpAny_call_entry slot_list_sort ⟨_,hoL,rfl⟩ entry_list_sort (list_sortG (κ:=κ h') (good:=good h') (kd:=kd) hoL hl (fun h2=>hK h' acc _ hacc kp h2 _ ⟨rfl,rfl⟩ _ _) (hL h' acc _ _ _ hacc kp) (gd h' acc hacc) fun out a1 a2=>⟨_,rfl,?_⟩) (args_list_sort _)));obtain⟨e,he⟩:=sortedHeap_at (out:=out) hoL;refine wpAny_pure ⟨_,rfl,h h' _ tk h'.objs.size acc out e hacc hk (fun b o hb'=>?_) hsz (Nat.le_refl _) he a1 a2⟩;have hlt:=Heap.lt_size hb';rw[sortedHeap_old (Nat.ne_of_lt hlt) (by rw[size_push'];exact Nat.lt_succ_of_lt hlt)]
 exact Heap.get?_push_of_some _ hb'
end
section
variable{prog:Program}{w:World}{A:Around}{E:Value->Shared->Prop}{s:Shared}
end
noncomputable def pairAt(h:Heap):Value->Option (Int×Int)
 | .ref a=>match h.get? a with
   | some o=>match o.data with
     | .seq xs _=>match xs.toList with
       | [.int x _,.int y _]=>some (x,y)
       | _=>none
     | _=>none
   | none=>none
 | _=>none
noncomputable def ltP(a b:Int×Int):Bool:=decide (a.1 < b.1∨(a.1=b.1/\a.2 < b.2))
noncomputable def leP(a b:Int×Int):Prop:=ltP b a=false
theorem leP.antisymm{a b:Int×Int}(h:leP a b)(g:leP b a):a=b:=by
 have h1:=of_decide_eq_false h;have g1:=of_decide_eq_false g;exact Prod.ext (by omega) (by omega)
noncomputable def κP(h:Heap):PyProof.Rows.KeyKind where
 α:=Int×Int
 blt:=ltP
 irrefl:=fun a=>decide_eq_false (by omega)
 trans:=fun a b c h1 h2=>by
  have:=of_decide_eq_true h1;have:=of_decide_eq_true h2;exact decide_eq_true (by omega)
 negTrans:=fun a b c h=>by
  have:=of_decide_eq_true h;by_cases g:a.1 < b.1∨(a.1=b.1/\a.2 < b.2)
  · exact .inl (decide_eq_true g)
  exact .inr (decide_eq_true (by omega))
 total:=fun a b h1 h2=>leP.antisymm (b:=b) h2 h1
 keyOf:=pairAt h
 dflt:=(0,0)
noncomputable def PairW(h:Heap)(v:Value)(p:Int×Int):Prop:=∃ a o n t u,v=.ref a/\h.get? a=some o/\o.cls=.type "tuple" /\ o.data=.seq #[.int p.1 t,.int p.2 u] n
theorem PairW.key{h:Heap}{v:Value}{p:Int×Int}(g:PairW h v p):pairAt h v=some p:=by
 obtain⟨a,o,n,t,u,rfl,e1,_,e2⟩:=g;unfold pairAt;simp only[e1,e2]
noncomputable def kP(h:Heap)(v:Value):Int×Int:=(pairAt h v).getD (0,0)
section
variable{prog:Program}{w:World}{A:Around}{E:Value->Shared->Prop}{s:Shared}{h:Heap}
noncomputable def goodP(h:Heap)(x:Keyed):Prop:=∃ p,PairW h x.1 p
theorem ltok_pair(hk:∀ b o,h.get? b=some o->s.heap.get? b=some o):LtOk prog w A E s (κP h).toKeyOrd (kyK (κP h)) (goodP h) (tuples' true):=by
 rintro⟨x1,x2⟩ ⟨y1,y2⟩ st Q ⟨p,gx⟩ ⟨q,gy⟩ hk' qq;have ex:kyK (κP h) (x1,x2)=p:=by show(pairAt h x1).getD _=_;rw[gx.key];rfl
 have ey:kyK (κP h) (y1,y2)=q:=by show(pairAt h y1).getD _=_;rw[gy.key];rfl
 rw[ex,ey]at qq;obtain⟨a,o,n,t,u,rfl,e1,_,e2⟩:=gx;obtain⟨a',o',n',t',u',rfl,e1',_,e2'⟩:=gy;rw[lt'_eq];refine wpS_bind (wpS_get ?_);rw[hk'];refine wpS_bind (wpS_lift (wpAny_attempt (W.kat_lt (hk _ _ e1) e2 (hk _ _ e1') e2' ?_)));show W.KatLex prog w A true false _ [(Value.int p.1 t,Value.int q.1 t'),(Value.int p.2 u,Value.int q.2 u')] 0 s;have fin:∀ b:Bool,b=ltP p q->wpS (model prog w) A E s (pure (some b)) Q st:=fun b e=>wpS_pure (by rw[e];exact qq)
 refine W.kat_cons (wpAny_eqBool_int ?_);refine W.kat_go (fun h1=>W.kat_yes ?_) (fun h1=>W.kat_no (oneLt_int ⟨rfl,?_⟩))
 · have h1:p.1=q.1:=by simpa using h1
   refine W.kat_cons (wpAny_eqBool_int ?_);refine W.kat_go (fun h2=>W.kat_yes (W.kat_nil ⟨rfl,?_⟩)) (fun h2=>W.kat_no (W.kat_one _ _ (lt_int ⟨rfl,?_⟩)))
   · have h2:p.2=q.2:=by simpa using h2
     exact fin _ (decide_eq_false (by omega)).symm
   refine fin _ ?_;show decide (p.2 < q.2)=decide _;rw[decide_eq_decide];omega
 have h1:¬ p.1=q.1:=by simpa using h1
 refine fin _ ?_;show decide (p.1 < q.1)=decide _;rw[decide_eq_decide];omega
theorem kind_pairs{acc:List Value}{ps:List (Int×Int)}(hP:Paired (PairW h) acc ps)(hk:∀ b o,h.get? b=some o->s.heap.get? b=some o)(h2:2<=acc.length){Q:SortKind->Shared->Prop}(q:Q (tuples' true) s):wpAny (model prog w) A (keyKind' acc.toArray) Q E s:=by
 have tp:∀{acc:List Value}{ps:List (Int×Int)},Paired (PairW h) acc ps -> ∃ fs:List Value,W.KatTups s.heap acc fs/\fs.length=acc.length /\ ∀ v∈fs,∃ n t,v=.int n t:=fun hP=>by
  induction hP with
  | nil=>exact⟨[],.nil,rfl,fun v hv=>nomatch hv⟩
  | cons g _ ih=>
    obtain⟨fs,a1,a2,a3⟩:=ih;obtain⟨a,o,n,t,u,rfl,e1,e2,e3⟩:=g;refine⟨_::fs,W.KatTups.cons (hk _ _ e1) e2 e3 rfl a1,by rw[List.length_cons,a2];rfl,fun v hv=>?_⟩
    rcases List.mem_cons.mp hv with z | z
    · exact⟨_,_,z⟩
    exact a3 v z
 obtain⟨fs,a1,a2,a3⟩:=tp hP;refine W.kat_kind (T:=.type "int") a1 (by omega) (fun v hv=>?_) rfl q
 obtain⟨n,t,rfl⟩:=a3 v hv;exact fun A Q E s _ q=>wpAny_pure q
end
noncomputable def PairV(H:Hp)(v:V)(p:Int×Int):Prop:=∃ a,v=.ref a/\H a=some (.tup [.int p.1,.int p.2])
noncomputable def toV:Value->V
 | .ref a=>.ref a
 | _=>.non
theorem PairV.rel{X:Cx}{pins:List (Addr×Obj)}{σ:L2.St}{H:Hp}{s:Shared}(I:L2.Inv X pins σ H s){x:V}{v:Value}{p:Int×Int}(h:PairV H x p)(r:RelV x v):PairW s.heap v p/\x=toV v:=by
 obtain⟨a,rfl,ha⟩:=h;obtain rfl:v=Value.ref a:=r;obtain⟨_,its,rv,o,e1,e2,n,e3⟩:=I.hok a _ ha;refine⟨?_,rfl⟩;cases rv with
 | cons r1 rv=>
   cases rv with
   | cons r2 rv=>
     cases rv;obtain⟨t,rfl⟩:=r1;obtain⟨u,rfl⟩:=r2;exact⟨a,o,n,t,u,rfl,e1,e2,e3⟩
theorem paired_of_all{α β γ:Type}{R:β -> γ -> Prop}{f:α -> β}{g:α -> γ}:∀{l:List α},(∀ x∈l,R (f x) (g x))->Paired R (l.map f) (l.map g)
 | [],_=>.nil
 | x::l,h=>.cons (h x List.mem_cons_self) (paired_of_all fun y hy=>h y (List.mem_cons_of_mem _ hy))
theorem pairs_lists{X:Cx}{pins:List (Addr×Obj)}{σ:L2.St}{H:Hp}{s:Shared}(I:L2.Inv X pins σ H s):∀{vs:List V}{its:List Value}{ps:List (Int×Int)},Vals vs its->Paired (PairV H) vs ps->Paired (PairW s.heap) its ps/\vs=its.map toV/\ps=its.map (kP s.heap) /\ ∀ v∈its,PairV H (toV v) (kP s.heap v)/\RelV (toV v) v
 | _,_,_,.nil,.nil=>⟨.nil,rfl,rfl,fun v hv=>nomatch hv⟩
 | _,_,_,.cons (a:=x) (b:=v) r rs,.cons (b:=p) g gs=>by
   obtain⟨a1,a2,a3,a4⟩:=pairs_lists I rs gs;obtain⟨b1,b2⟩:=PairV.rel I g r;have ek:p=kP s.heap v:=by show p=(pairAt s.heap v).getD _;rw[b1.key];rfl
   refine⟨.cons b1 a1,by rw[a2,b2];rfl,by rw[a3,ek];rfl,fun u hu=>?_⟩
   rcases List.mem_cons.mp hu with z | z
   · rw[z,← ek,← b2]
     exact⟨g,r⟩
   exact a4 u z
theorem call_sortedLP{X:Cx}:CallR X (.builtin "sorted") (fun xs H Q=>∃(l:Addr) (vs:List V) (ps:List (Int×Int)),xs=[.ref l]/\H l=some (.lst vs)/\Paired (PairV H) vs ps/\X.calm=true /\ ∀(p:Addr) (ws:List V) (qs:List (Int×Int)),H p=none->ws.Perm vs->Paired (PairV H) ws qs->qs.Perm ps->qs.Pairwise leP->Q (.ref p) (upd H p (.lst ws))):=by
 intro pins s σ H xs us Q I rr h;obtain⟨l,vs,ps,rfl,hl,hp,hc,q⟩:=h;obtain⟨u,rfl,rx⟩:=vals1 rr;cases rx;obtain⟨its,r,pl,z⟩:=I.list (SqL.of hl);have hlen:=r.length;obtain⟨a1,a2,a3,a4⟩:=pairs_lists I r hp;have hL:s.heap.IsList l its.toArray:=pl.isList;have hz:its.length<=sizeLine:=by omega
 refine sortedC (κ:=fun _=>κP s.heap) (good:=fun _=>goodP s.heap) (kd:=tuples' true) (R:=fun h' acc=>acc=its /\ ∀ b o,s.heap.get? b=some o->h'.get? b=some o) (I.ok.hd hc) (fun A' E' Q' hA h=>?_) (fun h' acc s' hI hk h2 Q' q' A' E'=>?_) (fun h' acc s' A' E' hI hk=>ltok_pair fun b o e=>hk _ _ (hI.2 _ _ e)) (fun h' acc hI v hv=>?_) fun h1 h' tk b acc out e hI hk1 hk2 hs1 hb ho b1 b2=>?_
 · refine collect_list hL (h _ _ its (fun b o eb=>?_) ?_ ⟨rfl,fun b o eb=>?_⟩ hz) hz
   · rw[Heap.get?_update_other _ _ (Ne.symm (Nat.ne_of_lt (Heap.lt_size eb)))]
     exact Heap.get?_push_of_some _ eb
   · rw[Heap.size_update,size_push']
     exact Nat.le_succ _
   rw[Heap.get?_update_other _ _ (Ne.symm (Nat.ne_of_lt (Heap.lt_size eb)))];exact Heap.get?_push_of_some _ eb
 · obtain⟨rfl,hk3⟩:=hI
   exact kind_pairs a1 (fun b o e=>hk _ _ (hk3 _ _ e)) h2 q'
 · obtain⟨rfl,hk3⟩:=hI
   obtain⟨x,hx⟩:=List.mem_iff_getElem?.mp hv;obtain⟨p,_,hp⟩:=paired_get a1 hx;exact⟨p,hp⟩
 obtain⟨rfl,hk3⟩:=hI;have hv:∀ v∈out.toList,PairV H (toV v) (kP s.heap v)/\RelV (toV v) v:=fun v hv=>a4 v (b1.mem_iff.mp hv);have rv:Vals (out.toList.map toV) (out.toList.map id):=paired_of_all fun v h=>(hv v h).2;rw[List.map_id]at rv;have hlen2:(out.toList.map toV).length<=sizeLine:=by rw[List.length_map,b1.length_eq];exact hz
 refine⟨.ref b,_,I.laid (t':=tk) (o:=.lst (out.toList.map toV)) (fun c o e=>hk2 c o (hk1 c o e)) (Nat.le_trans hs1 hb) ⟨hlen2,out.toList,e,rv,by rw[Array.toArray_toList];exact ho⟩,rfl,q b _ (out.toList.map (kP s.heap)) (I.hok.fresh (Nat.le_trans hs1 hb)) ?_ (paired_of_all fun v h=>(hv v h).1) ?_ ?_⟩
 · rw[a2]
   exact b1.map _
 · rw[a3]
   exact b1.map _
 exact List.pairwise_map.mpr b2
section
variable{prog:Program}{w:World}{A:Around}{E:Value->Shared->Prop}{s:Shared}
end
theorem sorted_one:∀{a b:List (Int×Int)},a.Pairwise leP->b.Pairwise leP->a.Perm b->a=b
 | [],b,_,_,p=>(List.nil_perm.mp p).symm
 | x::a,[],_,_,p=>(List.perm_nil.mp p)
 | x::a,y::b,ha,hb,p=>by
   have h1:=List.pairwise_cons.mp ha;have h2:=List.pairwise_cons.mp hb;have e:x=y:=by
    have hx:=p.mem_iff.mp (List.mem_cons_self (a:=x));have hy:=p.mem_iff.mpr (List.mem_cons_self (a:=y));rcases List.mem_cons.mp hx with z | z
    · exact z
    rcases List.mem_cons.mp hy with z' | z'
    · exact z'.symm
    exact(h1.1 y z').antisymm (h2.1 x z)
   subst e;rw[sorted_one h1.2 h2.2 (List.Perm.cons_inv p)]
theorem sub_perm{α:Type}[DecidableEq α]:∀{a b:List α},a.Nodup->(∀ x∈a,x∈b)->b.length<=a.length->a.Perm b
 | [],b,_,_,h=>by
   have:b=[]:=List.length_eq_zero_iff.mp (Nat.le_zero.mp h);rw[this]
 | x::a,b,nd,hs,h=>by
   have hx:=hs x List.mem_cons_self;obtain⟨n1,n2⟩:=List.nodup_cons.mp nd;have p:=List.perm_cons_erase hx;refine(List.Perm.cons x (sub_perm n2 (fun y hy=>(List.mem_erase_of_ne fun z:y=x=>n1 (by rw[← z];exact hy)).mpr (hs y (List.mem_cons_of_mem _ hy))) ?_)).trans p.symm
   have:=p.length_eq;rw[List.length_cons]at this h;omega
theorem sz_mul{s:Nat}(h:isSize s):(65536:Int) / (s:Int)*(s:Int)=65536/\0 < (65536:Int) / (s:Int):=by
 unfold isSize at h;simp only[List.mem_cons,List.not_mem_nil,or_false]at h;rcases h with rfl | rfl | rfl | rfl | rfl | rfl | rfl | rfl | rfl | rfl | rfl <;> decide
theorem sz_lt{s:Nat}(h:isSize s):4<=s/\s<=4096:=by
 unfold isSize at h;simp only[List.mem_cons,List.not_mem_nil,or_false]at h;omega
theorem pt16(k:Int):0<=pt k 16/\pt k 16 < 65536:=by
 have:0<=pt k 16/\pt k 16<=65535:=by
  have:=pt_range k 16;have e:(2:Int) ^ 16=65536:=rfl;omega
 omega
structure StB(s:Nat)(p c:Int):Prop where
 e:pt p 16=c
 al:c % (65536 / (s:Int))=0
 c0:0<=c/\c+65536 / (s:Int)<=65536
 p0:pt c 16=p
 half:pt (p+s) 16=c+65536 / (s:Int) / 2
 w2:65536 / (s:Int) / 2*2=65536 / (s:Int)
 w3:65536 / (2*(s:Int))=65536 / (s:Int) / 2
theorem StB.of{s:Nat}{p:Int}(h:isSize s)(p0:0<=p)(p1:p < s):StB s p (pt p 16):=by
 obtain⟨c0,c1⟩:=pt16 p;have B:=Bits.of h c0 c1;obtain⟨z1,z2⟩:=sz_lt h;have e:pt (pt p 16) 16=p:=by
  rw[pt_inv];exact Int.emod_eq_of_lt p0 (by show p < 65536;omega)
 have ep:placeA s (pt p 16)=p:=by
  show pt (pt p 16) 16 % (s:Int)=p;rw[e];exact Int.emod_eq_of_lt p0 p1
 rw[ep]at B;have h4:=B.p4;have h0:=B.f0;have a0:pt p 16 % (65536 / (s:Int))=0:=by omega
 rw[a0,Int.sub_zero]at B;exact⟨rfl,a0,by have:=B.f0;omega,e,B.p5,B.w2,by rw[Int.mul_comm];exact B.w3⟩
noncomputable def st3(s:Nat)(p:Int):Int×Int:=(pt p 16,pt p 16+65536 / (s:Int) - 1)
noncomputable def run3(s:Nat)(n:Nat):List (Int×Int):=(List.range n).map fun j:Nat=>((j:Int)*(65536 / (s:Int)),(j:Int)*(65536 / (s:Int))+65536 / (s:Int) - 1)
theorem run3_sorted{s n:Nat}(h:isSize s):(run3 s n).Pairwise leP:=by
 obtain⟨_,w0⟩:=sz_mul h;refine List.pairwise_map.mpr (List.pairwise_iff_getElem.mpr fun i j hi hj hij=>?_);rw[List.getElem_range,List.getElem_range];have:=Int.mul_lt_mul_of_pos_right (show(i:Int) < (j:Int) by omega) w0
 exact decide_eq_false (by show ¬ (_ < _∨_);generalize (i:Int)*(65536 / (s:Int))=a at *;generalize (j:Int)*(65536 / (s:Int))=b at *;omega)
theorem st3_perm{s:Nat}(h:isSize s):((List.range s).map fun p:Nat=>st3 s (p:Int)).Perm (run3 s s):=by
 obtain⟨h1,w0⟩:=sz_mul h;refine(sub_perm ?_ (fun x hx=>?_) ?_).symm
 · refine List.pairwise_map.mpr (List.pairwise_iff_getElem.mpr fun i j hi hj hij e=>?_)
   rw[List.getElem_range,List.getElem_range]at e;have:=Int.mul_lt_mul_of_pos_right (show(i:Int) < (j:Int) by omega) w0
   have:=congrArg Prod.fst e
   dsimp only at this
   omega
 · obtain⟨j,hj,rfl⟩:=List.mem_map.mp hx
   have hj:=List.mem_range.mp hj;have h3:((j:Int)+1)*(65536 / (s:Int))<=(s:Int)*(65536 / (s:Int)):=Int.mul_le_mul_of_nonneg_right (by omega) (by omega)
   rw[Int.add_mul,Int.one_mul,Int.mul_comm (s:Int),h1]at h3;have h5:0<=(j:Int)*(65536 / (s:Int)):=Int.mul_nonneg (by omega) (by omega)
   have B:=Bits.of h h5 (show(j:Int)*(65536 / (s:Int)) < 65536 by omega)
   have a0:(j:Int)*(65536 / (s:Int)) % (65536 / (s:Int))=0:=Int.mul_emod_left _ _;rw[a0,Int.sub_zero]at B;obtain⟨q0,q1⟩:=placeA_lt (show 0 < s by have:=sz_lt h;omega) ((j:Int)*(65536 / (s:Int)))
   refine List.mem_map.mpr ⟨(placeA s ((j:Int)*(65536 / (s:Int)))).toNat,List.mem_range.mpr (by omega),?_⟩
   rw[show(((placeA s ((j:Int)*(65536 / (s:Int)))).toNat:Nat):Int)=placeA s ((j:Int)*(65536 / (s:Int))) by omega]
   unfold st3;rw[B.p4]
 unfold run3;rw[List.length_map,List.length_map];exact Nat.le_refl _
theorem beside{s:Nat}{mk:Int}(h:isSize s)(m0:0<=mk):¬ (pt ((mk % s+1) % s) 16<=pt mk 16/\pt mk 16<=pt ((mk % s+1) % s) 16+65536 / (s:Int) - 1):=by
 rintro⟨b1,b2⟩;obtain⟨a1,a2⟩:=pt_in (.inl h) m0;obtain⟨z1,z2⟩:=sz_lt h;obtain⟨_,w0⟩:=sz_mul h;have q0:0<=mk % (s:Int):=Int.emod_nonneg _ (by omega)
 have q1:mk % (s:Int) < s:=Int.emod_lt_of_pos _ (by omega)
 have r0:0<=(mk % (s:Int)+1) % (s:Int):=Int.emod_nonneg _ (by omega)
 have r1:(mk % (s:Int)+1) % (s:Int) < s:=Int.emod_lt_of_pos _ (by omega)
 have A:=StB.of h q0 q1;have B:=StB.of h r0 r1;have ne:(mk % (s:Int)+1) % (s:Int)≠mk % (s:Int):=by
  intro e;by_cases z:mk % (s:Int)+1 < s
  · rw[Int.emod_eq_of_lt (by omega) z]at e
    omega
  have:mk % (s:Int)+1=s:=by omega
  rw[this,Int.emod_self]at e;omega
 have al1:=A.al;have al2:=B.al;have e1:=Int.mul_ediv_add_emod (pt (mk % (s:Int)) 16) (65536 / (s:Int));have e2:=Int.mul_ediv_add_emod (pt ((mk % (s:Int)+1) % (s:Int)) 16) (65536 / (s:Int));rw[al1,Int.add_zero]at e1;rw[al2,Int.add_zero]at e2;have ec:pt (mk % (s:Int)) 16=pt ((mk % (s:Int)+1) % (s:Int)) 16:=by
  rw[← e1,← e2];rw[← e1]at a1 a2;rw[← e2]at b1 b2;generalize pt (mk % (s:Int)) 16 / (65536 / (s:Int))=x at *;generalize pt ((mk % (s:Int)+1) % (s:Int)) 16 / (65536 / (s:Int))=y at *;generalize (65536:Int) / (s:Int)=w at *;generalize pt mk 16=p at *;have hxy:x=y:=by
   refine Classical.byContradiction fun n=>?_;rcases Int.lt_or_gt_of_ne n with z | z
   · have:=Int.mul_le_mul_of_nonneg_left (show x+1<=y by omega) (show 0<=w by omega)
     rw[Int.mul_add,Int.mul_one]at this;omega
   have:=Int.mul_le_mul_of_nonneg_left (show y+1<=x by omega) (show 0<=w by omega)
   rw[Int.mul_add,Int.mul_one]at this;omega
  rw[hxy]
 have f1:=A.p0;have f2:=B.p0;rw[ec,f2]at f1;exact ne f1
end SW
namespace K
open PySem PySem.Spec PyProof.Rows L2 SW
end K
namespace SW
open PySem PySem.Spec PyProof.Rows L2
theorem wVarA{σ:L2.St}{H:Hp}{Q:VK}{v:V}{i:Nat}(h:Q v H)(e:σ[i]?=some (some v):=by with_unfolding_all exact rfl):tVar i σ H Q:=⟨v,e,h⟩
theorem wModA{H:Hp}{Q:VK}{g:Int->Int->V}{i j:Int}(h:Q (g i j) H)(c:0 < j:=by with_unfolding_all omega):rI (fun _ j=>0 < j) g (.int i) (.int j) H Q:=wMod c h
theorem wDivLA{H:Hp}{Q:VK}{g:Int->Int->V}{i j:Int}(h:Q (g i j) H)(c:0 < j/\j < 18446744073709551616:=by with_unfolding_all omega):rI CDivL g (.int i) (.int j) H Q:=wDivL c h
theorem wMulA{H:Hp}{Q:VK}{g:Int->Int->V}{i j:Int}(h:Q (g i j) H)(c:(-18446744073709551616 < i/\i < 18446744073709551616)∨(-18446744073709551616 < j/\j < 18446744073709551616):=by with_unfolding_all omega):rI CMul g (.int i) (.int j) H Q:=wMul c h
theorem wShrA{H:Hp}{Q:VK}{g:Int->Int->V}{i j:Int}(h:Q (g i j) H)(c:0<=j:=by with_unfolding_all omega):rI (fun _ j=>0<=j) g (.int i) (.int j) H Q:=wShr c h
theorem wPowA{H:Hp}{Q:VK}{g:Int->Int->V}{i j:Int}(h:Q (g i j) H)(c:0<=j/\j<=1000000/\i.natAbs < 2 ^ 64:=by with_unfolding_all decide):rI CPow g (.int i) (.int j) H Q:=wPow c h
theorem wIxLA{K:W.Frag}{H:Hp}{Q:VK}{v:V}{p:Addr}{xs:List V}{i:Int}(h:Q v H)(e:H p=some (.lst xs):=by first | with_reducible assumption | exact upd_same)(a:atI xs i=some v:=by with_unfolding_all exact rfl):rIxL K (.ref p) (.int i) H Q:=wIxL e a h
theorem wIxTA{K:W.Frag}{H:Hp}{Q:VK}{v:V}{p:Addr}{xs:List V}{i:Int}(h:Q v H)(e:H p=some (.tup xs):=by first | with_reducible assumption | exact upd_same)(a:atI xs i=some v:=by with_unfolding_all exact rfl):rIxT K (.ref p) (.int i) H Q:=wIxT e a h
theorem wSetLA{H:Hp}{v:V}{p:Addr}{xs:List V}{i:Int}{j:Nat}{Q:Hp->Prop}(h:Q (upd H p (.lst (xs.set j v))))(e:H p=some (.lst xs):=by first | with_reducible assumption | exact upd_same)(hj:ixN xs.length i=some j:=by with_unfolding_all exact rfl):rSetL (.ref p) (.int i) v H Q:=wSetL e hj h
theorem wGoA{N N':L2.St->Hp->Prop}{σ:L2.St}{H:Hp}(h:N' σ H)(e:N=N':=by with_reducible assumption):N σ H:=wGo e h
end SW
namespace K
noncomputable section
open PySem PySem.Spec PyProof.Rows L2 SW
local macro_rules | `(tactic| walk_at "W0")=>do
 let h ← `(?_)
 let l ← `(fun _ _=>?_)
 let t ← ("wCons wNil wVarA".splitOn " ").foldrM (fun r t=>`(tactic| first | with_reducible refine $(Lean.mkIdent (Lean.Name.mkStr `SW r)) $(if r == "wSeqC" || r == "wCut" then l else h) | $t:tactic)) (← `(tactic| fail))
 `(tactic| repeat $t:tactic)
local macro_rules | `(tactic| walk_at "W1")=>do
 let h ← `(?_)
 let l ← `(fun _ _=>?_)
 let t ← ("wC wName wGoA".splitOn " ").foldrM (fun r t=>`(tactic| first | with_reducible refine $(Lean.mkIdent (Lean.Name.mkStr `SW r)) $(if r == "wSeqC" || r == "wCut" then l else h) | $t:tactic)) (← `(tactic| fail))
 `(tactic| repeat $t:tactic)
local macro_rules | `(tactic| walk_at "S")=>do
 let h ← `(?_)
 let l ← `(fun _ _=>?_)
 let t ← ("wInt1 wGoA".splitOn " ").foldrM (fun r t=>`(tactic| first | with_reducible refine $(Lean.mkIdent (Lean.Name.mkStr `SW r)) $(if r == "wSeqC" || r == "wCut" then l else h) | $t:tactic)) (← `(tactic| fail))
 return t
local macro_rules | `(tactic| walk_at "S")=>do
 let h ← `(?_)
 let l ← `(fun _ _=>?_)
 let t ← ("wDrop wNext wFor wIList wRng1 wOr wChain wComp".splitOn " ").foldrM (fun r t=>`(tactic| first | with_reducible refine $(Lean.mkIdent (Lean.Name.mkStr `SW r)) $(if r == "wSeqC" || r == "wCut" then l else h) | $t:tactic)) (← `(tactic| fail))
 return t
local macro_rules | `(tactic| walk_at "S")=>do
 let h ← `(?_)
 let l ← `(fun _ _=>?_)
 let t ← ("wSetLA wNil wCons wLst wTup wCall wCB wRet".splitOn " ").foldrM (fun r t=>`(tactic| first | with_reducible refine $(Lean.mkIdent (Lean.Name.mkStr `SW r)) $(if r == "wSeqC" || r == "wCut" then l else h) | $t:tactic)) (← `(tactic| fail))
 return t
local macro_rules | `(tactic| walk_at "S")=>do
 let h ← `(?_)
 let l ← `(fun _ _=>?_)
 let t ← ("wTest wB wNot wNotV wBl wIxLA wIxTA wSub".splitOn " ").foldrM (fun r t=>`(tactic| first | with_reducible refine $(Lean.mkIdent (Lean.Name.mkStr `SW r)) $(if r == "wSeqC" || r == "wCut" then l else h) | $t:tactic)) (← `(tactic| fail))
 return t
local macro_rules | `(tactic| walk_at "S")=>do
 let h ← `(?_)
 let l ← `(fun _ _=>?_)
 let t ← ("wModA wDivLA wMulA wShrA wPowA wEqI wNeI wIfS".splitOn " ").foldrM (fun r t=>`(tactic| first | with_reducible refine $(Lean.mkIdent (Lean.Name.mkStr `SW r)) $(if r == "wSeqC" || r == "wCut" then l else h) | $t:tactic)) (← `(tactic| fail))
 return t
local macro_rules | `(tactic| walk_at "S")=>do
 let h ← `(?_)
 let l ← `(fun _ _=>?_)
 let t ← ("wSeqC wCut wAsg wName wOp wC wVarA wI0".splitOn " ").foldrM (fun r t=>`(tactic| first | with_reducible refine $(Lean.mkIdent (Lean.Name.mkStr `SW r)) $(if r == "wSeqC" || r == "wCut" then l else h) | $t:tactic)) (← `(tactic| fail))
 return t
local macro_rules | `(tactic| walk_at "W")=>`(tactic| repeat walk_at "S")
def top(i:Nat):Stmt:=PySem.Challenge.pw_slowshift_k03_whole_points_are_parted.main.body.getD i (.Pass ⟨0,0,0,0⟩)
abbrev z7_:Stmt:=(top 3)
theorem z18_:FnScope ["key","mixer"] ["key","mixer"] (defScope z7_):=SW.fs
abbrev z8_:Stmt:=(top 4)
theorem z19_:FnScope ["mark","size"] ["mark","size"] (defScope z8_):=SW.fs
abbrev z9_:Stmt:=(top 5)
theorem z20_:FnScope ["mark","point","bit"] ["mark"] (defScope z9_):=SW.fs
abbrev z10_:Stmt:=(top 6)
theorem z21_:FnScope ["place","size","first"] ["place","size"] (defScope z10_):=SW.fs
abbrev z5_:Stmt:=(top 8)
theorem z16_:FnScope ["cell","low"] ["cell"] (defScope z5_):=SW.fs
abbrev z6_:Stmt:=(top 9)
theorem z17_:FnScope ["row","many","got"] ["row","many"] (defScope z6_):=SW.fs
abbrev z3_:Stmt:=(top 10)
theorem z14_:FnScope ["row","some"] ["row"] (defScope z3_):=SW.fs
abbrev z1_:Stmt:=(top 11)
theorem z12_:FnScope ["row","some"] ["row"] (defScope z1_):=SW.fs
abbrev z4_:Stmt:=(top 12)
theorem z15_:FnScope ["size","some","at","first","last","place","one","other"] ["size"] (defScope z4_):=SW.fs
abbrev z2_:Stmt:=(top 13)
theorem z13_:FnScope ["mark","size","place","first","last","point","beside"] ["mark","size"] (defScope z2_):=SW.fs
abbrev z0_:Stmt:=(top 14)
theorem z11_:FnScope ["script","cell","row","size","mixer","mark"] ["script"] (defScope z0_):=SW.fs
structure Gs(mg:Str->Option Value):Prop where
 c_MARK_BITS:∃ t,mg "MARK_BITS"=some (.int 16 t)
 c_MARKS:∃ t,mg "MARKS"=some (.int 65536 t)
 b_int:mg "int"=none
 b_range:mg "range"=none
 b_sorted:mg "sorted"=none
section
variable{P:Program}{w:World}{K:W.Frag}{mg:Str->Option Value}{base:Heap}
theorem q8_(d:Dfn K mg "mark_of" z7_ ["key","mixer"])(g:Gs mg):Fn P w K mg base "mark_of" 1 ["key","mixer"] spMark:=by
 refine d.fn z18_ (fun vs H Q E h=>?_) (fun f cdv A outer s H vs Q E hr h=>?_)
 · obtain⟨k,t,f,m,rfl,_⟩:=h
   rfl
 obtain⟨k,t,f,m,rfl,ht,hf,q⟩:=h;refine⟨_,(B.sone (B.ret (B.op op_mod (B.op op_add (B.op op_mul (B.v 0) (B.ix ix_tup (B.v 1) B.int)) (B.ix ix_tup (B.v 1) B.int)) (B.gint g.c_MARKS)))),?_⟩;walk_at "W";exact q
theorem q12_(d:Dfn K mg "place_of" z8_ ["mark","size"]):Fn P w K mg base "place_of" 1 ["mark","size"] spPlace:=by
 refine d.fn z19_ (fun vs H Q E h=>?_) (fun f cdv A outer s H vs Q E hr h=>?_)
 · obtain⟨k,t,rfl,_⟩:=h
   rfl
 obtain⟨m,z,rfl,hz,q⟩:=h;refine⟨_,(B.sone (B.ret (B.op op_mod (B.v 0) (B.v 1)))),?_⟩;walk_at "W";exact q
theorem q14_(d:Dfn K mg "point_of" z9_ ["mark"])(g:Gs mg):Fn P w K mg base "point_of" 1 ["mark"] spPoint:=by
 refine d.fn z20_ (fun vs H Q E h=>?_) (fun f cdv A outer s H vs Q E hr h=>?_)
 · obtain⟨k,rfl,_⟩:=h
   rfl
 obtain⟨m,rfl,q⟩:=h;refine⟨_,(B.scons (B.set 1 z20_.nd B.int)
  (B.scons (B.fors (B.irange g.b_range (B.cons (B.gint g.c_MARK_BITS) B.nil)) (B.gname (i:=2) z20_.nd) (B.sone (B.set 1 z20_.nd (B.op op_add (B.op op_mul (B.v 1) B.int) (B.op op_mod (B.op op_shr (B.v 0) (B.v 2)) B.int)))))
  (B.sone (B.ret (B.v 1))))),?_⟩
 walk_at "W";refine⟨16,rfl,by decide,by decide,for_range (n:=16) (fun i σ H'=>∃ v,σ=[some (.int m),some (.int (pt m i)),v]/\H'=H) ⟨none,rfl,rfl⟩ ?_ ?_⟩
 · rintro i σ H' hi ⟨v,rfl,rfl⟩
   have e:(0+(i:Int)).toNat=i:=by omega
   walk_at "W";exact⟨_,by rw[e];rfl,rfl⟩
 rintro σ H' ⟨v,rfl,rfl⟩;walk_at "W";exact q
theorem q17_(d:Dfn K mg "stretch_of" z10_ ["place","size"])(g:Gs mg)(q15_:Fn P w K mg base "point_of" 1 ["mark"] spPoint):Fn P w K mg base "stretch_of" 2 ["place","size"] spStretch:=by
 refine d.fn z21_ (fun vs H Q E h=>?_) (fun f cdv A outer s H vs Q E hr h=>?_)
 · obtain⟨p,z,rfl,_⟩:=h
   rfl
 obtain⟨p,z,rfl,hz,q⟩:=h;refine⟨_,(B.scons (B.set 2 z21_.nd (B.fn q15_ hr.up (B.cons (B.v 0) B.nil)))
  (B.sone (B.ret (B.tup (B.cons (B.v 2) (B.cons (B.op op_sub (B.op op_add (B.v 2) (B.op op_fdivL (B.gint g.c_MARKS) (B.v 1))) B.int) B.nil)))))),?_⟩
 walk_at "W";refine wPoint ?_;walk_at "W";exact⟨by show(2:Nat)<=sizeLine;decide,fun t ht=>q t ht⟩
theorem q16_(d:Dfn K mg "_law_stream" z5_ ["cell"])(g:Gs mg):Fn P w K mg base "_law_stream" 1 ["cell"] spStream:=by
 refine d.fn z16_ (fun vs H Q E h=>?_) (fun f cdv A outer s H vs Q E hr h=>?_)
 · obtain⟨c,rfl,_⟩:=h
   rfl
 obtain⟨c,rfl,k⟩:=h;refine⟨_,(B.scons (B.set 1 z16_.nd (B.op op_mod (B.v 0) B.int))
  (B.scons (B.set 1 z16_.nd (B.op op_mod (B.op op_add (B.op op_mul (B.op op_mod (B.op op_mul (B.v 1) (B.v 1)) B.int) (B.op op_add (B.v 1) B.int)) B.int) B.int))
  (B.sone (B.ret (B.lst (B.cons (B.v 0) (B.cons (B.v 1) (B.cons (B.cT call_int1 g.b_int SW.b_int (B.cons (B.cmp op_ge (B.v 0) (B.op op_pow B.int B.int)) B.nil)) B.nil)))))))),?_⟩
 walk_at "W";refine⟨by show(3:Nat)<=sizeLine;decide,fun p hp=>k p _ hp ⟨_,_,_,upd_same,?_,?_⟩⟩
 · exact Int.emod_nonneg _ (by decide)
 exact Int.emod_lt_of_pos _ (by decide)
theorem q19_(d:Dfn K mg "_law_take" z6_ ["row","many"]):Fn P w K mg base "_law_take" 1 ["row","many"] spTake:=by
 refine d.fn z17_ (fun vs H Q E h=>?_) (fun f cdv A outer s H vs Q E hr h=>?_)
 · obtain⟨p,m,rfl,_⟩:=h
   rfl
 obtain⟨p,m,rfl,hm0,hm1,⟨a,b,c,hp,hb0,hb1⟩,k⟩:=h;refine⟨_,(B.scons (B.ifs (B.tcmp op_eq (B.ix ix_list (B.v 0) B.int) B.int) (B.scons (B.set 2 z17_.nd (B.op op_mod (B.ix ix_list (B.v 0) B.int) (B.v 1)))
  (B.scons (B.asg (B.op op_fdivL (B.ix ix_list (B.v 0) B.int) (B.v 1)) (B.gsub (B.v 0) B.int set_list))
  (B.sone (B.ret (B.v 2))))) B.snil)
  (B.scons (B.asg (B.op op_mod (B.op op_mul (B.op op_add (B.ix ix_list (B.v 0) B.int) B.int) (B.op op_add (B.ix ix_list (B.v 0) B.int) B.int)) B.int) (B.gsub (B.v 0) B.int set_list))
  (B.sone (B.ret (B.op op_mod (B.op op_fdivL (B.op op_add (B.op op_mul (B.ix ix_list (B.v 0) B.int) B.int) B.int) B.int) (B.v 1)))))),?_⟩
 walk_at "W";refine ite2 (fun _=>?_) (fun _=>?_)
 · walk_at "W"
   exact k _ _ (Int.emod_nonneg _ (by omega)) (Int.emod_lt_of_pos _ hm0) ⟨_,_,_,upd_same,hb0,hb1⟩
 walk_at "W";exact k _ _ (Int.emod_nonneg _ (by omega)) (Int.emod_lt_of_pos _ hm0) ⟨_,_,_,upd_same,Int.emod_nonneg _ (by decide),Int.emod_lt_of_pos _ (by decide)⟩
theorem q0_(d:Dfn K mg "_law_key" z1_ ["row"])(q6_:Fn P w K mg base "_law_take" 1 ["row","many"] spTake):Fn P w K mg base "_law_key" 2 ["row"] spKey:=by
 refine d.fn z12_ (fun vs H Q E h=>?_) (fun f cdv A outer s H vs Q E hr h=>?_)
 · obtain⟨p,rfl,_⟩:=h
   rfl
 obtain⟨p,rfl,hp,k⟩:=h;refine⟨_,(B.scons (B.set 1 z12_.nd (B.lst (B.cons (B.fn q6_ hr.up (B.cons (B.v 0) (B.cons B.int B.nil))) (B.cons (B.fn q6_ hr.up (B.cons (B.v 0) (B.cons B.int B.nil))) (B.cons (B.op op_mul B.int (B.fn q6_ hr.up (B.cons (B.v 0) (B.cons B.int B.nil)))) (B.cons (B.fn q6_ hr.up (B.cons (B.v 0) (B.cons (B.op op_add (B.op op_pow B.int B.int) B.int) B.nil))) (B.cons (B.op op_pow B.int B.int) B.nil)))))))
  (B.sone (B.ret (B.ix ix_list (B.v 1) (B.fn q6_ hr.up (B.cons (B.v 0) (B.cons B.int B.nil))))))),?_⟩
 walk_at "W";refine wTake hp (by decide) (by decide) fun r1 H1 a1 b1 R1 K1=>?_
 walk_at "W";refine wTake R1 (by decide) (by decide) fun r2 H2 a2 b2 R2 K2=>?_
 walk_at "W";refine wTake R2 (by decide) (by decide) fun r3 H3 a3 b3 R3 K3=>?_
 walk_at "W";refine wTake R3 (by decide) (by decide) fun r4 H4 a4 b4 R4 K4=>?_
 have e9:(10:Int) ^ (Int.toNat 9)=1000000000:=by decide
 walk_at "W";refine⟨by show(5:Nat)<=sizeLine;decide,fun q hq=>?_⟩
 walk_at "W";refine wTake (R4.new hq) (by decide) (by decide) fun r5 H5 a5 b5 R5 K5=>?_
 have e5:=K5 q _ (R4.ne0 hq).symm upd_same;obtain⟨v,hv,hm⟩:=atI_in (xs:=[V.int r1,V.int r2,V.int (65536*r3),V.int r4,V.int (10 ^ 9)]) a5 b5;refine wIxL e5 hv ?_;obtain⟨z,rfl,z0,z1⟩:∃ z,v=V.int z/\0<=z/\z<=1000000000:=by
  simp only[List.mem_cons,List.not_mem_nil,or_false]at hm;rcases hm with rfl | rfl | rfl | rfl | rfl
  · exact⟨_,rfl,by omega,by omega⟩
  · exact⟨_,rfl,by omega,by omega⟩
  · exact⟨_,rfl,by omega,by omega⟩
  · exact⟨_,rfl,by omega,by omega⟩
  exact⟨_,rfl,by decide,by decide⟩
 exact k z H5 z0 z1 R5 (((K1.trans K2).trans (K3.trans K4)).trans ((KeepBut.new hq).trans K5))
theorem q11_(d:Dfn K mg "_law_mixer" z3_ ["row"])(q6_:Fn P w K mg base "_law_take" 1 ["row","many"] spTake):Fn P w K mg base "_law_mixer" 2 ["row"] spMixer:=by
 refine d.fn z14_ (fun vs H Q E h=>?_) (fun f cdv A outer s H vs Q E hr h=>?_)
 · obtain⟨p,rfl,_⟩:=h
   rfl
 obtain⟨p,rfl,hp,k⟩:=h;refine⟨_,(B.scons (B.set 1 z14_.nd (B.lst (B.cons (B.tup (B.cons B.int (B.cons B.int B.nil))) (B.cons (B.tup (B.cons B.int (B.cons B.int B.nil))) (B.cons (B.tup (B.cons B.int (B.cons B.int B.nil))) (B.cons (B.tup (B.cons B.int (B.cons B.int B.nil))) (B.cons (B.tup (B.cons B.int (B.cons B.int B.nil))) (B.cons (B.tup (B.cons B.int (B.cons B.int B.nil))) (B.cons (B.tup (B.cons B.int (B.cons B.int B.nil))) (B.cons (B.tup (B.cons B.int (B.cons B.int B.nil))) B.nil))))))))))
  (B.scons (B.expr (B.m PySem.F.plainAttrs_list PySem.F.slot_list_append PySem.F.type_list_append mt_append (B.v 1) (B.cons (B.tup (B.cons (B.fn q6_ hr.up (B.cons (B.v 0) (B.cons B.int B.nil))) (B.cons (B.fn q6_ hr.up (B.cons (B.v 0) (B.cons B.int B.nil))) B.nil))) B.nil)))
  (B.sone (B.ret (B.ix ix_list (B.v 1) (B.fn q6_ hr.up (B.cons (B.v 0) (B.cons B.int B.nil)))))))),?_⟩
 have two:(2:Nat)<=sizeLine:=by decide
 walk_at "W";refine⟨two,fun t1 h1=>?_⟩;have M1:=(Mixs.nil).new t1 1 0 h1 (by decide)
 have R1:=hp.new (o:=.tup [.int 1,.int 0]) h1;have S1:=(Same.new (o:=.tup [.int 1,.int 0]) h1);walk_at "W";refine⟨two,fun t2 h2=>?_⟩;have M2:=(M1).new t2 0 0 h2 (by decide)
 have R2:=R1.new (o:=.tup [.int 0,.int 0]) h2;have S2:=S1.trans (Same.new (o:=.tup [.int 0,.int 0]) h2);walk_at "W";refine⟨two,fun t3 h3=>?_⟩;have M3:=(M2).new t3 0 65535 h3 (by decide)
 have R3:=R2.new (o:=.tup [.int 0,.int 65535]) h3;have S3:=S2.trans (Same.new (o:=.tup [.int 0,.int 65535]) h3);walk_at "W";refine⟨two,fun t4 h4=>?_⟩;have M4:=(M3).new t4 40503 7 h4 (by decide)
 have R4:=R3.new (o:=.tup [.int 40503,.int 7]) h4;have S4:=S3.trans (Same.new (o:=.tup [.int 40503,.int 7]) h4);walk_at "W";refine⟨two,fun t5 h5=>?_⟩;have M5:=(M4).new t5 65535 1 h5 (by decide)
 have R5:=R4.new (o:=.tup [.int 65535,.int 1]) h5;have S5:=S4.trans (Same.new (o:=.tup [.int 65535,.int 1]) h5);walk_at "W";refine⟨two,fun t6 h6=>?_⟩;have M6:=(M5).new t6 2 0 h6 (by decide)
 have R6:=R5.new (o:=.tup [.int 2,.int 0]) h6;have S6:=S5.trans (Same.new (o:=.tup [.int 2,.int 0]) h6);walk_at "W";refine⟨two,fun t7 h7=>?_⟩;have M7:=(M6).new t7 4096 3 h7 (by decide)
 have R7:=R6.new (o:=.tup [.int 4096,.int 3]) h7;have S7:=S6.trans (Same.new (o:=.tup [.int 4096,.int 3]) h7);walk_at "W";refine⟨two,fun t8 h8=>?_⟩;have M8:=(M7).new t8 32768 65535 h8 (by decide)
 have R8:=R7.new (o:=.tup [.int 32768,.int 65535]) h8;have S8:=S7.trans (Same.new (o:=.tup [.int 32768,.int 65535]) h8);walk_at "W";refine⟨by show(8:Nat)<=sizeLine;decide,fun q hq=>?_⟩
 have q0:H q=none:=S8.free hq;have nqp:q≠p:=(R8.ne0 hq).symm;have M9:=M8.map fun _ z=>z.same (Same.new (o:=.lst [.ref t1,.ref t2,.ref t3,.ref t4,.ref t5,.ref t6,.ref t7,.ref t8]) hq);have R9:=R8.new (o:=.lst [.ref t1,.ref t2,.ref t3,.ref t4,.ref t5,.ref t6,.ref t7,.ref t8]) hq;have K9:KeepBut p H _:=SW.Same.but (S8.trans (Same.new (o:=.lst [.ref t1,.ref t2,.ref t3,.ref t4,.ref t5,.ref t6,.ref t7,.ref t8]) hq));walk_at "W";refine wBM ?_;walk_at "W";refine⟨.inl ⟨rfl,_,SqL.of upd_same⟩,?_⟩;walk_at "W";refine wTake R9 (by decide) (by decide) fun r1 H10 a1 b1 R10 K10=>?_
 have q10:=K10 q _ nqp upd_same;have M10:=M9.map fun _ z=>z.keep R9 K10;walk_at "W";refine wTake R10 (by decide) (by decide) fun r2 H11 a2 b2 R11 K11=>?_
 have q11:=K11 q _ nqp q10;have M11:=M10.map fun _ z=>z.keep R10 K11;walk_at "W";refine⟨two,fun t9 h9=>?_⟩;have M12:=M11.new t9 r1 r2 h9 (by omega)
 have q12:=Same.new (o:=.tup [.int r1,.int r2]) h9 _ _ q11;walk_at "W";refine⟨q,_,_,rfl,rfl,q12,by show(8:Nat) < sizeLine;decide,?_⟩
 have M13:=M12.map fun _ z=>z.upd (o:=.lst ([.ref t1,.ref t2,.ref t3,.ref t4,.ref t5,.ref t6,.ref t7,.ref t8]++[.ref t9])) q12;have R13:=(R11.new (o:=.tup [.int r1,.int r2]) h9).upd (o:=.lst ([.ref t1,.ref t2,.ref t3,.ref t4,.ref t5,.ref t6,.ref t7,.ref t8]++[.ref t9])) nqp.symm;have K13:=(((K9.trans K10).trans K11).trans (KeepBut.new (o:=.tup [.int r1,.int r2]) h9)).upd (o:=.lst ([.ref t1,.ref t2,.ref t3,.ref t4,.ref t5,.ref t6,.ref t7,.ref t8]++[.ref t9])) q0;walk_at "W";refine wTake R13 (by decide) (by decide) fun r H14 a b R14 K14=>?_
 have q14:=K14 q _ nqp upd_same;obtain⟨v,hv,hm⟩:=atI_in (xs:=[V.ref t1,V.ref t2,V.ref t3,V.ref t4,V.ref t5,V.ref t6,V.ref t7,V.ref t8]++[V.ref t9]) a b;refine wIxL q14 hv ?_;obtain⟨t,rfl,m⟩:=M13 v hm;exact k t H14 (m.keep R13 K14) R14 (K13.trans K14)
-- LamH S56
def spLParted:Sp:=fun vs H Q _=>∃ s:Nat,vs=[.int s]/\isSize s /\ ∀ H',Same H H'->Q (.bl true) H'
theorem wLParted{s:Nat}{H:Hp}{Q:VK}{E:XK}(h:isSize s)(k:∀ H',Same H H'->Q (.bl true) H'):spLParted ([.int s]++[]) H Q E:=⟨s,rfl,h,k⟩
def spMarked:Sp:=fun vs H Q _=>∃(mk:Int) (s:Nat),vs=[.int mk,.int s]/\isSize s/\(0<=mk/\mk < 65536) /\ ∀ H',Same H H'->Q (.bl true) H'
theorem wMarked{mk:Int}{s:Nat}{H:Hp}{Q:VK}{E:XK}(h:isSize s)(hm:0<=mk/\mk < 65536)(k:∀ H',Same H H'->Q (.bl true) H'):spMarked ([.int mk,.int s]++[]) H Q E:=⟨mk,s,rfl,h,hm,k⟩
theorem run3_get{s n i:Nat}{p:Int×Int}(h:(run3 s n)[i]?=some p):p=((i:Int)*(65536 / (s:Int)),(i:Int)*(65536 / (s:Int))+65536 / (s:Int) - 1):=by
 unfold run3 at h;rw[List.getElem?_map]at h;obtain⟨j,hj,rfl⟩:=Option.map_eq_some_iff.mp h;obtain⟨hi,e⟩:=List.getElem?_eq_some_iff.mp hj;rw[List.getElem_range]at e;rw[e]
theorem neF{a b:Int}(h:a=b):(!decide (V.int a=V.int b))=false:=by rw[h,decide_eq_true rfl];rfl
theorem q7_(d:Dfn K mg "_law_parted" z4_ ["size"])(g:Gs mg)(q18_:Fn P w K mg base "stretch_of" 2 ["place","size"] spStretch):Fn P w K mg base "_law_parted" 3 ["size"] spLParted:=by
 refine d.fn z15_ (fun vs H Q E h=>?_) (fun f cdv A outer s H vs Q E hr h=>?_)
 · obtain⟨s,rfl,_⟩:=h
   rfl
 obtain⟨n,rfl,hn,k⟩:=h;have lim:sizeLine=16777216:=sizeLine_eq;obtain⟨z1,z2⟩:=sz_lt hn;obtain⟨wm,w0⟩:=sz_mul hn;refine⟨_,(B.scons (B.set 1 z15_.nd (B.cB SW.call_sortedLP g.b_sorted SW.b_sorted (B.cons (SW.B.comp [0] ["place","size"] (SW.CompScope.of rfl rfl (by decide +kernel) (by decide +kernel) rfl ⟨rfl,trivial⟩ rfl rfl rfl) (by decide +kernel) (B.irange g.b_range (B.cons (B.v 0) B.nil)) (fun _ _ _ _=>(B.fn q18_ hr.up (B.cons (B.v 0) (B.cons (B.v 1) B.nil))))) B.nil)))
  (B.scons (B.set 2 z15_.nd B.int)
  (B.scons (B.fors (B.ilist (B.v 1)) (B.gtup (B.gcons (B.gname (i:=3) z15_.nd) (B.gcons (B.gname (i:=4) z15_.nd) B.gnil))) (B.scons (B.ifs (B.tw (B.wor (B.tcmp op_ne (B.v 3) (B.v 2)) (B.wor1 (B.tcmp op_ne (B.v 4) (B.op op_sub (B.op op_add (B.v 3) (B.op op_fdivL B.int (B.v 0))) B.int))))) (B.sone (B.ret B.bl)) B.snil)
  (B.sone (B.set 2 z15_.nd (B.op op_add (B.v 4) B.int)))))
  (B.scons (B.ifs (B.tcmp op_ne (B.v 2) B.int) (B.sone (B.ret B.bl)) B.snil)
  (B.scons (B.fors (B.irange g.b_range (B.cons (B.op op_mul (B.v 0) (B.cT call_int1 g.b_int SW.b_int (B.cons (B.cmp op_lt (B.v 0) B.int) B.nil))) B.nil)) (B.gname (i:=5) z15_.nd) (B.scons (B.set 6 z15_.nd (B.fn q18_ hr.up (B.cons (B.v 5) (B.cons (B.op op_mul B.int (B.v 0)) B.nil))))
  (B.scons (B.set 7 z15_.nd (B.fn q18_ hr.up (B.cons (B.op op_add (B.v 5) (B.v 0)) (B.cons (B.op op_mul B.int (B.v 0)) B.nil))))
  (B.sone (B.ifs (B.tw (B.wor (B.tcmp (op_neD K hr.units) (B.fn q18_ hr.up (B.cons (B.v 5) (B.cons (B.v 0) B.nil))) (B.tup (B.cons (B.ix ix_tup (B.v 6) B.int) (B.cons (B.ix ix_tup (B.v 7) B.int) B.nil)))) (B.wor1 (B.tcmp op_ne (B.op op_add (B.ix ix_tup (B.v 6) B.int) B.int) (B.ix ix_tup (B.v 7) B.int))))) (B.sone (B.ret B.bl)) B.snil)))))
  (B.sone (B.ret B.bl))))))),?_⟩
 walk_at "W";refine⟨n,rfl,by omega,by omega,fun D hD=>?_⟩
 refine comp_rangeU (fun i σ' H'=>(∃ v:Option V,σ'=[v,some (.int n)])/\Same H H' /\ ∃ ys:List V,H' D=some (.lst ys)/\Prs H' ys ((List.range i).map fun p:Nat=>st3 n (p:Int))) ⟨⟨none,rfl⟩,Same.new hD,[],upd_same,.nil⟩ ?_ ?_
 · rintro i σ' H' hi ⟨⟨v,rfl⟩,s',ys,hD',p'⟩
   have hi2:i < n:=by simpa using hi
   walk_at "W";rw[Int.zero_add];refine wStretch ⟨by omega,by omega⟩ fun t ht=>?_
   have st:=Same.new (o:=.tup [.int (pt (i:Int) 16),.int (pt (i:Int) 16+65536 / (n:Int) - 1)]) ht;have gt:upd H' t (.tup [.int (pt (i:Int) 16),.int (pt (i:Int) 16+65536 / (n:Int) - 1)]) t=some (.tup [.int (pt (i:Int) 16),.int (pt (i:Int) 16+65536 / (n:Int) - 1)]):=upd_same;generalize upd H' t (.tup [.int (pt (i:Int) 16),.int (pt (i:Int) 16+65536 / (n:Int) - 1)])=H2 at *;have hD2:=st _ _ hD';have kD:∀ b xs,H2 b=some (.tup xs)->upd H2 D (.lst (ys++[.ref t])) b=some (.tup xs):=fun b xs e=>by rw[upd_ne (fun z=>by rw[z,hD2]at e;cases e)];exact e
   have ly:=p'.len;rw[List.length_map,List.length_range]at ly;refine CN.mk hi hD2 (by omega) ⟨⟨_,rfl⟩,fun b o e=>by rw[upd_ne (ne_of_none e hD)];exact(s'.trans st) _ _ e,_,upd_same,?_⟩
   rw[List.range_succ,List.map_append];exact paired_append (.cons ⟨t,rfl,kD _ _ gt⟩ .nil) ((p'.keep fun b xs e=>st _ _ e).keep kD)
 rintro σ' H1 ⟨_,s1,ys,hD1,p1⟩;rw[show((n:Int)).toNat=n from rfl]at p1;walk_at "W";refine⟨D,ys,_,rfl,hD1,p1,rfl,fun l2 ws qs h2 pm pr pq so=>?_⟩;have eqs:qs=run3 n n:=sorted_one so (run3_sorted hn) (pq.trans (st3_perm hn));subst eqs;have s2:=Same.new (o:=.lst ws) h2;have g2:upd H1 l2 (.lst ws) l2=some (.lst ws):=upd_same;have pr2:=(show Prs H1 ws (run3 n n)from pr).keep fun b xs e=>s2 _ _ e;generalize upd H1 l2 (.lst ws)=H2 at *;have s02:=s1.trans s2;have lw:=pr2.len;have lr:(run3 n n).length=n:=by unfold run3;rw[List.length_map,List.length_range]
 clear pr p1 hD1 s1 s2 pm pq so h2;walk_at "W";refine⟨l2,rfl,⟨_,SqL.of g2⟩,?_⟩;refine L2.for_list (xs:=ws) (fun i σ H'=>∃ v3 v4 v5 v6 v7:Option V,σ=[some (.int n),some (.ref l2),some (.int ((i:Int)*(65536 / (n:Int)))),v3,v4,v5,v6,v7]/\Same H2 H') ⟨none,none,none,none,none,by rw[Int.natCast_zero,Int.zero_mul];rfl,Same.refl _⟩ ?_ ?_ ?_
 · rintro i σ H' _ ⟨_,_,_,_,_,_,s'⟩
   exact SqL.of (s' _ _ g2)
 · rintro i x σ H3 hx ⟨v3,v4,v5,v6,v7,rfl,s3⟩
   obtain⟨p,hp,u,rfl,hu⟩:=paired_get pr2 hx;obtain rfl:=run3_get hp;have hu:H2 u=some (.tup [.int ((i:Int)*(65536 / (n:Int))),.int ((i:Int)*(65536 / (n:Int))+65536 / (n:Int) - 1)]):=hu;refine⟨u,_,rfl,SqT.of (s3 _ _ hu),rfl,_,_,rfl,_,_,rfl,rfl,?_⟩;walk_at "W";rw[neF rfl];refine iteF ?_;walk_at "W";rw[neF rfl];refine iteF ?_;walk_at "W";have e:(i:Int)*(65536 / (n:Int))+65536 / (n:Int) - 1+1=((i+1:Nat):Int)*(65536 / (n:Int)):=by
    rw[Int.natCast_add,Int.add_mul,show((1:Nat):Int)*(65536 / (n:Int))=65536 / (n:Int)from Int.one_mul _];omega
   rw[e];exact⟨_,_,_,_,_,rfl,s3⟩
 rintro σ H3 ⟨v3,v4,v5,v6,v7,rfl,s3⟩;rw[lw,lr,show(n:Int)*(65536 / (n:Int))=65536 by rw[Int.mul_comm];exact wm]
 have s03:=s02.trans s3;walk_at "W";refine iteF ?_;walk_at "W";refine⟨_,rfl,by split <;> omega,by split <;> omega,?_⟩
 refine SW.forRangeC (n:=((n:Int)*if decide ((n:Int) < 4096)=true then 1 else 0).toNat) (fun i σ H'=>∃ v5 v6 v7:Option V,σ=[some (.int n),some (.ref l2),some (.int 65536),v3,v4,v5,v6,v7]/\Same H3 H') ⟨_,_,_,rfl,Same.refl _⟩ ?_ ?_
 · rintro i σ H4 hi ⟨v5,v6,v7,rfl,s4⟩
   have hi2:(n:Int) < 4096/\i < n:=by
    by_cases z:(n:Int) < 4096
    · rw[decide_eq_true z,if_pos rfl]at hi
      exact⟨z,by omega⟩
    rw[decide_eq_false z,if_neg (by decide)]at hi
    omega
   obtain⟨hi3,hi4⟩:=hi2;have B:=StB.of hn (show 0<=(i:Int) by omega) (show(i:Int) < n by omega)
   walk_at "W";rw[Int.zero_add];refine wStretch ⟨by omega,by omega⟩ fun t5 h5=>?_
   rw[B.w3];have s5:=Same.new (o:=.tup [.int (pt (i:Int) 16),.int (pt (i:Int) 16+65536 / (n:Int) / 2 - 1)]) h5;have g5:upd H4 t5 (.tup [.int (pt (i:Int) 16),.int (pt (i:Int) 16+65536 / (n:Int) / 2 - 1)]) t5=some (.tup [.int (pt (i:Int) 16),.int (pt (i:Int) 16+65536 / (n:Int) / 2 - 1)]):=upd_same;generalize upd H4 t5 (.tup [.int (pt (i:Int) 16),.int (pt (i:Int) 16+65536 / (n:Int) / 2 - 1)])=H5 at *;walk_at "W";refine wStretch ⟨by omega,by omega⟩ fun t6 h6=>?_
   rw[B.w3,B.half];have s6:=Same.new (o:=.tup [.int (pt (i:Int) 16+65536 / (n:Int) / 2),.int (pt (i:Int) 16+65536 / (n:Int) / 2+65536 / (n:Int) / 2 - 1)]) h6;have g6:upd H5 t6 (.tup [.int (pt (i:Int) 16+65536 / (n:Int) / 2),.int (pt (i:Int) 16+65536 / (n:Int) / 2+65536 / (n:Int) / 2 - 1)]) t6=some (.tup [.int (pt (i:Int) 16+65536 / (n:Int) / 2),.int (pt (i:Int) 16+65536 / (n:Int) / 2+65536 / (n:Int) / 2 - 1)]):=upd_same;have g56:=s6 _ _ g5;generalize upd H5 t6 (.tup [.int (pt (i:Int) 16+65536 / (n:Int) / 2),.int (pt (i:Int) 16+65536 / (n:Int) / 2+65536 / (n:Int) / 2 - 1)])=H6 at *;walk_at "W";refine wStretch ⟨by omega,by omega⟩ fun t7 h7=>?_
   have s7:=Same.new (o:=.tup [.int (pt (i:Int) 16),.int (pt (i:Int) 16+65536 / (n:Int) - 1)]) h7;have g7:upd H6 t7 (.tup [.int (pt (i:Int) 16),.int (pt (i:Int) 16+65536 / (n:Int) - 1)]) t7=some (.tup [.int (pt (i:Int) 16),.int (pt (i:Int) 16+65536 / (n:Int) - 1)]):=upd_same;have g57:=s7 _ _ g56;have g67:=s7 _ _ g6;generalize upd H6 t7 (.tup [.int (pt (i:Int) 16),.int (pt (i:Int) 16+65536 / (n:Int) - 1)])=H7 at *;walk_at "W";refine⟨by show(2:Nat)<=sizeLine;decide,fun t8 h8=>?_⟩
   rw[show pt (i:Int) 16+65536 / (n:Int) / 2+65536 / (n:Int) / 2 - 1=pt (i:Int) 16+65536 / (n:Int) - 1 by have:=B.w2;omega]
   have s8:=Same.new (o:=.tup [.int (pt (i:Int) 16),.int (pt (i:Int) 16+65536 / (n:Int) - 1)]) h8;have g8:upd H7 t8 (.tup [.int (pt (i:Int) 16),.int (pt (i:Int) 16+65536 / (n:Int) - 1)]) t8=some (.tup [.int (pt (i:Int) 16),.int (pt (i:Int) 16+65536 / (n:Int) - 1)]):=upd_same;have g58:=s8 _ _ g57;have g68:=s8 _ _ g67;have g78:=s8 _ _ g7;generalize upd H7 t8 (.tup [.int (pt (i:Int) 16),.int (pt (i:Int) 16+65536 / (n:Int) - 1)])=H8 at *;walk_at "W";refine wNeSame (d:=.tuple [.int (pt (i:Int) 16),.int (pt (i:Int) 16+65536 / (n:Int) - 1)]) (.tup (SqT.of g78) (.cons (.int _) (.cons (.int _) .nil))) (.tup (SqT.of g8) (.cons (.int _) (.cons (.int _) .nil))) rfl (by simp only[PyData.depth,PyData.depthAll];omega) ?_
   walk_at "W";refine iteF ?_;walk_at "W";rw[neF (show pt (i:Int) 16+65536 / (n:Int) / 2 - 1+1=pt (i:Int) 16+65536 / (n:Int) / 2 by omega)]
   refine iteF ?_;walk_at "W";exact⟨_,_,_,rfl,(((s4.trans s5).trans s6).trans s7).trans s8⟩
 rintro σ H4 ⟨v5,v6,v7,rfl,s4⟩;walk_at "W";exact k _ (s03.trans s4)
theorem q10_(d:Dfn K mg "_law_marked" z2_ ["mark","size"])(g:Gs mg)(q13_:Fn P w K mg base "place_of" 1 ["mark","size"] spPlace)(q15_:Fn P w K mg base "point_of" 1 ["mark"] spPoint)(q18_:Fn P w K mg base "stretch_of" 2 ["place","size"] spStretch):Fn P w K mg base "_law_marked" 3 ["mark","size"] spMarked:=by
 refine d.fn z13_ (fun vs H Q E h=>?_) (fun f cdv A outer s H vs Q E hr h=>?_)
 · obtain⟨mk,s,rfl,_⟩:=h
   rfl
 obtain⟨mk,n,rfl,hn,⟨m0,m1⟩,k⟩:=h;have lim:sizeLine=16777216:=sizeLine_eq;obtain⟨z1,z2⟩:=sz_lt hn;obtain⟨wm,w0⟩:=sz_mul hn;obtain⟨a1,a2⟩:=pt_in (.inl hn) m0;have bs:=beside hn m0;have q0:0<=mk % (n:Int):=Int.emod_nonneg _ (by omega)
 have q1:mk % (n:Int) < n:=Int.emod_lt_of_pos _ (by omega)
 refine⟨_,(B.scons (B.set 2 z13_.nd (B.fn q13_ hr.up (B.cons (B.v 0) (B.cons (B.v 1) B.nil))))
  (B.scons (B.asg (B.fn q18_ hr.up (B.cons (B.v 2) (B.cons (B.v 1) B.nil))) (B.gtup (B.gcons (B.gname (i:=3) z13_.nd) (B.gcons (B.gname (i:=4) z13_.nd) B.gnil))))
  (B.scons (B.set 5 z13_.nd (B.fn q15_ hr.up (B.cons (B.v 0) B.nil)))
  (B.scons (B.ifs (B.tw (B.wor (B.tnot (B.tchain op_le op_lt B.int (B.v 2) (B.v 1))) (B.wor1 (B.tnot (B.tchain op_le op_le (B.v 3) (B.v 5) (B.v 4)))))) (B.sone (B.ret B.bl)) B.snil)
  (B.scons (B.set 6 z13_.nd (B.fn q18_ hr.up (B.cons (B.op op_mod (B.op op_add (B.v 2) B.int) (B.v 1)) (B.cons (B.v 1) B.nil))))
  (B.sone (B.ret (B.not (B.chain op_le op_le (B.ix ix_tup (B.v 6) B.int) (B.v 5) (B.ix ix_tup (B.v 6) B.int)))))))))),?_⟩
 walk_at "W";refine wPlace (by omega) ?_
 walk_at "W";refine wStretch ⟨by omega,by omega⟩ fun t ht=>?_
 have st:=Same.new (o:=.tup [.int (pt (mk % (n:Int)) 16),.int (pt (mk % (n:Int)) 16+65536 / (n:Int) - 1)]) ht;have gt:upd H t (.tup [.int (pt (mk % (n:Int)) 16),.int (pt (mk % (n:Int)) 16+65536 / (n:Int) - 1)]) t=some (.tup [.int (pt (mk % (n:Int)) 16),.int (pt (mk % (n:Int)) 16+65536 / (n:Int) - 1)]):=upd_same;generalize upd H t (.tup [.int (pt (mk % (n:Int)) 16),.int (pt (mk % (n:Int)) 16+65536 / (n:Int) - 1)])=H1 at *;refine⟨t,_,rfl,SqT.of gt,rfl,_,_,rfl,_,_,rfl,rfl,?_⟩;walk_at "W";refine wPoint ?_;walk_at "W";rw[decide_eq_true q0];refine iteT ?_;walk_at "W";rw[decide_eq_true q1];refine iteF ?_;walk_at "W";rw[decide_eq_true a1];refine iteT ?_;walk_at "W";rw[decide_eq_true a2];refine iteF ?_;walk_at "W";refine wStretch ⟨by omega,by omega⟩ fun t2 h2=>?_
 have s2:=Same.new (o:=.tup [.int (pt ((mk % (n:Int)+1) % (n:Int)) 16),.int (pt ((mk % (n:Int)+1) % (n:Int)) 16+65536 / (n:Int) - 1)]) h2;have g2:upd H1 t2 (.tup [.int (pt ((mk % (n:Int)+1) % (n:Int)) 16),.int (pt ((mk % (n:Int)+1) % (n:Int)) 16+65536 / (n:Int) - 1)]) t2=some (.tup [.int (pt ((mk % (n:Int)+1) % (n:Int)) 16),.int (pt ((mk % (n:Int)+1) % (n:Int)) 16+65536 / (n:Int) - 1)]):=upd_same;generalize upd H1 t2 (.tup [.int (pt ((mk % (n:Int)+1) % (n:Int)) 16),.int (pt ((mk % (n:Int)+1) % (n:Int)) 16+65536 / (n:Int) - 1)])=H2 at *;walk_at "W";have fin:Q (.bl true) H2:=k H2 (st.trans s2);refine ite2 (fun y1=>?_) (fun y1=>?_)
 · walk_at "W"
   rw[decide_eq_false (fun y2=>bs ⟨of_decide_eq_true y1,y2⟩)];exact fin
 exact⟨false,rfl,fin⟩
theorem rowNotup{H:Hp}{p b:Addr}{xs:List V}(r:Row H p)(h:H b=some (.tup xs)):¬ b=p:=by
 obtain⟨_,_,_,e,_⟩:=r;exact ne_of h e (by intro z;cases z)
theorem sizes3{v:V}(h:v∈[V.int 4,V.int 8,V.int 16,V.int 32,V.int 64,V.int 128,V.int 256,V.int 512,V.int 1024,V.int 2048,V.int 4096]):∃ n:Nat,v=V.int n/\isSize n:=by
 simp only[List.mem_cons,List.not_mem_nil,or_false]at h;rcases h with rfl | rfl | rfl | rfl | rfl | rfl | rfl | rfl | rfl | rfl | rfl
 · exact⟨4,rfl,by unfold isSize;decide⟩
 · exact⟨8,rfl,by unfold isSize;decide⟩
 · exact⟨16,rfl,by unfold isSize;decide⟩
 · exact⟨32,rfl,by unfold isSize;decide⟩
 · exact⟨64,rfl,by unfold isSize;decide⟩
 · exact⟨128,rfl,by unfold isSize;decide⟩
 · exact⟨256,rfl,by unfold isSize;decide⟩
 · exact⟨512,rfl,by unfold isSize;decide⟩
 · exact⟨1024,rfl,by unfold isSize;decide⟩
 · exact⟨2048,rfl,by unfold isSize;decide⟩
 exact⟨4096,rfl,by unfold isSize;decide⟩
theorem ok_law{f:Addr}{fd:FuncData}(F:Fun K "law" "law" z0_ f fd)(g:Gs mg)(q9_:Fn P w K mg base "mark_of" 1 ["key","mixer"] spMark)(q5_:Fn P w K mg base "_law_stream" 1 ["cell"] spStream)(q6_:Fn P w K mg base "_law_take" 1 ["row","many"] spTake)(q3_:Fn P w K mg base "_law_mixer" 2 ["row"] spMixer)(q1_:Fn P w K mg base "_law_key" 2 ["row"] spKey)(q4_:Fn P w K mg base "_law_parted" 3 ["size"] spLParted)(q2_:Fn P w K mg base "_law_marked" 3 ["mark","size"] spMarked) :
 FnOk P w K mg base CX0 4 f fd ["script"] (spLaw K):=by
 refine fun_bx F z11_ (fun vs H Q E h=>?_) (fun cdv A outer s H vs Q E hr h=>?_)
 · obtain⟨a,ns,rfl,_⟩:=h
   rfl
 obtain⟨a,ns,rfl,hS,hlen,k⟩:=h;have lim:sizeLine=16777216:=sizeLine_eq;refine⟨_,(B.scons (B.fors (B.ilist (B.op op_cat (B.lst (B.cons B.int B.nil)) (B.slice sl_list (B.v 0) B.nopart (B.part B.int)))) (B.gname (i:=1) z11_.nd) (B.scons (B.set 2 z11_.nd (B.fn q5_ hr.up (B.cons (B.v 1) B.nil)))
  (B.scons (B.set 3 z11_.nd (B.ix ix_list (B.lst (B.cons B.int (B.cons B.int (B.cons B.int (B.cons B.int (B.cons B.int (B.cons B.int (B.cons B.int (B.cons B.int (B.cons B.int (B.cons B.int (B.cons B.int B.nil)))))))))))) (B.fn q6_ hr.up (B.cons (B.v 2) (B.cons B.int B.nil)))))
  (B.scons (B.ifs (B.tnot (B.tval (B.fn q4_ hr.up (B.cons (B.v 3) B.nil)))) (B.sone (B.ret B.bl)) B.snil)
  (B.scons (B.set 4 z11_.nd (B.fn q3_ hr.up (B.cons (B.v 2) B.nil)))
  (B.sone (B.fors (B.ilist (B.op op_cat (B.lst (B.cons B.int (B.cons B.int B.nil))) (SW.B.comp [2,4] ["k","row","mixer"] (SW.CompScope.of rfl rfl (by decide +kernel) (by decide +kernel) rfl ⟨rfl,rfl,trivial⟩ rfl rfl rfl) (by decide +kernel) (B.irange g.b_range (B.cons B.int B.nil)) (fun _ _ _ _=>(B.fn q9_ hr.up (B.cons (B.fn q1_ hr.up (B.cons (B.v 1) B.nil)) (B.cons (B.v 2) B.nil))))))) (B.gname (i:=5) z11_.nd) (B.sone (B.ifs (B.tnot (B.tval (B.fn q2_ hr.up (B.cons (B.v 5) (B.cons (B.v 3) B.nil))))) (B.sone (B.ret B.bl)) B.snil)))))))))
  (B.sone (B.ret B.bl))),?_⟩
 refine wSeq (wFor (wHead hS hlen fun q cs H0 s0 hq hcs=>?_));refine SW.forListC (xs:=cs.map V.int) (fun i σ H'=>∃ v1 v2 v3 v4 v5:Option V,σ=[some (.ref a),v1,v2,v3,v4,v5]/\H' q=some (.lst (cs.map V.int))) ⟨none,none,none,none,none,rfl,hq⟩ ?_ ?_ ?_
 · rintro i σ H' _ ⟨_,_,_,_,_,_,e⟩
   exact SqL.of e
 · rintro i y σ H1 hy ⟨v1,v2,v3,v4,v5,rfl,q1⟩
   obtain⟨c,rfl⟩:=getInt hy;walk_at "W";refine wStream fun p o hp R2=>?_;have s2:=Same.new (o:=o) hp;have nqp:q≠p:=ne_of_none q1 hp;have q2:=s2 _ _ q1;generalize upd H1 p o=H2 at *;walk_at "W";refine⟨by show(11:Nat)<=sizeLine;decide,fun l3 h3=>?_⟩
   have s3:=Same.new (o:=.lst [V.int 4,V.int 8,V.int 16,V.int 32,V.int 64,V.int 128,V.int 256,V.int 512,V.int 1024,V.int 2048,V.int 4096]) h3;have g3:upd H2 l3 (.lst [V.int 4,V.int 8,V.int 16,V.int 32,V.int 64,V.int 128,V.int 256,V.int 512,V.int 1024,V.int 2048,V.int 4096]) l3=some (.lst [V.int 4,V.int 8,V.int 16,V.int 32,V.int 64,V.int 128,V.int 256,V.int 512,V.int 1024,V.int 2048,V.int 4096]):=upd_same;have R3:=R2.same s3;have n3:l3≠p:=(R2.ne0 h3).symm;have q3:=s3 _ _ q2;generalize upd H2 l3 (.lst [V.int 4,V.int 8,V.int 16,V.int 32,V.int 64,V.int 128,V.int 256,V.int 512,V.int 1024,V.int 2048,V.int 4096])=H3 at *;walk_at "W";refine wTake R3 (by decide) (by decide) fun r4 H4 a4 b4 R4 K4=>?_
   have q4:=K4 _ _ nqp q3;obtain⟨v,hv,hm⟩:=atI_in (xs:=[V.int 4,V.int 8,V.int 16,V.int 32,V.int 64,V.int 128,V.int 256,V.int 512,V.int 1024,V.int 2048,V.int 4096]) a4 b4;obtain⟨n,rfl,hn⟩:=sizes3 hm;refine wIxL (K4 _ _ n3 g3) hv ?_;clear s3 g3 s2 q2 q3 R3 R2 K4 hv hm;walk_at "W";refine wLParted hn fun H5 s5=>?_;have R5:=R4.same s5;have q5:=s5 _ _ q4;walk_at "W";refine iteF ?_;walk_at "W";refine wMixer R5 fun t H6 M6 R6 K6=>?_;obtain⟨fa,mo,ht,f0,f1,m0,m1⟩:=id M6;have q6:=K6 _ _ nqp q5;clear R5 q5 s5 R4 q4;walk_at "W";refine⟨by show(2:Nat)<=sizeLine;decide,fun l7 h7=>?_⟩
   have s7:=Same.new (o:=.lst [V.int 0,V.int 65535]) h7;have g7:upd H6 l7 (.lst [V.int 0,V.int 65535]) l7=some (.lst [V.int 0,V.int 65535]):=upd_same;have n7:l7≠p:=(R6.ne0 h7).symm;have R7:=R6.same s7;have q7:=s7 _ _ q6;have ht7:=s7 _ _ ht;generalize upd H6 l7 (.lst [V.int 0,V.int 65535])=H7 at *;walk_at "W";refine⟨20,rfl,by decide,by decide,fun D hD=>?_⟩
   have nDp:D≠p:=(R7.ne0 hD).symm;have nqD:q≠D:=ne_of_none q7 hD;have nlD:l7≠D:=ne_of_none g7 hD;have ntp:t≠p:=fun z=>rowNotup R7 ht7 z;have ntD:t≠D:=ne_of_none ht7 hD;refine comp_rangeU (fun i σ' H'=>(∃ v:Option V,σ'=[v,some (.ref p),some (.ref t)])/\Row H' p/\H' q=some (.lst (cs.map V.int))/\H' l7=some (.lst [V.int 0,V.int 65535])/\H' t=some (.tup [.int fa,.int mo]) /\ ∃ ms:List Int,H' D=some (.lst (ms.map V.int))/\ms.length=i /\ ∀ m∈ms,0<=m/\m < 65536) ⟨⟨none,rfl⟩,R7.same (Same.new hD),Same.new hD _ _ q7,Same.new hD _ _ g7,Same.new hD _ _ ht7,[],upd_same,rfl,fun m hm=>(nomatch hm)⟩ ?_ ?_
   · rintro i σ' H' hi ⟨⟨v,rfl⟩,R',q',g',ht',ms,hD',lm,bm⟩
     have hi:i < 20:=hi;walk_at "W";refine wKey R' fun key H8 k0 k1 R8 K8=>?_;have ht8:=K8 _ _ ntp ht';have hD8:=K8 _ _ nDp hD';walk_at "W";refine wMark ht8 ⟨f0,f1⟩ ?_;refine CN.mk hi hD8 (by rw[List.length_map];omega) ⟨⟨_,rfl⟩,?_,?_,?_,?_,ms++[(key*fa+mo) % 65536],by rw[upd_same,List.map_append];rfl,by rw[List.length_append,lm];rfl,fun m hm=>?_⟩
     · exact R8.upd nDp.symm
     · rw[upd_ne nqD];exact K8 _ _ nqp q'
     · rw[upd_ne nlD];exact K8 _ _ n7 g'
     · rw[upd_ne ntD];exact ht8
     rcases List.mem_append.mp hm with z | z
     · exact bm m z
     rw[List.mem_singleton.mp z];exact⟨Int.emod_nonneg _ (by decide),Int.emod_lt_of_pos _ (by decide)⟩
   rintro σ' H8 ⟨_,R8,q8,g8,_,ms,hD8,lm,bm⟩;have lm:ms.length=20:=lm;walk_at "W";refine⟨l7,D,_,_,rfl,rfl,g8,hD8,by rw[List.length_map,lm];show 2+20<=sizeLine;decide,fun l9 h9=>?_⟩
   obtain⟨ks,hks⟩:∃ ks:List Int,ks=0::65535::ms:=⟨_,rfl⟩;rw[show[V.int 0,V.int 65535]++ms.map V.int=ks.map V.int by rw[hks];rfl]
   have bk:∀ m∈ks,0<=m/\m < 65536:=fun m hm=>by
    rw[hks]at hm;rcases List.mem_cons.mp hm with z | z
    · rw[z];exact⟨by decide,by decide⟩
    rcases List.mem_cons.mp z with z | z
    · rw[z];exact⟨by decide,by decide⟩
    exact bm m z
   have s9:=Same.new (o:=.lst (ks.map V.int)) h9;have g9:upd H8 l9 (.lst (ks.map V.int)) l9=some (.lst (ks.map V.int)):=upd_same;have q9:=s9 _ _ q8;generalize upd H8 l9 (.lst (ks.map V.int))=H9 at *;walk_at "W";refine⟨l9,rfl,⟨_,SqL.of g9⟩,?_⟩;refine SW.forListC (xs:=ks.map V.int) (fun j σ H'=>∃ v5:Option V,σ=[some (.ref a),some (.int c),some (.ref p),some (.int n),some (.ref t),v5]/\Same H9 H') ⟨_,rfl,Same.refl _⟩ ?_ ?_ ?_
   · rintro j σ H' _ ⟨_,_,s'⟩
     exact SqL.of (s' _ _ g9)
   · rintro j y σ H' hj ⟨v5,rfl,s'⟩
     obtain⟨mk,rfl⟩:=getInt hj;have hmk:mk∈ks:=by
      obtain⟨z,hz,e⟩:=List.mem_map.mp (List.mem_of_getElem? hj);cases e;exact hz
     walk_at "W";refine wMarked hn (bk mk hmk) fun H10 s10=>?_;walk_at "W";refine iteF ?_;walk_at "W";exact⟨_,rfl,s'.trans s10⟩
   rintro σ H' ⟨v5,rfl,s'⟩;walk_at "W";exact⟨_,_,_,_,_,rfl,s' _ _ q9⟩
 rintro σ H1 ⟨v1,v2,v3,v4,v5,rfl,q1⟩;walk_at "W";exact k _
theorem all_mk{l:W.OpenLaw}{w:World}{K:W.Frag}{h:Heap}{mg:Str->Option Value}{fa:Addr}(X:K.In h)(G:h.Ns mainGlobals mg)(hfa:mg "law"=some (.ref fa))
 {f0:Addr}{g0:FuncData}
 {f1:Addr}{g1:FuncData}
 {f2:Addr}{g2:FuncData}
 {f3:Addr}{g3:FuncData}
 {f4:Addr}{g4:FuncData}
 {f5:Addr}{g5:FuncData}
 {f6:Addr}{g6:FuncData}
 {f7:Addr}{g7:FuncData}
 {f8:Addr}{g8:FuncData}
 {f9:Addr}{g9:FuncData}
 {f10:Addr}{g10:FuncData}
 {tk0:Tok}
 {tk1:Tok}
 (a0:W.nsIn K mainGlobals "mark_of"=some (some (.ref f0)))
 (u0:Fun K "mark_of" "mark_of" z7_ f0 g0)
 (a1:W.nsIn K mainGlobals "place_of"=some (some (.ref f1)))
 (u1:Fun K "place_of" "place_of" z8_ f1 g1)
 (a2:W.nsIn K mainGlobals "point_of"=some (some (.ref f2)))
 (u2:Fun K "point_of" "point_of" z9_ f2 g2)
 (a3:W.nsIn K mainGlobals "stretch_of"=some (some (.ref f3)))
 (u3:Fun K "stretch_of" "stretch_of" z10_ f3 g3)
 (a4:W.nsIn K mainGlobals "_law_stream"=some (some (.ref f4)))
 (u4:Fun K "_law_stream" "_law_stream" z5_ f4 g4)
 (a5:W.nsIn K mainGlobals "_law_take"=some (some (.ref f5)))
 (u5:Fun K "_law_take" "_law_take" z6_ f5 g5)
 (a6:W.nsIn K mainGlobals "_law_mixer"=some (some (.ref f6)))
 (u6:Fun K "_law_mixer" "_law_mixer" z3_ f6 g6)
 (a7:W.nsIn K mainGlobals "_law_key"=some (some (.ref f7)))
 (u7:Fun K "_law_key" "_law_key" z1_ f7 g7)
 (a8:W.nsIn K mainGlobals "_law_parted"=some (some (.ref f8)))
 (u8:Fun K "_law_parted" "_law_parted" z4_ f8 g8)
 (a9:W.nsIn K mainGlobals "_law_marked"=some (some (.ref f9)))
 (u9:Fun K "_law_marked" "_law_marked" z2_ f9 g9)
 (a10:W.nsIn K mainGlobals "law"=some (some (.ref f10)))
 (u10:Fun K "law" "law" z0_ f10 g10)
 (cst0:W.nsIn K mainGlobals "MARK_BITS"=some (some (.int 16 tk0)))
 (cst1:W.nsIn K mainGlobals "MARKS"=some (some (.int 65536 tk1)))
 (blt0:W.nsIn K mainGlobals "int"=some none)
 (blt1:W.nsIn K mainGlobals "range"=some none)
 (blt2:W.nsIn K mainGlobals "sorted"=some none) :
 ∃ fd:FuncData,(∀(s:Shared) (v:Value),BindsTo s fd ⟨[v],[]⟩ [("script",v)]) /\ ∀ base:Heap,K.In base->base.Ns mainGlobals mg->FnOk l.prog w K mg base CX0 4 fa fd ["script"] (spLaw K):=by
 have e:=hfa.symm.trans (W.mg_of X G a10);cases e;have g:Gs mg:=⟨⟨_,W.mg_of X G cst0⟩,⟨_,W.mg_of X G cst1⟩,W.mg_none_of X G blt0,W.mg_none_of X G blt1,W.mg_none_of X G blt2⟩;have FL:=u10;obtain⟨oc,od,kV,dc,pm,an,cd,ct,sl,rfl,_,_⟩:=id FL.ex;refine⟨W.fnOf "law" "law" (defArgs z0_) (defBody z0_) (defScope z0_) .none kV dc pm an cd ct,fun s v=>.of_eq rfl,fun base _ _=>?_⟩;have T0:=q8_ (P:=l.prog) (w:=w) (base:=base) ⟨_,_,u0,W.mg_of X G a0,SW.bd2 u0⟩ g;have T1:=q12_ (P:=l.prog) (w:=w) (base:=base) ⟨_,_,u1,W.mg_of X G a1,SW.bd2 u1⟩;have T2:=q14_ (P:=l.prog) (w:=w) (base:=base) ⟨_,_,u2,W.mg_of X G a2,SW.bd1 u2⟩ g;have T3:=q17_ (P:=l.prog) (w:=w) (base:=base) ⟨_,_,u3,W.mg_of X G a3,SW.bd2 u3⟩ g T2;have T4:=q16_ (P:=l.prog) (w:=w) (base:=base) ⟨_,_,u4,W.mg_of X G a4,SW.bd1 u4⟩ g;have T5:=q19_ (P:=l.prog) (w:=w) (base:=base) ⟨_,_,u5,W.mg_of X G a5,SW.bd2 u5⟩;have T6:=q11_ (P:=l.prog) (w:=w) (base:=base) ⟨_,_,u6,W.mg_of X G a6,SW.bd1 u6⟩ T5;have T7:=q0_ (P:=l.prog) (w:=w) (base:=base) ⟨_,_,u7,W.mg_of X G a7,SW.bd1 u7⟩ T5;have T8:=q7_ (P:=l.prog) (w:=w) (base:=base) ⟨_,_,u8,W.mg_of X G a8,SW.bd1 u8⟩ g T3;have T9:=q10_ (P:=l.prog) (w:=w) (base:=base) ⟨_,_,u9,W.mg_of X G a9,SW.bd2 u9⟩ g T1 T2 T3;exact ok_law FL g T0 T4 T5 T6 T7 T8 T9
theorem walk{l:W.OpenLaw}{q:Program}{loose:List Str}{XP:(Str->Option Value)->Heap->Prop}{YP:World->Heap->Prop}{d:DefRec}{K:Params->W.Frag}(hn:l.most=some 63)(hdf:d.params.defaults=[])
 (hY:∀(w:World) (h:Heap),YP w h->(K w.params).In h)
 (F:∀(w:World) (mg:Str->Option Value) (fa:Addr) (h:Heap),(K w.params).In h->h.Ns mainGlobals mg->mg d.name=some (.ref fa) ->
  ∃ fd:FuncData,(∀(s:Shared) (u:Value),BindsTo s fd ⟨[u],[]⟩ [("script",u)]) /\ ∀ base:Heap,(K w.params).In base->base.Ns mainGlobals mg->FnOk l.prog w (K w.params) mg base CX0 4 fa fd ["script"] (spLaw (K w.params))) :
 W.WalkO q loose XP YP l.row.toRowW d [] (fun f vs=>PySem.call f vs):=
 L2.walk_of (n:=63) (k:=4) (x:="script") (CX:=fun _=>CX0) (sp:=fun w=>spLaw (K w.params)) hn (by decide) hdf ⟨rfl,by decide,by decide⟩ hY F (fun _ _ a ns hl _ hS=>⟨a,ns,rfl,hS,hl,fun _=>rfl⟩) fun _ _ _ _ _ z=>z
end
end
end K
open PySem PySem.W PyProof.Rows L2
local macro_rules | `(tactic| walk_at "F")=>`(tactic| (refine' L2.fun_mk ?l ?c ?k;(case l=>k_is);(case c=>k_is);(case k=>k_is)))
set_option maxRecDepth 100000 in
set_option maxHeartbeats 0 in
theorem PySem.Challenge.cw_slowshift_k03_whole_points_are_parted_holds : PySem.Challenge.rw_slowshift_k03_whole_points_are_parted.Holds := by
 w_on;o_law;z_head;(case hw=>w_witness2)
 k_fill
 refine SW.walkX (fun _=>by kernel_rfl) (K.walk (l:=PySem.Challenge.rw_slowshift_k03_whole_points_are_parted) rfl rfl (fun w h Y=>Y) ?F)
 case F=>
  intro w mg fa h KX G hmg
  refine' K.all_mk KX G hmg ?a0 ?u0 ?a1 ?u1 ?a2 ?u2 ?a3 ?u3 ?a4 ?u4 ?a5 ?u5 ?a6 ?u6 ?a7 ?u7 ?a8 ?u8 ?a9 ?u9 ?a10 ?u10 ?cst0 ?cst1 ?blt0 ?blt1 ?blt2
  (case a0=>k_is)
  (case u0=>walk_at "F")
  (case a1=>k_is)
  (case u1=>walk_at "F")
  (case a2=>k_is)
  (case u2=>walk_at "F")
  (case a3=>k_is)
  (case u3=>walk_at "F")
  (case a4=>k_is)
  (case u4=>walk_at "F")
  (case a5=>k_is)
  (case u5=>walk_at "F")
  (case a6=>k_is)
  (case u6=>walk_at "F")
  (case a7=>k_is)
  (case u7=>walk_at "F")
  (case a8=>k_is)
  (case u8=>walk_at "F")
  (case a9=>k_is)
  (case u9=>walk_at "F")
  (case a10=>k_is)
  (case u10=>walk_at "F")
  (case cst0=>k_is)
  (case cst1=>k_is)
  (case blt0=>k_is)
  (case blt1=>k_is)
  (case blt2=>k_is)

